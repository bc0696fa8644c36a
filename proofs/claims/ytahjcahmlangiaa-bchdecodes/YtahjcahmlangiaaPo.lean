/-
  poly.doublings, round.all: n doubled, modulo 255, till it is n again.
-/
import Derived.Test.YtahjcahmlangiaaPm
namespace Go.Proofs.Ytahjcahmlangiaa
open Go.RowKit Go.Shelf
attribute [local go_sem] Oper.semAt_some

theorem mod_eq (n : Int) : (wrap64 (n.tmod 255 + 255)).tmod 255 = n % 255 := by
  have h1 := Int.tmod_lt_of_pos n (show (0 : Int) < 255 by omega)
  have h2 : -255 < n.tmod 255 := by
    have := Int.lt_tmod_of_pos n (show (0 : Int) < 255 by omega)
    omega
  have h3 : (n.tmod 255) % 255 = n % 255 := by rw [Int.tmod_def, Int.sub_mul_emod_self_left]
  rw [IntWalk.wrap64_in _ ⟨by omega, by omega⟩, Int.tmod_eq_emod_of_nonneg (by omega), Int.add_emod_right, h3]

set_option maxHeartbeats 1000000 in
theorem doublings_any (n : Int) (w : World) : Calls Try.prog 49 #[.int .i64 n] w fun e w' => e = .returned (.agg #[.int .i64 (n % 255), .func (.func 70) #[] #[]]) ∧ Below w.heap.size w w' := by
  go_enter Try.func49, Try.ntmps49
  go_wp2
  go_returns
  rw [mod_eq]
  exact ⟨rfl, (Below.refl _ w).alloc (Nat.le_refl _) _⟩

theorem twice_eq {m : Nat} (h : m < 255) : ((2 : Int) * (m : Int)).tmod 255 = ((2 * m % 255 : Nat) : Int) := by
  rw [Int.tmod_eq_emod_of_nonneg (by omega)]
  omega

set_option maxHeartbeats 1000000 in
theorem doublings1_any (m : Nat) (hm : m < 255) (w : World) : Calls Try.prog 70 #[.int .i64 m] w fun e w' => e = .returned (.int .i64 (2 * m % 255 : Nat)) ∧ w' = w := by
  go_enter Try.func70, Try.ntmps70
  go_wp2
  go_ret
  rw [← twice_eq hm]
  exact ⟨rfl, rfl⟩

/-- The box that the round's iterator has caught. -/
structure CapR (w : World) (B : Nat) (a : Int) (g : Nat) : Prop where
  c0 : w.cell? ⟨B, 0, none⟩ = some (.int .i64 a)
  c1 : w.cell? ⟨B, 1, none⟩ = some (.func (.func g) #[] #[])

theorem CapR.kq {S : List Nat} {n : Nat} {w w' : World} {B : Nat} {a : Int} {g : Nat} (h : CapR w B a g) (k : Kq S n w w') (hc : B < n) (sc : B ∉ S) : CapR w' B a g :=
  ⟨k.cell h.c0 hc sc, k.cell h.c1 hc sc⟩
theorem CapR.below {w w' : World} {B : Nat} {a : Int} {g : Nat} (h : CapR w B a g) (k : Below w.heap.size w w') : CapR w' B a g :=
  ⟨(k.cell (block_lt_of_cell h.c0)).trans h.c0, (k.cell (block_lt_of_cell h.c1)).trans h.c1⟩

set_option maxHeartbeats 1000000 in
theorem all_any (a : Int) (g : Nat) (w : World) : Calls Try.prog 50 #[.agg #[.int .i64 a, .func (.func g) #[] #[]]] w fun e w' => 
    ∃ B, e = .returned (.func (.func 71) #[] #[.pointer (some ⟨B, 0, none⟩)]) ∧ CapR w' B a g ∧ w.heap.size ≤ B ∧ B < w'.heap.size ∧ Below w.heap.size w w' := by
  go_enter Try.func50, Try.ntmps50
  go_wp2
  go_ret
  exact ⟨_, rfl, ⟨cell_of_two0 (World.alloc_heap_new w _), cell_of_two1 (World.alloc_heap_new w _)⟩, Nat.le_refl _, by simp, (Below.refl _ w).alloc (Nat.le_refl _) _⟩

theorem orb_facts : ∀ n : Fin 255, ∀ i : Fin 8, 2 * (n.val * 2 ^ i.val % 255) % 255 = n.val ∨ (i.val < 7 ∧ (orbF 8 n.val (2 * (n.val * 2 ^ i.val % 255) % 255)).length < (orbF 8 n.val (n.val * 2 ^ i.val % 255)).length) := by decide +kernel
theorem orb_next (n i : Nat) : 2 * (n * 2 ^ i % 255) % 255 = n * 2 ^ (i + 1) % 255 := by
  rw [Nat.mul_mod, Nat.mod_mod, ← Nat.mul_mod, show 2 * (n * 2 ^ i) = n * 2 ^ (i + 1) from by rw [Nat.pow_succ]; ac_rfl]

set_option maxRecDepth 100000 in
set_option maxHeartbeats 4000000 in
theorem all_in (S : List Nat) (n l B n₀ st : Nat) (hst : st < 255) (J Jx : List (Fin 255) → World → Prop)
    (hY : ∀ pre (x : Fin 255) W, J pre W → pre.length < 8 → YieldAt Fence.wide (n - 1) Try.prog l #[.int .i64 x.val] W fun e W' =>
      (e = .returned (.bool true) ∧ J (pre ++ [x]) W' ∧ Kq S n₀ W W') ∨ (e = .returned (.bool false) ∧ Jx (pre ++ [x]) W'))
    (W : World) (hcap : CapR W B st 70) (hB : B < n₀) (sB : B ∉ S) (h0 : J [] W) :
    CallsIn Fence.wide n Try.prog 71 #[.func (.yield l) #[] #[], .pointer (some ⟨B, 0, none⟩)] W fun e W' => (∃ v, e = .returned v) ∧
      ((∃ ys, ys.map Fin.val = orb st ∧ J ys W') ∨ (∃ pre, True ∧ Jx pre W')) := by
  have hc0 := hcap.c0
  have HCAP := hide hcap
  clear hcap
  refine callsIn_of_wp Try.func71 rfl trivial ?_ rfl
  simp only [Try.ntmps71, List.size_toArray, List.length_cons, List.length_nil, Nat.reduceAdd, Nat.reduceSub, Array.replicate_succ, Array.replicate_zero, List.push_toArray, List.append_toArray, List.nil_append, List.cons_append]
  gi_wp2
  clear hc0
  gi_loopw [3] (fun p wr => ∃ (pre : List (Fin 255)) (m : Nat), p = .int .i64 m ∧ m < 255 ∧ pre.length < 8 ∧ m = st * 2 ^ pre.length % 255 ∧ pre.map Fin.val ++ orbF (8 - pre.length) st m = orb st ∧ J pre wr ∧ CapR wr B st 70) (fun p _ => (orbF 8 st (intOf p).toNat).length)
  case atStart => exact ⟨[], st, rfl, hst, by simp, by simp; omega, rfl, h0, unhide HCAP⟩
  case round =>
    obtain ⟨pre, m, rfl, hm, hl, hmm, hp, hJ1, hc⟩ := hrel
    have HP := hide hp
    have HMM := hide hmm
    clear hp hmm
    obtain ⟨fn, tmps, assign, body, hy1, hR⟩ := hY pre ⟨m, hm⟩ wr hJ1 hl
    dsimp only at hy1
    have HF := hide (orb_facts ⟨st, hst⟩ ⟨pre.length, hl⟩)
    have HP' : Hid ((pre ++ [(⟨m, hm⟩ : Fin 255)]).map Fin.val ++ (if 2 * m % 255 = st then [] else orbF (8 - (pre ++ [(⟨m, hm⟩ : Fin 255)]).length) st (2 * m % 255)) = orb st) := by
      show _ = _
      have h := unhide HP
      obtain ⟨k, hk⟩ : ∃ k, 8 - pre.length = k + 1 := ⟨8 - pre.length - 1, by omega⟩
      rw [hk, orbF] at h
      rw [← h, List.length_append, List.length_singleton, show 8 - (pre.length + 1) = k from by omega, List.map_append, List.append_assoc]
      rfl
    gi_wp2
    refine ⟨fun h => absurd h (by simp [Fence.wide]), hR.mono ?_⟩
    rintro e W3 (⟨rfl, hJ3, hk3⟩ | ⟨rfl, hJx3⟩)
    · have hc3 := hc.kq hk3 hB sB
      have c30 := hc3.c0
      have c31 := hc3.c1
      gi_wp2
      refine ⟨trivial, fun h => absurd h (by simp [Fence.wide]), (callsIn_wide.2 (doublings1_any m hm W3)).mono ?_⟩
      rintro e W3 ⟨rfl, rfl⟩
      obtain ⟨m', hm'⟩ : ∃ m', 2 * m % 255 = m' := ⟨_, rfl⟩
      rw [hm'] at HP'
      have hm'' : m' < 255 := by omega
      have HM' := hide hm'
      have HFF : Hid (m' = st ∨ (pre.length < 7 ∧ (orbF 8 st m').length < (orbF 8 st m).length)) := by
        have h := unhide HF
        rw [← unhide HMM, unhide HM'] at h
        exact h
      rw [hm']
      clear hm'
      by_cases he : m' = st
      · have he' : ((m' : Int) == (st : Int)) = true := by rw [he]; simp
        have HP2 := unhide HP'
        rw [if_pos he, List.append_nil] at HP2
        have HP3 := hide HP2
        clear HP2
        gi_wp2
        refine bodyPost_ret (results_none rfl _ _ _) rfl ?_
        exact ⟨⟨_, rfl⟩, .inl ⟨_, unhide HP3, hJ3⟩⟩
      · have he' : ((m' : Int) == (st : Int)) = false := by rw [beq_eq_false_iff_ne]; omega
        have HP2 := unhide HP'
        rw [if_neg he] at HP2
        have HP3 := hide HP2
        clear HP2
        have h7 : pre.length < 7 := ((unhide HFF).resolve_left he).1
        have HME := hide ((unhide HFF).resolve_left he).2
        gi_wp2
        go_roundw
        case rel => exact ⟨pre ++ [⟨m, hm⟩], m', rfl, hm'', by simp; omega, by rw [List.length_append, List.length_singleton, ← unhide HM', unhide HMM]; exact orb_next _ _, unhide HP3, hJ3, hc3⟩
        case measure => simp only [intOf, Int.toNat_natCast]; exact unhide HME
    · gi_wp2
      go_end0
      exact ⟨⟨_, rfl⟩, .inr ⟨pre ++ [⟨m, hm⟩], trivial, hJx3⟩⟩

theorem all_stops (S : List Nat) (n B n₀ st : Nat) (hst : st < 255) (w : World) (hcap : CapR w B st 70) (hB : B < n₀) (sB : B ∉ S) :
    SeqStopsK Fence.wide n Try.prog 71 #[.pointer (some ⟨B, 0, none⟩)] (fun x : Fin 255 => #[Value.int .i64 x.val]) (Kq S n₀) (fun ys => ys.map Fin.val = orb st) (fun _ => True) 8 w := fun l J Jx W hW _ _ hY h0 =>
  all_in S n l B n₀ st hst J Jx hY W (hcap.below hW) hB sB h0

end Go.Proofs.Ytahjcahmlangiaa
