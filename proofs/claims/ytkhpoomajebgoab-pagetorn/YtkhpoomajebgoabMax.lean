/-
  The laws' own within and Data.
  slices.Chunk of two pieces, and its iterator.
-/
import Derived.Test.YtkhpoomajebgoabMag
import Derived.Test.YtkhpoomajebgoabMao
import Derived.Test.YtkhpoomajebgoabMah
import Derived.Test.YtkhpoomajebgoabMaj
namespace Go.Proofs.Ytkhpoomajebgoab
open Go.RowKit

set_option maxRecDepth 100000 in
set_option maxHeartbeats 4000000 in
theorem data_any (v : Value) (g : Nat) (b : List Nat) (n : Nat) (hn : n ≤ 100) (w : World) (hA : Arg w v g b) :
    Calls Try.prog 6 #[v, .int .i64 (n : Int)] w fun e w' => ∃ v' d, e = .returned v' ∧ d.length = n ∧ Bs d ∧ Fr w.heap.size w' v' d ∧ Below w.heap.size w w' := by
  obtain ⟨⟨ao, c, rfl, hc1, hc2, hnil, hr⟩, hbs⟩ := hA
  have HR := hide hr
  clear hr hnil
  have hmk := run_zeros n (by omega)
  have HZ := hide (blk_zeros n w)
  have HK1 : Hid (Kp [] w (w.alloc (.cells (List.replicate n (Value.int .u8 0)).toArray 5))) := (Kp.refl [] w).alloc _
  obtain ⟨L, hL⟩ : ∃ L, b.length = L := ⟨_, rfl⟩
  rw [hL] at hc1 ⊢
  have HL := hide hL
  clear hL
  have hLm : (L : Int) ≤ 9223372036854775807 := by unfold maxLen at hc2; omega
  go_enter Try.func6, Try.ntmps6
  go_wp2_with fail
  clear hmk
  go_loopw [6] (fun p wr => ∃ (i : Nat) (s : List Nat), p = .int .i64 i ∧ i ≤ n ∧ s.length = n ∧ Bs s ∧ Blk wr w.heap.size s ∧ Kp [] w wr) (fun p _ => n - (intOf p).toNat)
  case atStart => exact ⟨0, _, rfl, by omega, by simp, Bs.zeros _, unhide HZ, unhide HK1⟩
  case round =>
    obtain ⟨i, s, rfl, hi, hsl, hsb, hB, hK⟩ := hrel
    have HB := hide hB
    have HK := hide hK
    have HSB := hide hsb
    clear hB hK hsb
    by_cases hlt : i < n
    · have hi1 : (i : Int) < (n : Int) := by omega
      by_cases hL0 : 0 < L
      · have hL1 : (0 : Int) < (L : Int) := by omega
        have hL2 : ¬ (L : Int) = 0 := by omega
        have hL3 : ¬ L = 0 := by omega
        obtain ⟨o, rfl⟩ := row_some (unhide HR) (by rw [unhide HL]; exact hL0)
        obtain ⟨m, hm⟩ : ∃ m, i % L = m := ⟨_, rfl⟩
        obtain ⟨q, hq⟩ : ∃ q, i / L = q := ⟨_, rfl⟩
        have hmL : m < L := by rw [← hm]; exact Nat.mod_lt _ hL0
        have hqi : q ≤ i := by rw [← hq]; exact Nat.div_le_self _ _
        have q1 : (i : Int).tmod (L : Int) = (m : Int) := by rw [Int.tmod_eq_emod_of_nonneg (by omega), ← hm]; simp
        have q2 : (i : Int).tdiv (L : Int) = (q : Int) := by rw [Int.tdiv_eq_ediv_of_nonneg (by omega), ← hq]; simp
        have q2' : (i : Int) / (L : Int) = (q : Int) := by rw [← hq]; simp
        have q1' : (i : Int) % (L : Int) = (m : Int) := by rw [← hm]; simp
        have q3 : IntKind.i64.wrap (q : Int) = (q : Int) := IntWalk.i64_in _ ⟨by omega, by omega⟩
        have q4 : IntKind.u8.wrap (q : Int) = (q : Int) := wraps_u8 _ (by omega) (by omega)
        have hm1 : (m : Int) < (L : Int) := by omega
        have hcm := row_cell (unhide HR) (j := m) (by rw [unhide HL]; exact hmL)
        have hgl := block_lt_of_cell hcm
        dsimp only at hgl
        have HC := hide ((unhide HK).cell hcm (by simp))
        have hcx := hbs m
        obtain ⟨x, hx⟩ : ∃ x, cf b m = x := ⟨_, rfl⟩
        rw [hx] at HC hcx
        have q5 : IntKind.u8.wrap ((x : Int) + (q : Int)) = (((x + q) % 256 : Nat) : Int) := by rw [wrap_u8]; omega
        clear hm hq hcm hx
        go_wp2_with fail
        refine wp_region_noPanic ?_
        refine wp_region_held_drew (S := fun W => Kp [w.heap.size] wr W) (by kernel_rfl) ((Kp.refl _ _).drew) (fun hHeld => ?_)
        have HH := hide hHeld
        clear hHeld
        refine takeL (i := 0) (v := ?_) rfl (by kernel_rfl) (by kernel_rfl) (by kernel_rfl) (fun _ _ _ h => h) (Or.inl ⟨by rfl, ?_⟩) (unhide HH) ?_
        rotate_left 1
        · intro W hSW; go_simp; all_goals (with_reducible rfl)
        (try simp only [Act.put, List.setIfInBounds_toArray, List.set_cons_zero, List.set_cons_succ])
        refine takeL (i := 1) (v := ?_) rfl (by kernel_rfl) (by kernel_rfl) (by kernel_rfl) (fun _ _ _ h => h) (Or.inl ⟨by rfl, ?_⟩) (unhide HH) ?_
        rotate_left 1
        · intro W hSW; go_simp; all_goals (with_reducible rfl)
        (try simp only [Act.put, List.setIfInBounds_toArray, List.set_cons_zero, List.set_cons_succ])
        refine takeL (i := 2) (v := ?_) rfl (by kernel_rfl) (by kernel_rfl) (by kernel_rfl) (fun _ _ _ h => h) (Or.inl ⟨by rfl, ?_⟩) (unhide HH) ?_
        rotate_left 1
        · intro W hSW; go_simp; all_goals (with_reducible rfl)
        (try simp only [Act.put, List.setIfInBounds_toArray, List.set_cons_zero, List.set_cons_succ])
        refine takeL (i := 3) (v := ?_) rfl (by kernel_rfl) (by kernel_rfl) (by kernel_rfl) (fun _ _ _ h => h) (Or.inl ⟨by rfl, ?_⟩) (unhide HH) ?_
        rotate_left 1
        · intro W hSW; go_simp; all_goals (with_reducible rfl)
        (try simp only [Act.put, List.setIfInBounds_toArray, List.set_cons_zero, List.set_cons_succ])
        refine takeL (i := 4) (v := ?_) rfl (by kernel_rfl) (by kernel_rfl) (by kernel_rfl) (fun _ _ _ h => h) (Or.inl ⟨by rfl, ?_⟩) (unhide HH) ?_
        rotate_left 1
        · intro W hSW; go_simp; all_goals (with_reducible rfl)
        (try simp only [Act.put, List.setIfInBounds_toArray, List.set_cons_zero, List.set_cons_succ])
        refine takeL (i := 5) (v := ?_) rfl (by kernel_rfl) (by kernel_rfl) (by kernel_rfl) (fun _ _ _ h => h) (Or.inl ⟨by rfl, ?_⟩) (unhide HH) ?_
        rotate_left 1
        · intro W hSW; go_simp; all_goals (with_reducible rfl)
        (try simp only [Act.put, List.setIfInBounds_toArray, List.set_cons_zero, List.set_cons_succ])
        refine takeL (i := 6) (v := ?_) rfl (by kernel_rfl) (by kernel_rfl) (by kernel_rfl) (fun _ _ _ h => h) (Or.inl ⟨by rfl, ?_⟩) (unhide HH) ?_
        rotate_left 1
        · intro W hSW; go_simp; all_goals (with_reducible rfl)
        (try simp only [Act.put, List.setIfInBounds_toArray, List.set_cons_zero, List.set_cons_succ])
        refine takeL (i := 7) (v := ?_) rfl (by kernel_rfl) (by kernel_rfl) (by kernel_rfl) (fun _ _ _ h => h) (Or.inl ⟨by rfl, ?_⟩) (unhide HH) ?_
        rotate_left 1
        · intro W hSW; go_simp; all_goals (with_reducible rfl)
        (try simp only [Act.put, List.setIfInBounds_toArray, List.set_cons_zero, List.set_cons_succ])
        refine takeL (i := 8) (v := ?_) rfl (by kernel_rfl) (by kernel_rfl) (by kernel_rfl) (fun _ _ _ h => h) (Or.inl ⟨by rfl, ?_⟩) (unhide HH) ?_
        rotate_left 1
        · intro W1 hSW; have hc := hSW.cell (unhide HC) (by simp; omega); clear hSW; go_simp; all_goals (with_reducible rfl)
        (try simp only [Act.put, List.setIfInBounds_toArray, List.set_cons_zero, List.set_cons_succ])
        refine takeL (i := 9) (v := ?_) rfl (by kernel_rfl) (by kernel_rfl) (by kernel_rfl) (fun _ _ _ h => h) (Or.inl ⟨by rfl, ?_⟩) (unhide HH) ?_
        rotate_left 1
        · intro W hSW; go_simp; all_goals (with_reducible rfl)
        (try simp only [Act.put, List.setIfInBounds_toArray, List.set_cons_zero, List.set_cons_succ])
        refine takeL (i := 10) (v := ?_) rfl (by kernel_rfl) (by kernel_rfl) (by kernel_rfl) (fun _ _ _ h => h) (Or.inl ⟨by rfl, ?_⟩) (unhide HH) ?_
        rotate_left 1
        · intro W hSW; go_simp; all_goals (with_reducible rfl)
        (try simp only [Act.put, List.setIfInBounds_toArray, List.set_cons_zero, List.set_cons_succ])
        refine takeL (i := 11) (v := ?_) rfl (by kernel_rfl) (by kernel_rfl) (by kernel_rfl) (fun _ _ _ h => h) (Or.inl ⟨by rfl, ?_⟩) (unhide HH) ?_
        rotate_left 1
        · intro W hSW; go_simp; all_goals (with_reducible rfl)
        (try simp only [Act.put, List.setIfInBounds_toArray, List.set_cons_zero, List.set_cons_succ])
        refine takeL (i := 12) (v := ?_) rfl (by kernel_rfl) (by kernel_rfl) (by kernel_rfl) (fun _ _ _ h => h) (Or.inl ⟨by rfl, ?_⟩) (unhide HH) ?_
        rotate_left 1
        · intro W hSW; go_simp; all_goals (with_reducible rfl)
        (try simp only [Act.put, List.setIfInBounds_toArray, List.set_cons_zero, List.set_cons_succ])
        refine takeL (i := 13) (v := ?_) rfl (by kernel_rfl) (by kernel_rfl) (by kernel_rfl) (fun _ _ _ h => h) (Or.inl ⟨by rfl, ?_⟩) (unhide HH) ?_
        rotate_left 1
        · intro W hSW; go_simp; all_goals (with_reducible rfl)
        (try simp only [Act.put, List.setIfInBounds_toArray, List.set_cons_zero, List.set_cons_succ])
        refine takeL (i := 14) (v := ?_) rfl (by kernel_rfl) (by kernel_rfl) (by kernel_rfl) (fun _ _ _ h => h) (Or.inl ⟨by rfl, ?_⟩) (unhide HH) ?_
        rotate_left 1
        · intro W hSW; go_simp; all_goals (with_reducible rfl)
        (try simp only [Act.put, List.setIfInBounds_toArray, List.set_cons_zero, List.set_cons_succ])
        refine takeL (i := 15) (v := ?_) rfl (by kernel_rfl) (by kernel_rfl) (by kernel_rfl) (fun _ _ _ h => h) (Or.inl ⟨by rfl, ?_⟩) (unhide HH) ?_
        rotate_left 1
        · intro W hSW; go_simp; all_goals (with_reducible rfl)
        (try simp only [Act.put, List.setIfInBounds_toArray, List.set_cons_zero, List.set_cons_succ])
        refine wpAnyH_ready (rs := [16]) (by kernel_rfl) (by simp) ?_
        refine consL rfl (fun K hK => ?_) AllReadyH.nil
        have hc4 := ((unhide HB).of (w' := wr.drew) rfl).cell (j := i) (by omega)
        have hf4 := ((unhide HB).of (w' := wr.drew) rfl).free (j := i)
        have HH2 := HH
        go_simp
        refine hK.out _ _ ((unhide HH2).setCell ⟨w.heap.size, i, none⟩ _ (.inl (by simp))) (fun hHeld => ?_)
        clear hHeld hK K hc4 hf4
        (try simp only [Act.put, List.setIfInBounds_toArray, List.set_cons_zero, List.set_cons_succ])
        refine wpAnyH_done (by kernel_rfl) ?_ _
        refine NoPanic.normal ?_
        go_wp2_with fail
        go_roundw
        case rel =>
          refine ⟨i + 1, s.set i ((x + q) % 256), by go_num, by omega, by simp [hsl], ?_, ?_, ?_⟩
          · intro j
            rw [cf_set _ _ _ _ (by omega)]
            split
            · omega
            · exact unhide HSB j
          · exact ((unhide HB).of (w' := wr.drew) rfl).set i _ (by omega)
          · exact (unhide HK).drew.setCell _ _ (.inr (Nat.le_refl _))
        case measure => simp [intOf]; omega
      · have hL2 : L = 0 := by omega
        subst hL2
        go_wp2
        go_ret
        exact ⟨_, s, rfl, hsl, unhide HSB, .inr ⟨w.heap.size, n, by rw [hsl]; rfl, by omega, by unfold maxLen; omega, unhide HB, Nat.le_refl _⟩, (unhide HK).below⟩
    · have hi2 : i = n := by omega
      subst hi2
      go_wp2
      go_ret
      exact ⟨_, s, rfl, hsl, unhide HSB, .inr ⟨w.heap.size, i, by rw [hsl]; rfl, by omega, by unfold maxLen; omega, unhide HB, Nat.le_refl _⟩, (unhide HK).below⟩

end Go.Proofs.Ytkhpoomajebgoab

namespace Go.Proofs.Ytkhpoomajebgoab
open Go.RowKit Go.Shelf

set_option maxHeartbeats 1000000 in
theorem chunk_any (v : Value) (L : Nat) (hL : L = 24 ∨ L = 28) (w : World) (hv : ∃ ao n c, v = .slice ao n c) : Calls Try.prog 24 #[v, .int .i64 (L : Int)] w fun e w' =>
    e = .returned (.func (.func 34) #[] #[.pointer (some ⟨w.heap.size, 0, none⟩), .pointer (some ⟨w.heap.size + 1, 0, none⟩)]) ∧ w'.cell? ⟨w.heap.size, 0, none⟩ = some v ∧ w'.cell? ⟨w.heap.size + 1, 0, none⟩ = some (.int .i64 (L : Int)) ∧ w'.heap.size = w.heap.size + 2 ∧ Below w.heap.size w w' := by
  obtain ⟨ao, n, c, rfl⟩ := hv
  have hb := (Below.refl _ w).alloc (Nat.le_refl _) (.cells #[.slice ao n c] 22)
  have h1 := box_below (cell_new' w (.slice ao n c) 22) ((Below.refl _ _).alloc (Nat.le_refl _) (.cells #[.int .i64 (L : Int)] 3)) (by simp)
  have h2 := cell_new' (w.alloc (.cells #[.slice ao n c] 22)) (.int .i64 (L : Int)) 3
  have hb2 := hb.alloc (by simp) (.cells #[.int .i64 (L : Int)] 3)
  simp only [World.size_alloc] at h1 h2
  have hc2 := h2.1
  have H1 := hide h1
  have H2 := hide h2
  have HB := hide hb2
  clear h1 h2 hb hb2
  have hl : ((L : Int) < 1) = False := by simp only [eq_iff_iff, iff_false]; omega
  go_enter Try.func24, Try.ntmps24
  go_wp2
  go_ret
  exact ⟨rfl, (unhide H1).1, (unhide H2).1, by simp, unhide HB⟩

set_option maxRecDepth 100000 in
set_option maxHeartbeats 4000000 in
theorem chunk_in (S : List Nat) (n l B n₀ L : Nat) (hL : L = 24 ∨ L = 28) (g o c : Nat) (hc : 2 * L ≤ c) (hcm : c ≤ maxLen) (J Jx : List (Fin 2) → World → Prop) (hJd : ∀ s W n, J s W → J s (W.drewN n))
    (hY : ∀ pre (x : Fin 2) W, J pre W → pre.length < 2 → YieldAt Fence.wide (n - 1) Try.prog l #[.slice (some ⟨g, o + L * x.val, none⟩) L L] W fun e W' =>
      (e = .returned (.bool true) ∧ J (pre ++ [x]) W' ∧ Kq S n₀ W W') ∨ (e = .returned (.bool false) ∧ Jx (pre ++ [x]) W'))
    (W : World) (h1 : W.cell? ⟨B, 0, none⟩ = some (.slice (some ⟨g, o, none⟩) (2 * L) c)) (h2 : W.cell? ⟨B + 1, 0, none⟩ = some (.int .i64 (L : Int))) (hB : B + 1 < n₀) (sB : B ∉ S) (sB1 : B + 1 ∉ S) (h0 : J [] W) :
    CallsIn Fence.wide n Try.prog 34 #[.func (.yield l) #[] #[], .pointer (some ⟨B, 0, none⟩), .pointer (some ⟨B + 1, 0, none⟩)] W fun e W' => (∃ v, e = .returned v) ∧
      ((∃ ys, ys.map Fin.val = [0, 1] ∧ J ys W') ∨ (∃ pre, True ∧ Jx pre W')) := by
  have H1 := hide h1
  have H2 := hide h2
  clear h1 h2
  obtain ⟨n2, hn2⟩ : ∃ n2, 2 * L = n2 := ⟨_, rfl⟩
  rw [hn2] at H1 hc
  have hmin := fun t ts x y w => min_two t ts x y w
  unfold maxLen at hcm
  refine callsIn_of_wp Try.func34 rfl trivial ?_ rfl
  simp only [Try.ntmps34, List.size_toArray, List.length_cons, List.length_nil, Nat.reduceAdd, Nat.reduceSub, Array.replicate_succ, Array.replicate_zero, List.push_toArray, List.append_toArray, List.nil_append, List.cons_append]
  gi_wp2
  gi_loopw [4] (fun q wr => ∃ (pre : List (Fin 2)) (j : Nat), q = .int .i64 ((L * j : Nat) : Int) ∧ j ≤ 2 ∧ pre.map Fin.val = List.range j ∧ J pre wr ∧ wr.cell? ⟨B, 0, none⟩ = some (.slice (some ⟨g, o, none⟩) n2 c) ∧ wr.cell? ⟨B + 1, 0, none⟩ = some (.int .i64 (L : Int))) (fun q _ => 2 * L - (intOf q).toNat)
  case atStart => exact ⟨[], 0, rfl, by omega, rfl, h0, unhide H1, unhide H2⟩
  case round =>
    obtain ⟨pre, j, rfl, hj, hp, hJ1, hc1, hc2⟩ := hrel
    have hl : pre.length = j := by have := congrArg List.length hp; simpa using this
    have HP := hide hp
    have HL := hide hl
    have HJ1 := hide hJ1
    have HC1 := hide hc1
    have HC2 := hide hc2
    obtain ⟨i, hi⟩ : ∃ i, L * j = i := ⟨_, rfl⟩
    have HI := hide hi
    rw [hi]
    by_cases hlt : j < 2
    · have hin : i + L ≤ n2 := by
        have : j = 0 ∨ j = 1 := by omega
        rcases this with rfl | rfl <;> omega
      have hi1 : (i : Int) < (n2 : Int) := by omega
      have hi2 : (i : Int) ≤ (n2 : Int) := by omega
      have hcn : i + L ≤ c := by omega
      have hmn : min (L : Int) ((n2 : Int) - (i : Int)) = (L : Int) := by omega
      have hmn2 : min (L : Int) ((n2 - i : Nat) : Int) = (L : Int) := by omega
      have hw1 : IntKind.i64.wrap ((i : Int) + (L : Int)) = ((i + L : Nat) : Int) := by rw [IntWalk.i64_in _ ⟨by omega, by omega⟩]; omega
      have hle : i ≤ i + L := by omega
      have hgn : i + L - i = L := by omega
      clear hp hl hJ1 hi
      gi_wp2
      refine wpIn_wide.2 ?_
      go_quiet (fail)
      have HC1' : Hid ((wr.drewN nq).cell? ⟨B, 0, none⟩ = some (.slice (some ⟨g, o, none⟩) n2 c)) := hc1
      have HC2' : Hid ((wr.drewN nq).cell? ⟨B + 1, 0, none⟩ = some (.int .i64 (L : Int))) := hc2
      have HJ2 : Hid (J pre (wr.drewN nq)) := hJd _ _ _ (unhide HJ1)
      obtain ⟨w2, hw2⟩ : ∃ w2, wr.drewN nq = w2 := ⟨_, rfl⟩
      rw [hw2] at HC1' HC2' HJ2 ⊢
      obtain ⟨fn, tmps, assign, body, hy1, hR⟩ := hY pre ⟨j, hlt⟩ w2 (unhide HJ2) (by rw [unhide HL]; exact hlt)
      dsimp only at hy1
      rw [unhide HI] at hy1
      have hc1' := unhide HC1'
      clear hw2 hc1 hc2 HC1 HC2 HJ1
      gi_wp2
      refine ⟨fun h => absurd h (by simp [Fence.wide]), hR.mono ?_⟩
      rintro e W3 (⟨rfl, hJ3, hk3⟩ | ⟨rfl, hJx3⟩)
      · have hc1 := hk3.cell (unhide HC1') (by show B < _; omega) sB
        have hc2 := hk3.cell (unhide HC2') (by show B + 1 < _; omega) sB1
        have HC1 := hide hc1
        gi_wp2
        go_roundw
        case rel => exact ⟨pre ++ [⟨j, hlt⟩], j + 1, by rw [Nat.mul_add, unhide HI, Nat.mul_one]; rfl, by omega, by rw [List.map_append, unhide HP, List.range_succ]; rfl, hJ3, unhide HC1, hc2⟩
        case measure => simp only [intOf, Int.toNat_natCast]; omega
      · gi_wp2
        refine bodyPost_ret (results_none rfl _ _ _) rfl ?_
        exact ⟨⟨_, rfl⟩, .inr ⟨pre ++ [(⟨j, hlt⟩ : Fin 2)], trivial, hJx3⟩⟩
    · have hj2 : j = 2 := by omega
      subst hj2
      have hin : i = n2 := by omega
      have hi1 : ¬ (i : Int) < (n2 : Int) := by omega
      clear hp hl hJ1 hi
      gi_wp2
      go_end0
      exact ⟨⟨_, rfl⟩, .inl ⟨pre, unhide HP, unhide HJ1⟩⟩

theorem chunk_stops (S : List Nat) (n B n₀ L : Nat) (hL : L = 24 ∨ L = 28) (g o c : Nat) (hc : 2 * L ≤ c) (hcm : c ≤ maxLen) (w : World) (h1 : w.cell? ⟨B, 0, none⟩ = some (.slice (some ⟨g, o, none⟩) (2 * L) c)) (h2 : w.cell? ⟨B + 1, 0, none⟩ = some (.int .i64 (L : Int))) (hB : B + 1 < n₀) (sB : B ∉ S) (sB1 : B + 1 ∉ S) :
    SeqStopsK Fence.wide n Try.prog 34 #[.pointer (some ⟨B, 0, none⟩), .pointer (some ⟨B + 1, 0, none⟩)] (fun x : Fin 2 => #[.slice (some ⟨g, o + L * x.val, none⟩) L L]) (Kq S n₀) (fun ys => ys.map Fin.val = [0, 1]) (fun _ => True) 2 w := fun l J Jx W hW hJ _ hY h0 =>
  chunk_in S n l B n₀ L hL g o c hc hcm J Jx (fun s A k h => hJ s A _ none h ⟨rfl, rfl, rfl, Nat.le_refl _, fun _ _ _ => rfl⟩ (fun r e => by cases e)) hY W ((hW.cell (p := ⟨B, 0, none⟩) (block_lt_of_cell h1)).trans h1) ((hW.cell (p := ⟨B + 1, 0, none⟩) (block_lt_of_cell h2)).trans h2) hB sB sB1 h0
end Go.Proofs.Ytkhpoomajebgoab
