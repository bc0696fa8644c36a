/-
  The laws' own Places.
-/
import Derived.Test.YtdlbkgehgbacmaaHd5
import Derived.Test.YtdlbkgehgbacmaaS5f
namespace Go.Proofs.Ytdlbkgehgbacmaa
open Go.RowKit

section
variable {P : Program} (w : World)
theorem run_append_int (base : Nat) (t ty e : TypeId) (i : TypeInfo) (ht : P.underlying t = some (.slice e)) (hi : P.info? e = some i) (hz : i.zero = some (.int .i64 0)) (hsize : i.size = 1) (hby : i.bytes = 8)
    (v : Value) (n : Nat) (xs : List Value) (hown : w.ownsRow base e 1 v n xs) (g : Nat) (k : Int) (hc : w.cell? ⟨g, 0, none⟩ = some (.int .i64 k)) (hb : n + 1 ≤ 1000000) (hbase : base ≤ w.heap.size) :
    ∃ v' w', (Builtin.append_ #[t, t] ty #[v, .slice (some ⟨g, 0, none⟩) 1 1]).run P w = .ok v' w' ∧ w'.ownsRow base e 1 v' (n + 1) (xs ++ [.int .i64 k]) ∧ w.grownBy w' v.ownBlock := by
  obtain ⟨v', w', h1, h2, h3, _⟩ := run_append_own (P := P) w base t ty e i (.int .i64 0) 1 8 ht hi hz hsize hby rfl (by decide) v n xs hown ⟨g, 0, none⟩ 1 1 [.int .i64 k] (by simp) (by
    intro j u hu
    obtain ⟨hj, hu⟩ := List.getElem?_eq_some_iff.1 hu
    have : j = 0 := by simpa using hj
    subst this
    rw [Addr.add_lit]
    simp at hu
    rw [← hu]
    exact hc) (ints_oneCell .i64 [k]) (by unfold maxLen; omega) (by omega) hbase
  exact ⟨v', w', h1, h2, h3⟩

theorem wpList_append_int {ops : Array Oper} {rest : List Oper} {o : Oper} {a : Act} {Q : Exit → Act → World → Prop} (hgd : o.guard = none) (s x : Operand) (t : TypeId)
    (ho : o.op = .call { callee := .builtin .append, args := #[s, x], argTypes := #[t, t] })
    (base : Nat) (e : TypeId) (i : TypeInfo) (ht : P.underlying t = some (.slice e)) (hi : P.info? e = some i) (hz : i.zero = some (.int .i64 0)) (hsize : i.size = 1) (hby : i.bytes = 8)
    (v : Value) (n : Nat) (xs : List Value) (hs : a.eval s = v) (hown : w.ownsRow base e 1 v n xs) (g : Nat) (k : Int) (hx : a.eval x = .slice (some ⟨g, 0, none⟩) 1 1) (hc : w.cell? ⟨g, 0, none⟩ = some (.int .i64 k))
    (hb : n + 1 ≤ 1000000) (hbase : base ≤ w.heap.size)
    (h : ∀ v' w', w'.ownsRow base e 1 v' (n + 1) (xs ++ [.int .i64 k]) → w.grownBy w' v.ownBlock → wpList P ops Q rest (a.put o.dst v') w') : wpList P ops Q (o :: rest) a w := by
  refine wpList_plain hgd fun K hK => ?_
  obtain ⟨v', w', hr, h2, h3⟩ := run_append_int (P := P) w base t o.type e i ht hi hz hsize hby v n xs hown g k hc hb hbase
  unfold Oper.wp
  simp [execOp, ho, resolve, invoke, builtin, hs, hx, hr, Result.andThen]
  exact hK _ _ (h v' w' h2 h3)
end

theorem infoI : (Try.prog.info? 3).map (fun i => (i.zero, i.size, i.bytes)) = some (some (.int .i64 0), 1, 8) := by kernel_rfl

/-- The call owns these places. -/
def OwnI (base : Nat) (w : World) (v : Value) (l : List Nat) : Prop := w.ownsRow base 3 1 v l.length ((ints l).map (Value.int .i64))

theorem OwnI.nil (base : Nat) (w : World) : OwnI base w (.slice none 0 0) [] := World.ownsRow_nil _ _ _ _
theorem OwnI.snoc {base : Nat} {w : World} {v : Value} {l : List Nat} {k : Nat} (h : w.ownsRow base 3 1 v (l.length + 1) ((ints l).map (Value.int .i64) ++ [.int .i64 (k : Int)])) : OwnI base w v (l ++ [k]) := by
  unfold OwnI
  rw [List.length_append, ints, List.map_append, List.map_append]
  exact h
theorem OwnI.keep {base : Nat} {w w' : World} {v : Value} {l : List Nat} (h : OwnI base w v l) (k : ∀ b, base ≤ b → b < w.heap.size → w'.heap[b]? = w.heap[b]?) : OwnI base w' v l := by
  refine ⟨h.1, ?_⟩
  rcases h.2 with h' | ⟨g, cap, cur, h1, h2, h3, h4⟩
  · exact .inl h'
  · exact .inr ⟨g, cap, cur, h1, h2, (k g h2 (Array.getElem?_eq_some_iff.1 h3).1).trans h3, h4⟩
theorem OwnI.shape {base : Nat} {w : World} {v : Value} {l : List Nat} (h : OwnI base w v l) : (v = .slice none 0 0 ∧ l = []) ∨ ∃ g cap, v = .slice (some ⟨g, 0, none⟩) l.length cap ∧ base ≤ g ∧ g < w.heap.size ∧ l.length ≤ cap ∧ cap ≤ maxLen ∧ ∀ j, j < l.length → w.cell? ⟨g, j, none⟩ = some (.int .i64 ((cf l j : Nat) : Int)) := by
  rcases h.2 with ⟨h', h0⟩ | ⟨g, cap, cur, h1, h2, h3, h4, h5, h6, h7⟩
  · exact .inl ⟨h', List.eq_nil_of_length_eq_zero h0⟩
  · refine .inr ⟨g, cap, h1, h2, (Array.getElem?_eq_some_iff.1 h3).1, h4, h5, fun j hj => ?_⟩
    have e : (cur.toList.take (l.length * 1))[j]? = ((ints l).map (Value.int .i64))[j]? := by rw [h7]
    rw [List.getElem?_take, if_pos (by omega), Array.getElem?_toList] at e
    have h8 : cur[j]? = some (.int .i64 ((cf l j : Nat) : Int)) := by
      rw [e, List.getElem?_map, ints, List.getElem?_map, cf_get hj]
      rfl
    simp [World.cell?, h3, h8]
theorem OwnI.arg {base : Nat} {w : World} {v : Value} {l : List Nat} (h : OwnI base w v l) : ∃ g, IArg w v g l ∧ base ≤ g := by
  rcases h.shape with ⟨rfl, rfl⟩ | ⟨g, cap, rfl, h1, h2, h3, h4, h5⟩
  · exact ⟨base, ⟨none, 0, rfl, by simp, by simp, fun _ => rfl, .inl rfl⟩, Nat.le_refl _⟩
  · refine ⟨g, ⟨some ⟨g, 0, none⟩, cap, rfl, h3, h4, (fun h => by cases h), .inr ⟨0, rfl, fun j hj => ?_⟩⟩, h1⟩
    rw [ints_len] at hj
    rw [Nat.zero_add, ints_getD]
    exact h5 j hj

theorem take_mem {ps : List Nat} {j k : Nat} (hj : j < ps.length) : k ∈ ps.take (j + 1) ↔ k ∈ ps.take j ∨ cf ps j = k := by
  have : ps.take (j + 1) = ps.take j ++ [cf ps j] := by
    rw [List.take_succ_eq_append_getElem hj]
    have := cf_get hj
    rw [List.getElem?_eq_getElem hj] at this
    simp at this
    rw [this]
  rw [this, List.mem_append, List.mem_singleton]
  exact ⟨fun h => h.imp id Eq.symm, fun h => h.imp id Eq.symm⟩

set_option maxRecDepth 100000 in
set_option maxHeartbeats 8000000 in
theorem places_any {w : World} (ao : Option Addr) (g len cap : Nat) (zs : List Int) (hz : zs.length = len) (hr : IRow w ao g zs) (hcap : len ≤ cap) (hm : cap ≤ maxLen) (hb : ∀ z ∈ zs, -9223372036854775808 ≤ z ∧ z ≤ 9223372036854775807) (n most : Nat) (hn0 : 0 < n) (hn1 : n < 1000) (hmo : most ≤ 1000) :
    Calls Try.prog 17 #[.slice ao len cap, .int .i64 (n : Int), .int .i64 (most : Int)] w fun e w' => ∃ v ps, e = .returned v ∧ ps.Nodup ∧ (∀ k ∈ ps, k < n) ∧ ps.length ≤ most ∧ OwnI w.heap.size w' v ps ∧ Below w.heap.size w w' := by
  obtain ⟨i0, hi0, hz0, hz1, hz2⟩ := info_parts infoI
  have HI := hide hi0
  have HR := hide hr
  have HZ := hide hz
  have HBO := hide hb
  clear hr hi0 hz hb
  have hlen : (len : Int) ≤ 9223372036854775807 := by unfold maxLen at hm; omega
  go_enter Try.func17, Try.ntmps17
  go_wp2_with fail
  go_loopw [7, 8] (fun v p wr => ∃ (i : Nat) (ps : List Nat) (v0 : Value), v = v0 ∧ p = .int .i64 i ∧ i ≤ len ∧ ps.Nodup ∧ (∀ k ∈ ps, k < n) ∧ ps.length ≤ most ∧ OwnI w.heap.size wr v ps ∧ Kp [] w wr) (fun _ p _ => len - (intOf p).toNat)
  case atStart => exact ⟨0, [], _, rfl, rfl, by omega, by simp, by simp, by simp, OwnI.nil _ _, Kp.refl _ _⟩
  case round =>
    obtain ⟨i, ps, v, rfl, rfl, hi, hnd, hlt24, hpl, hO, hK⟩ := hrel
    have HO := hide hO
    have HK := hide hK
    have HND := hide hnd
    have H224 := hide hlt24
    obtain ⟨vo, vc, rfl, hsh⟩ : ∃ vo vc, u7 = .slice vo ps.length vc ∧ ((vo = none ∧ ps = []) ∨ ∃ q, vo = some ⟨q, 0, none⟩ ∧ ∀ j, j < ps.length → wr.cell? ⟨q, j, none⟩ = some (.int .i64 ((cf ps j : Nat) : Int))) := by
      rcases hO.shape with ⟨h1, h2⟩ | ⟨q, cq, h1, h2, h3, h4, h5, h6⟩
      · exact ⟨none, 0, by rw [h1, h2]; rfl, .inl ⟨rfl, h2⟩⟩
      · exact ⟨some ⟨q, 0, none⟩, cq, h1, .inr ⟨q, rfl, h6⟩⟩
    have HSH := hide hsh
    have hsz := hK.size
    clear hO hK hnd hlt24 hsh
    by_cases hlt : i < len
    · have hi1 : (i : Int) < (len : Int) := by omega
      by_cases hmm : ps.length < most
      · have hm1 : (ps.length : Int) < (most : Int) := by omega
        obtain ⟨o, rfl, hcl⟩ := irow_some' (unhide HR) (by rw [unhide HZ]; omega)
        have hc := hcl i (by rw [unhide HZ]; exact hlt)
        have hcw := (unhide HK).cell hc (by simp)
        clear hcl hc
        obtain ⟨z, hzz⟩ : ∃ z, zs.getD i 0 = z := ⟨_, rfl⟩
        rw [hzz] at hcw
        clear hzz
        go_wp2_with fail
        refine (within4_any z n wr (by omega) (by omega)).mono ?_
        rintro e w' ⟨rfl, hw'⟩
        subst hw'
        obtain ⟨k, hk⟩ : ∃ k : Nat, z % (n : Int) = (k : Int) := ⟨(z % (n : Int)).toNat, by have := Int.emod_nonneg z (show (n : Int) ≠ 0 by omega); omega⟩
        have hk2 : k < n := by have := Int.emod_lt_of_pos z (show (0 : Int) < n by omega); omega
        rw [hk]
        clear hk hcw
        go_wp2_with fail
        go_loop [10, 11] (fun b q => ∃ (j : Nat) (y : Bool), b = .bool y ∧ q = .int .i64 j ∧ j ≤ ps.length ∧ (y = true ↔ k ∈ ps.take j)) (fun _ q => ps.length - (intOf q).toNat)
        case atStart => exact ⟨0, false, rfl, rfl, by omega, by simp⟩
        case round =>
          obtain ⟨j, y, rfl, rfl, hj, hy⟩ := hrel
          have HY := hide hy
          clear hy
          by_cases hj2 : j < ps.length
          · have hj1 : (j : Int) < (ps.length : Int) := by omega
            cases y with
            | true =>
              go_wp2_with fail
              go_round
              case rel => exact ⟨j + 1, true, rfl, by go_num, by omega, by rw [take_mem hj2]; exact ⟨fun h => .inl ((unhide HY).1 h), fun _ => rfl⟩⟩
              case measure => simp [intOf]; omega
            | false =>
              have hno : ¬ k ∈ ps.take j := fun h => by have := (unhide HY).2 h; cases this
              have hcq : ∃ q, vo = some ⟨q, 0, none⟩ ∧ w'.cell? ⟨q, j, none⟩ = some (.int .i64 ((cf ps j : Nat) : Int)) := by
                rcases unhide HSH with ⟨_, h⟩ | ⟨q, h1, h2⟩
                · rw [h] at hj2; simp at hj2
                · exact ⟨q, h1, h2 j hj2⟩
              obtain ⟨q, rfl, hcq⟩ := hcq
              by_cases he : cf ps j = k
              · have he1 : (((cf ps j : Nat) : Int) == (k : Int)) = true := by rw [he]; simp
                go_wp2_with fail
                go_round
                case rel => exact ⟨j + 1, true, rfl, by go_num, by omega, by rw [take_mem hj2]; exact ⟨fun _ => .inr he, fun _ => rfl⟩⟩
                case measure => simp [intOf]; omega
              · have he1 : (((cf ps j : Nat) : Int) == (k : Int)) = false := by rw [beq_eq_false_iff_ne]; omega
                go_wp2_with fail
                go_round
                case rel => exact ⟨j + 1, false, rfl, by go_num, by omega, by rw [take_mem hj2]; exact ⟨fun h => (by cases h), fun h => h.elim (fun h => absurd h hno) (fun h => absurd h he)⟩⟩
                case measure => simp [intOf]; omega
          · have hj3 : j = ps.length := by omega
            subst hj3
            have hy := unhide HY
            rw [List.take_length] at hy
            cases y with
            | true =>
              go_wp2_with fail
              go_roundw
              case rel => exact ⟨i + 1, ps, _, rfl, by go_num, by omega, unhide HND, unhide H224, hpl, unhide HO, unhide HK⟩
              case measure => simp [intOf]; omega
            | false =>
              have hno : ¬ k ∈ ps := fun h => by have := hy.2 h; cases this
              have HNO := hide hno
              clear hy hno
              have HO2 : Hid (OwnI w.heap.size (w'.alloc (.cells #[.int .i64 (k : Int)] 3)) (.slice vo ps.length vc) ps) := (unhide HO).keep (fun b _ hb => Below.heap_alloc _ _ _ hb)
              have HC2 := hide (cell_new' w' (.int .i64 (k : Int)) 3).1
              have HK2 := hide ((unhide HK).alloc (.cells #[.int .i64 (k : Int)] 3))
              go_wp2_with (at_builtin; refine wpList_append_int _ rfl _ _ 31 rfl w.heap.size 3 i0 Try.underlying31 (unhide HI) hz0 hz1 hz2 (.slice vo ps.length vc) ps.length _ rfl (unhide HO2) w'.heap.size (k : Int) rfl (unhide HC2) (by omega) (by simp; omega) ?_)
              intro v2 w2 ho hg
              have HO3 := hide (OwnI.snoc ho)
              have HK3 := hide ((unhide HK2).grown hg (fun b e => by
                have hsh := unhide HO2
                rcases hsh.shape with ⟨h1, _⟩ | ⟨q, cq, h1, h2, _⟩
                · rw [h1] at e; cases e
                · rw [h1] at e; cases e; exact .inr h2))
              clear ho hg
              go_wp2_with fail
              go_roundw
              case rel => exact ⟨i + 1, ps ++ [k], _, rfl, by go_num, by omega, List.nodup_append.2 ⟨unhide HND, by simp, by simp; intro a ha e; exact unhide HNO (e ▸ ha)⟩, by
                intro a ha
                rcases List.mem_append.1 ha with h | h
                · exact unhide H224 a h
                · rw [List.mem_singleton.1 h]; exact hk2, by simp; omega, unhide HO3, unhide HK3⟩
              case measure => simp [intOf]; omega
      · have hm1 : (most : Int) ≤ (ps.length : Int) := by omega
        go_wp2
        go_ret
        exact ⟨_, ps, rfl, unhide HND, unhide H224, hpl, unhide HO, (unhide HK).below⟩
    · have hi2 : i = len := by omega
      subst hi2
      go_wp2
      go_ret
      exact ⟨_, ps, rfl, unhide HND, unhide H224, hpl, unhide HO, (unhide HK).below⟩

theorem ints_nodup {l : List Nat} (h : l.Nodup) : (ints l).Nodup := List.Pairwise.map _ (fun _ _ hne e => hne (by omega)) h
/-- Places as numbers that may be lost. -/
theorem places_z {base : Nat} {w : World} {v : Value} {ps : List Nat} {n : Nat} (h : OwnI base w v ps) (hn : n ≤ 1000) (hb : ∀ k ∈ ps, k < n) : ∃ g, ZArg w v g (ints ps) ∧ base ≤ g := by
  obtain ⟨g, ⟨ao, c, h1, h2, h3, h4, h5⟩, hg⟩ := h.arg
  refine ⟨g, ⟨⟨ao, c, by rw [ints_len]; exact h1, by rw [ints_len]; exact h2, h3, h4, h5⟩, fun z hz => ?_⟩, hg⟩
  obtain ⟨k, hk, rfl⟩ := List.mem_map.1 hz
  have := hb k hk
  omega

end Go.Proofs.Ytdlbkgehgbacmaa
