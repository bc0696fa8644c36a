/-
  slices.AppendSeq, slices.Collect of ints.
-/
import Derived.Test.YtjdikhelabibnabGreatB6a
import Derived.Test.YtjdikhelabibnabGreatI6
namespace Go.Proofs.YtjdikhelabibnabGreat
open Go.RowKit Go.Shelf
attribute [local go_sem] Oper.semAt_some

theorem one_at {w : World} {g : Nat} {u : Value} (h : w.cell? ⟨g, 0, none⟩ = some u) : ∀ j v, [u][j]? = some v → w.cell? ((⟨g, 0, none⟩ : Addr).add j) = some v := by
  intro j v hv
  obtain ⟨hj, hv⟩ := List.getElem?_eq_some_iff.1 hv
  have : j = 0 := by simpa using hj
  subst this
  rw [Addr.add_lit]
  simp at hv
  rw [← hv]
  exact h

set_option maxRecDepth 100000 in
set_option maxHeartbeats 4000000 in
theorem appendSeq_any {α : Type} (gf : Nat) (lb : Array Value) (p : α → Nat) (D N : Nat) (S : List α → Prop) (hN : N ≤ 100000) (w : World) (hen : ∀ args W, (callFunc gf args).run Tryz.prog W = .ok (.enter gf args) W)
    (hseq : SeqY Tryz.prog gf lb (fun x : α => #[.int .i64 (p x : Nat)]) (fun k => k < w.heap.size) D S N w) :
    Calls Tryz.prog 57 #[.slice none 0 0, .func (.func gf) #[] lb] w fun e w' => ∃ v xs, e = .returned v ∧ S xs ∧ OwnI w.heap.size w' v (xs.map p) ∧ Below w.heap.size w w' := by
  refine (callsIn_wide (n := 3)).1 ?_
  refine callsIn_of_wp_marks Tryz.func57 rfl trivial ?_ rfl
  simp only [Tryz.ntmps57, List.size_toArray, List.length_cons, List.length_nil, Nat.reduceAdd, Nat.reduceSub, Array.replicate_succ, Array.replicate_zero, List.push_toArray, List.append_toArray, List.nil_append, List.cons_append]
  gi_wp2
  have HB1 := hide ((Below.refl _ w).alloc (Nat.le_refl _) (.cells #[.slice none 0 0] 23))
  have HC1 := hide (cell_new' w (.slice none 0 0) 23)
  have HZ1 : Hid ((w.alloc (.cells #[.slice none 0 0] 23)).heap.size = w.heap.size + 1) := World.size_alloc _ _
  obtain ⟨w1, hw1⟩ : ∃ w1, w.alloc (.cells #[.slice none 0 0] 23) = w1 := ⟨_, rfl⟩
  rw [hw1] at HB1 HC1 HZ1 ⊢
  clear hw1
  have hz1a := Nat.le_of_eq (unhide HZ1)
  have hz1b := Nat.le_of_eq (unhide HZ1).symm
  obtain ⟨i0, hi0, hz0, hzz1, hz2⟩ := info_parts infoI
  have HI := hide hi0
  clear hi0
  refine wpIn_range_y (gf := gf) (lb := lb) rfl hen (hseq.below (unhide HB1)) (fun k hk => by omega) (fun _ => rfl)
    (fun pre A => ∃ v, (A.cell? ⟨w.heap.size, 0, none⟩ = some v ∧ A.frozen? ⟨w.heap.size, 0, none⟩ = false) ∧ OwnI (w1.heap.size + 2 + D) A v (pre.map p) ∧ Below w.heap.size w A ∧ w1.heap.size ≤ A.heap.size)
    (fun s A B h hb => by
      obtain ⟨v, ⟨h1, h2⟩, h3, h4, h5⟩ := h
      have hkb := hb.block w.heap.size (by omega) (by omega)
      exact ⟨v, ⟨(World.cell?_of_block hkb).trans h1, (World.frozen?_of_block (a := ⟨w.heap.size, 0, none⟩) hkb).trans h2⟩, h3.keep (fun b h6 h7 => hb.block b h7 (by omega)), h4.trans ((hb.below (by omega)).mono (by omega)), Nat.le_trans h5 hb.size⟩)
    ⟨.slice none 0 0, unhide HC1, OwnI.nil _ _, unhide HB1, Nat.le_refl _⟩ ?round ?done
  case done =>
    rintro D1 xs A hD hD2 hxs ⟨v, ⟨hc, hf⟩, hO, hB, hzA⟩ hK
    have HO := hide hO
    have HB := hide hB
    obtain ⟨vo, vn, vc, hv⟩ : ∃ vo vn vc, v = .slice vo vn vc := by
      rcases hO.shape with ⟨h1, h2⟩ | ⟨q, cq, h1, _⟩
      · exact ⟨_, _, _, h1⟩
      · exact ⟨_, _, _, h1⟩
    subst hv
    clear hO hB
    gi_wp2
    refine ⟨by simp, .inl ⟨_, _, rfl, run_takeDeferred hK, ?_⟩⟩
    exact ⟨_, results_tmp rfl _ _ _, _, xs, rfl, hxs, ((unhide HO).keep (fun b h1 h2 => World.putObj_heap_other (by omega))).mono (by omega), (unhide HB).trans (below_put _ _ (by omega))⟩
  case round =>
    rintro l pre x A ⟨v, ⟨hc, hf⟩, hO, hB, hzA⟩ hlen hs2A
    gi_wp2
    refine ⟨⟨Ky.refl _ _ _ _, v, ⟨hc, hf⟩, hO, hB, hzA⟩, ?_⟩
    clear hc hf hO hB v
    rintro W₂ hsz2 - - ⟨v, ⟨hc, hf⟩, hO, hB, hz3⟩
    have hsz3 : w1.heap.size + 2 + D ≤ W₂.heap.size := by omega
    clear hsz2
    have HO := hide hO
    have HB := hide hB
    obtain ⟨vo, vn, vc, hv⟩ : ∃ vo vn vc, v = .slice vo vn vc := by
      rcases hO.shape with ⟨h1, h2⟩ | ⟨q, cq, h1, _⟩
      · exact ⟨_, _, _, h1⟩
      · exact ⟨_, _, _, h1⟩
    subst hv
    have HAL := hide ((Below.refl _ W₂).alloc (Nat.le_refl _) (.cells #[.int .i64 ((p x : Nat) : Int)] 3))
    have HO2 : Hid (OwnI (w1.heap.size + 2 + D) (W₂.alloc (.cells #[.int .i64 ((p x : Nat) : Int)] 3)) (.slice vo vn vc) (pre.map p)) := hO.below (unhide HAL)
    have HC2 := hide (cell_new' W₂ (.int .i64 ((p x : Nat) : Int)) 3).1
    have HL : Hid ((pre.map p).length = pre.length) := List.length_map _
    clear hO hB
    gi_wp2_with (gi_at_builtin; refine wpListIn_append_own _ rfl _ _ 23 rfl (w1.heap.size + 2 + D) 3 i0 (.int .i64 0) 1 8 Tryz.underlying23 (unhide HI) hz0 hzz1 hz2 rfl (by decide) (.slice vo vn vc) (pre.map p).length _ rfl (unhide HO2) ⟨W₂.heap.size, 0, none⟩ 1 1 [.int .i64 ((p x : Nat) : Int)] rfl (by simp) (one_at (unhide HC2)) (ints_oneCell .i64 [((p x : Nat) : Int)]) (by rw [unhide HL]; unfold maxLen; omega) (by rw [unhide HL]; omega) (by simp; omega) ?_)
    intro v' w' ho hg _
    have hO3 : OwnI (w1.heap.size + 2 + D) w' v' (pre.map p ++ [p x]) := OwnI.snoc (by rw [List.length_map]; exact ho)
    have hrow : ∀ k, (Value.slice vo vn vc).ownBlock = some k → w1.heap.size + 2 + D ≤ k := fun k e => by
      rcases (unhide HO2).shape with ⟨h1, _⟩ | ⟨q, cq, h1, h2, _⟩
      · rw [h1] at e; cases e
      · rw [h1] at e; cases e; exact h2
    have hbx : w'.heap[w.heap.size]? = W₂.heap[w.heap.size]? := (hg.block w.heap.size (by simp; omega) (fun e => by have := hrow _ e.symm; omega)).trans ((unhide HAL).block _ (by omega))
    have hc' := (World.cell?_of_block (a := ⟨w.heap.size, 0, none⟩) hbx).trans hc
    have hf' := (World.frozen?_of_block (a := ⟨w.heap.size, 0, none⟩) hbx).trans hf
    have HO3 := hide hO3
    have hzs := hg.size
    rw [World.size_alloc] at hzs
    have HKY : Hid (Ky (fun k => k < w.heap.size) w1.heap.size (w1.heap.size + 2 + D) W₂ w') := (Ky.of_below (unhide HAL)).trans (Ky.grown hg (fun k e h => by have := hrow k e; rcases h with h | h <;> omega))
    have HBW : Hid (Below w.heap.size w w') := ((unhide HB).trans ((unhide HAL).mono (by omega))).trans ⟨hg.os, hg.tape, hg.output, hg.size, fun k hk => hg.block k (by simp; omega) (fun e => by have := hrow k e.symm; omega)⟩
    obtain ⟨uo, un, uc, hv'⟩ : ∃ uo un uc, v' = .slice uo un uc := by
      rcases hO3.shape with ⟨h1, h2⟩ | ⟨q, cq, h1, _⟩
      · exact ⟨_, _, _, h1⟩
      · exact ⟨_, _, _, h1⟩
    subst hv'
    clear hO3 hrow hbx ho hg hc hf
    gi_wp2
    refine ⟨(unhide HKY).trans (Ky.set _ _ (by dsimp only; omega)), _, ⟨World.cell?_setCell_same' _ _ _ (by rw [hc']; rfl), by rw [World.frozen?_setCell]; exact hf'⟩, ?_, (unhide HBW).setCell (p := ⟨w.heap.size, 0, none⟩) (Nat.le_refl _) _, by simp [World.setCell]; omega⟩
    rw [List.map_append]
    exact (unhide HO3).keep (fun b h1 h2 => Below.heap_setCell _ _ _ _ (by dsimp only; omega))

set_option maxHeartbeats 1000000 in
theorem collect_any {α : Type} (gf : Nat) (lb : Array Value) (p : α → Nat) (D N : Nat) (S : List α → Prop) (hN : N ≤ 100000) (w : World) (hen : ∀ args W, (callFunc gf args).run Tryz.prog W = .ok (.enter gf args) W)
    (hseq : SeqY Tryz.prog gf lb (fun x : α => #[.int .i64 (p x : Nat)]) (fun k => k < w.heap.size) D S N w) :
    Calls Tryz.prog 35 #[.func (.func gf) #[] lb] w fun e w' => ∃ v xs, e = .returned v ∧ S xs ∧ OwnI w.heap.size w' v (xs.map p) ∧ Below w.heap.size w w' := by
  go_enter Tryz.func35, Tryz.ntmps35
  go_wp2_with fail
  refine (appendSeq_any gf lb p D N S hN w hen hseq).mono ?_
  rintro e w' ⟨v, xs, rfl, h1, h2, h3⟩
  have HO := hide h2
  clear h2
  go_wp2
  go_ret
  exact ⟨v, xs, rfl, h1, unhide HO, h3⟩

end Go.Proofs.YtjdikhelabibnabGreat
