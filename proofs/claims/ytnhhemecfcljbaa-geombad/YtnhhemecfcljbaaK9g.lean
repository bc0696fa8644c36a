/-
  geom.goodBlocks.
-/
import Derived.Test.YtnhhemecfcljbaaK9f
namespace Go.Proofs.Ytnhhemecfcljbaa
open Go.RowKit Go.Shelf
attribute [local go_sem] Oper.semAt_some

theorem one_at9 {w : World} {g : Nat} {u : Value} (h : w.cell? ⟨g, 0, none⟩ = some u) : ∀ j v, [u][j]? = some v → w.cell? ((⟨g, 0, none⟩ : Addr).add j) = some v := by
  intro j v hv
  obtain ⟨hj, hv⟩ := List.getElem?_eq_some_iff.1 hv
  have : j = 0 := by simpa using hj
  subst this
  rw [Addr.add_lit]
  simp at hv
  rw [← hv]
  exact h

set_option maxRecDepth 100000 in
set_option maxHeartbeats 8000000 in
theorem goodBlocks_any (d : Int) (N : Nat) (bad : List (Int × Int)) (ao : Option Addr) (nb cb g : Nat) (hN : N ≤ 1000) (w : World) (hP : PArg w (.slice ao nb cb) g bad) :
    Calls Try.prog 21 #[.int .i64 d, .int .i64 (N : Int), .slice ao nb cb] w fun e w' => ∃ v, e = .returned v ∧ OwnI w.heap.size w' v (gdL d N bad) ∧ Below w.heap.size w w' := by
  refine (callsIn_wide (n := 3)).1 ?_
  refine callsIn_of_wp_marks Try.func21 rfl trivial ?_ rfl
  simp only [Try.ntmps21, List.size_toArray, List.length_cons, List.length_nil, Nat.reduceAdd, Nat.reduceSub, Array.replicate_succ, Array.replicate_zero, List.push_toArray, List.append_toArray, List.nil_append, List.cons_append]
  have HGL : Hid (bad ≠ [] → g < w.heap.size) := fun hne => hP.lt hne
  gi_wp2
  have HB1 := hide ((Below.refl _ w).alloc (Nat.le_refl _) (.cells #[.slice none 0 0] 25))
  have HC1 := hide (cell_new' w (.slice none 0 0) 25)
  have HZ1 : Hid ((w.alloc (.cells #[.slice none 0 0] 25)).heap.size = w.heap.size + 1) := World.size_alloc _ _
  obtain ⟨w1, hw1⟩ : ∃ w1, w.alloc (.cells #[.slice none 0 0] 25) = w1 := ⟨_, rfl⟩
  rw [hw1] at HB1 HC1 HZ1 ⊢
  clear hw1
  refine ⟨trivial, (callsIn_wide.2 (places9_any d (N : Int) w1)).mono ?_⟩
  rintro e w2 ⟨rfl, hcd, hcn, hz2, hk2⟩
  have HB2 := hide ((unhide HB1).trans (hk2.mono (unhide HB1).size))
  have HCD := hide hcd
  have HCN := hide hcn
  have HZ2 := hide hz2
  have HC2 : Hid (w2.cell? ⟨w.heap.size, 0, none⟩ = some (.slice none 0 0) ∧ w2.frozen? ⟨w.heap.size, 0, none⟩ = false) := by
    have hb := hk2.block w.heap.size (by have := unhide HZ1; omega)
    exact ⟨(World.cell?_of_block hb).trans (unhide HC1).1, (World.frozen?_of_block (a := ⟨w.heap.size, 0, none⟩) hb).trans (unhide HC1).2⟩
  clear hcd hcn hz2 hk2
  gi_wp2
  refine ⟨trivial, (callsIn_wide.2 (without_any _ _ ao nb cb w2)).mono ?_⟩
  rintro e w3 ⟨rfl, hcf, hcb, hz3, hk3⟩
  have HB3 := hide ((unhide HB2).trans (hk3.mono (unhide HB2).size))
  have HCD3 := hide ((hk3.cell (block_lt_of_cell (unhide HCD))).trans (unhide HCD))
  have HCN3 := hide ((hk3.cell (block_lt_of_cell (unhide HCN))).trans (unhide HCN))
  have HP3 := hide (hP.below' (unhide HB3))
  have HC3 : Hid (w3.cell? ⟨w.heap.size, 0, none⟩ = some (.slice none 0 0) ∧ w3.frozen? ⟨w.heap.size, 0, none⟩ = false) := by
    have hb := hk3.block w.heap.size (by have := unhide HZ1; have := unhide HZ2; omega)
    exact ⟨(World.cell?_of_block hb).trans (unhide HC2).1, (World.frozen?_of_block (a := ⟨w.heap.size, 0, none⟩) hb).trans (unhide HC2).2⟩
  have hza : w3.heap.size = w.heap.size + 5 := by rw [hz3, unhide HZ2, unhide HZ1]
  have hzb1 := Nat.le_of_eq (unhide HZ1)
  have hzb2 := Nat.le_of_eq (unhide HZ1).symm
  have hzb3 := Nat.le_of_eq (unhide HZ2)
  have hzb4 := Nat.le_of_eq (unhide HZ2).symm
  have hzb5 := Nat.le_of_eq hza
  have hzb6 := Nat.le_of_eq hza.symm
  have HSQ : Hid (SeqY Try.prog 30 #[.pointer (some ⟨w2.heap.size, 0, none⟩), .pointer (some ⟨w2.heap.size + 1, 0, none⟩)] (fun x : Fin N => #[.agg #[.int .i64 d, .int .i64 (x.val : Nat)]]) (fun k => k < w3.heap.size ∧ k ≠ w.heap.size) (3 + 0) (fun xs => xs.map Fin.val = gdL d N bad) N w3) :=
    without_x (fun k => k < w3.heap.size ∧ k ≠ w.heap.size) 0 w2.heap.size (w2.heap.size + 1) N _ _ d bad ao nb cb g w3 hcf hcb (unhide HP3) (fun k hk => hk.1) ⟨by omega, by omega⟩ (fun hne => ⟨by have := unhide HGL hne; omega, by have := unhide HGL hne; omega⟩) (enters_of Try.func32 (by kernel_rfl) rfl)
      (places_x _ _ _ N d (by omega) w3 (unhide HCN3) (unhide HCD3) ⟨by omega, by omega⟩)
  clear hcf hcb hk3 HC1 HC2 HCD HCN HB1 HB2 HCD3 HCN3 hP hza hz3
  have HZ3 := hide hzb5
  gi_wp2
  obtain ⟨i0, hi0, hz0, hzz1, hz2⟩ := info_parts infoI
  have HI := hide hi0
  clear hi0
  refine wpIn_range_y (gf := 30) rfl (enters_of Try.func30 (by kernel_rfl) rfl) (unhide HSQ) (fun k hk => hk.1) (fun _ => rfl)
    (fun pre A => ∃ v, (A.cell? ⟨w.heap.size, 0, none⟩ = some v ∧ A.frozen? ⟨w.heap.size, 0, none⟩ = false) ∧ OwnI (w3.heap.size + 2 + 3) A v (pre.map Fin.val) ∧ Below w.heap.size w A ∧ w3.heap.size ≤ A.heap.size)
    (fun s A B h hb => by
      obtain ⟨v, ⟨h1, h2⟩, h3, h4, h5⟩ := h
      have hkb := hb.block w.heap.size (by omega) (by omega)
      exact ⟨v, ⟨(World.cell?_of_block hkb).trans h1, (World.frozen?_of_block (a := ⟨w.heap.size, 0, none⟩) hkb).trans h2⟩, h3.keep (fun b h6 h7 => hb.block b h7 (by omega)), h4.trans ((hb.below (by omega)).mono (by omega)), Nat.le_trans h5 hb.size⟩)
    ⟨.slice none 0 0, unhide HC3, OwnI.nil _ _, unhide HB3, Nat.le_refl _⟩ ?round ?done
  case done =>
    rintro D1 xs A hD hD2 hxs ⟨v, ⟨hc, hf⟩, hO, hB, hzA⟩ hK
    rw [hxs] at hO
    have HO := hide hO
    have HB := hide hB
    obtain ⟨vo, vn, vc, hv⟩ : ∃ vo vn vc, v = .slice vo vn vc := by
      rcases hO.shape with ⟨h1, h2⟩ | ⟨q, cq, h1, _⟩
      · exact ⟨_, _, _, h1⟩
      · exact ⟨_, _, _, h1⟩
    subst hv
    clear hO hB hxs
    gi_wp2
    refine ⟨by simp, .inl ⟨_, _, rfl, run_takeDeferred hK, ?_⟩⟩
    exact ⟨_, results_tmp rfl _ _ _, _, rfl, ((unhide HO).keep (fun b h1 h2 => World.putObj_heap_other (by omega))).mono (by omega), (unhide HB).trans (below_put _ _ (by omega))⟩
  case round =>
    rintro l pre x A ⟨v, ⟨hc, hf⟩, hO, hB, hzA⟩ hlen hs2A
    gi_wp2
    have hal := (Below.refl A.heap.size A).alloc (Nat.le_refl _) (.cells #[.int .i64 d, .int .i64 ((x.val : Nat) : Int)] 39)
    have hbx := World.alloc_heap_new A (.cells #[.int .i64 d, .int .i64 ((x.val : Nat) : Int)] 39)
    obtain ⟨A1, hA1⟩ : ∃ A1, A.alloc (.cells #[.int .i64 d, .int .i64 ((x.val : Nat) : Int)] 39) = A1 := ⟨_, rfl⟩
    have hz1 : A1.heap.size = A.heap.size + 1 := by rw [← hA1]; exact World.size_alloc _ _
    rw [hA1] at hal hbx ⊢
    clear hA1
    have hkb := hal.block w.heap.size (by omega)
    refine ⟨⟨Ky.of_below hal, v, ⟨(World.cell?_of_block hkb).trans hc, (World.frozen?_of_block (a := ⟨w.heap.size, 0, none⟩) hkb).trans hf⟩, hO.below hal, hB.trans (hal.mono (by omega)), by omega⟩, ?_⟩
    clear hc hf hO hB hal hkb v
    rintro W₂ hsz2 - hkb ⟨v, ⟨hc, hf⟩, hO, hB, hz3⟩
    have hbx2 := (hkb A.heap.size (by omega)).trans hbx
    have i1 : W₂.cell? ⟨A.heap.size, 1, none⟩ = some (.int .i64 ((x.val : Nat) : Int)) := cell_blk hbx2 rfl
    have hsz3 : w3.heap.size + 2 + 3 ≤ W₂.heap.size := by omega
    clear hbx hbx2 hkb hsz2 hz1
    have HO := hide hO
    have HB := hide hB
    obtain ⟨vo, vn, vc, hv⟩ : ∃ vo vn vc, v = .slice vo vn vc := by
      rcases hO.shape with ⟨h1, h2⟩ | ⟨q, cq, h1, _⟩
      · exact ⟨_, _, _, h1⟩
      · exact ⟨_, _, _, h1⟩
    subst hv
    have HAL := hide ((Below.refl _ W₂).alloc (Nat.le_refl _) (.cells #[.int .i64 ((x.val : Nat) : Int)] 3))
    have HO2 : Hid (OwnI (w3.heap.size + 2 + 3) (W₂.alloc (.cells #[.int .i64 ((x.val : Nat) : Int)] 3)) (.slice vo vn vc) (pre.map Fin.val)) := hO.below (unhide HAL)
    have HC2 := hide (cell_new' W₂ (.int .i64 ((x.val : Nat) : Int)) 3).1
    have HL : Hid ((pre.map Fin.val).length = pre.length) := List.length_map _
    clear hO hB
    gi_wp2_with (gi_at_builtin; refine wpListIn_append_own _ rfl _ _ 25 rfl (w3.heap.size + 2 + 3) 3 i0 (.int .i64 0) 1 8 Try.underlying25 (unhide HI) hz0 hzz1 hz2 rfl (by decide) (.slice vo vn vc) (pre.map Fin.val).length _ rfl (unhide HO2) ⟨W₂.heap.size, 0, none⟩ 1 1 [.int .i64 ((x.val : Nat) : Int)] rfl (by simp) (one_at9 (unhide HC2)) (ints_oneCell .i64 [((x.val : Nat) : Int)]) (by rw [unhide HL]; unfold maxLen; omega) (by rw [unhide HL]; omega) (by simp; omega) ?_)
    intro v' w' ho hg _
    have hO3 : OwnI (w3.heap.size + 2 + 3) w' v' (pre.map Fin.val ++ [x.val]) := OwnI.snoc (by rw [List.length_map]; exact ho)
    have hrow : ∀ k, (Value.slice vo vn vc).ownBlock = some k → w3.heap.size + 2 + 3 ≤ k := fun k e => by
      rcases (unhide HO2).shape with ⟨h1, _⟩ | ⟨q, cq, h1, h2, _⟩
      · rw [h1] at e; cases e
      · rw [h1] at e; cases e; exact h2
    have hbx : w'.heap[w.heap.size]? = W₂.heap[w.heap.size]? := (hg.block w.heap.size (by simp; omega) (fun e => by have := hrow _ e.symm; omega)).trans ((unhide HAL).block _ (by omega))
    have hc' := (World.cell?_of_block (a := ⟨w.heap.size, 0, none⟩) hbx).trans hc
    have hf' := (World.frozen?_of_block (a := ⟨w.heap.size, 0, none⟩) hbx).trans hf
    have HO3 := hide hO3
    have hzs := hg.size
    rw [World.size_alloc] at hzs
    have HKY : Hid (Ky (fun k => k < w3.heap.size ∧ k ≠ w.heap.size) w3.heap.size (w3.heap.size + 2 + 3) W₂ w') := (Ky.of_below (unhide HAL)).trans (Ky.grown hg (fun k e h => by have := hrow k e; rcases h with h | h <;> omega))
    have HBW : Hid (Below w.heap.size w w') := ((unhide HB).trans ((unhide HAL).mono (by omega))).trans ⟨hg.os, hg.tape, hg.output, hg.size, fun k hk => hg.block k (by simp; omega) (fun e => by have := hrow k e.symm; omega)⟩
    obtain ⟨uo, un, uc, hv'⟩ : ∃ uo un uc, v' = .slice uo un uc := by
      rcases hO3.shape with ⟨h1, h2⟩ | ⟨q, cq, h1, _⟩
      · exact ⟨_, _, _, h1⟩
      · exact ⟨_, _, _, h1⟩
    subst hv'
    clear hO3 hrow hbx ho hg hc hf i1
    gi_wp2
    refine ⟨(unhide HKY).trans (Ky.set _ _ (by dsimp only; omega)), _, ⟨World.cell?_setCell_same' _ _ _ (by rw [hc']; rfl), by rw [World.frozen?_setCell]; exact hf'⟩, ?_, (unhide HBW).setCell (p := ⟨w.heap.size, 0, none⟩) (Nat.le_refl _) _, by simp [World.setCell]; omega⟩
    rw [List.map_append]
    exact (unhide HO3).keep (fun b h1 h2 => Below.heap_setCell _ _ _ _ (by dsimp only; omega))

end Go.Proofs.Ytnhhemecfcljbaa
