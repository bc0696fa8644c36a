/-
  (Act).Do: the whole.
-/
import Derived.Test.YtnondiaefpdlpaaMi
import Derived.Test.YtnondiaefpdlpaaMj
import Derived.Test.YtnondiaefpdlpaaMk
import Derived.Test.YtnondiaefpdlpaaMl
namespace Go.Proofs.Ytnondiaefpdlpaa
open Go.RowKit Go.Shelf

theorem wrap_small {z : Int} (h1 : -1 ≤ z) (h2 : z ≤ 100) : IntKind.i64.wrap z = z := IntWalk.i64_in _ ⟨by omega, by omega⟩
set_option maxRecDepth 1000000 in
set_option maxHeartbeats 16000000 in
theorem do_any {m : Nat} {w : World} {L : La} {L' : Lr} {s : Nd} {a : AD} (hN : NA m w L s) (hR : RA m w L' s) (hok : a.Ok w) (sb : a.x ≠ [] → a.gb < m) (sl : a.z ≠ [] → a.gl < m) (nb : a.bn ≤ 100) (nl : a.ln ≤ 20) (hP0 : 0 < s.P) :
    Calls Try.prog 15 #[.agg a.arr, .pointer (some ⟨L.n, 0, none⟩), .pointer (some ⟨L'.n, 0, none⟩)] w fun e w' => e = .returned (.bool true) ∧ DoPost m w L.n L'.n s w' := by
  have hal : Below w.heap.size w (w.alloc (.cells a.arr 40)) := (Below.refl _ _).alloc (Nat.le_refl _) _
  have hW : DoW m w (w.alloc (.cells a.arr 40)) a w.heap.size := ⟨World.alloc_heap_new w _, hok.hb.below hal, hok.hl.below hal, sb, sl, hal.mono (Nat.le_of_lt hN.n_lt), nb, nl⟩
  have HN := hide (hN.below hal)
  have HR := hide (hR.below hal)
  have HW := hide hW
  have HO := hide hN.ok
  clear hN hR hW hal hok sb sl nb nl
  go_enter Try.func15, Try.ntmps15
  go_wp2_with fail
  generalize w.alloc (.cells a.arr 40) = V0 at HN HR HW ⊢
  obtain ⟨box, hbox⟩ : ∃ x, w.heap.size = x := ⟨_, rfl⟩
  rw [hbox] at HW ⊢
  clear hbox
  have hDD : s.D ≤ 8 := by have := (unhide HO).d; omega
  have hBB : s.B ≤ 12 := by have := (unhide HO).b; omega
  have hPP : s.P ≤ 8 := by have := (unhide HO).p; omega
  have wD : IntKind.i64.wrap ((s.D : Int) + 1) = (s.D : Int) + 1 := wrap_small (by omega) (by omega)
  have wB : IntKind.i64.wrap ((s.B : Int) + 2) = (s.B : Int) + 2 := wrap_small (by omega) (by omega)
  have wP : IntKind.i64.wrap ((s.P : Int) + 1) = (s.P : Int) + 1 := wrap_small (by omega) (by omega)
  obtain ⟨d, hd⟩ : ∃ z, a.d % ((s.D : Int) + 1) = z := ⟨_, rfl⟩
  have hd0 : 0 ≤ d := by rw [← hd]; exact Int.emod_nonneg _ (by omega)
  have hd1 : d < ((s.D : Int) + 1) := by rw [← hd]; exact Int.emod_lt_of_pos _ (by omega)
  have Hd := hide hd
  clear hd
  obtain ⟨b0, hb0⟩ : ∃ z, a.b % 3 = z := ⟨_, rfl⟩
  have hb00 : 0 ≤ b0 := by rw [← hb0]; exact Int.emod_nonneg _ (by omega)
  have hb01 : b0 < 3 := by rw [← hb0]; exact Int.emod_lt_of_pos _ (by omega)
  have Hb0 := hide hb0
  clear hb0
  replace HN : Hid (NA m V0.drew L s) := (unhide HN).below ((Below.refl _ _).drew)
  replace HR : Hid (RA m V0.drew L' s) := (unhide HR).below ((Below.refl _ _).drew)
  replace HW : Hid (DoW m w V0.drew a box) := (unhide HW).drew
  refine wp_region_noPanic ?_
  refine wp_region_held_drew (S := fun W => W.cell? ⟨box, 1, none⟩ = some (.int .i64 a.d) ∧ W.cell? ⟨box, 2, none⟩ = some (.int .i64 a.b) ∧ W.cell? ⟨L'.n, 0, none⟩ = some (.int .i64 (s.D : Int))) (by kernel_rfl) ?_ (fun hHeld => ?_)
  · exact ⟨cell_blk (unhide HW).bx rfl, cell_blk (unhide HW).bx rfl, (unhide HR).tc 0 rfl⟩
  have HH := hide hHeld
  clear hHeld
  generalize V0.drew = V at HN HR HW HH ⊢
  refine takeL (i := 0) (v := ?_) rfl (by kernel_rfl) (by kernel_rfl) (by kernel_rfl) (fun _ _ _ h => h) (Or.inl ⟨by rfl, ?_⟩) (unhide HH) ?_
  rotate_left 1
  · intro W1 ⟨s0, s1, s2⟩; go_simp; all_goals (with_reducible rfl)
  (try simp only [Act.put, List.setIfInBounds_toArray, List.set_cons_zero, List.set_cons_succ])
  refine takeL (i := 1) (v := ?_) rfl (by kernel_rfl) (by kernel_rfl) (by kernel_rfl) (fun _ _ _ h => h) (Or.inl ⟨by rfl, ?_⟩) (unhide HH) ?_
  rotate_left 1
  · intro W1 ⟨s0, s1, s2⟩; go_simp; all_goals (with_reducible rfl)
  (try simp only [Act.put, List.setIfInBounds_toArray, List.set_cons_zero, List.set_cons_succ])
  refine takeL (i := 2) (v := ?_) rfl (by kernel_rfl) (by kernel_rfl) (by kernel_rfl) (fun _ _ _ h => h) (Or.inl ⟨by rfl, ?_⟩) (unhide HH) ?_
  rotate_left 1
  · intro W1 ⟨s0, s1, s2⟩; go_simp; all_goals (with_reducible rfl)
  (try simp only [Act.put, List.setIfInBounds_toArray, List.set_cons_zero, List.set_cons_succ])
  refine takeL (i := 3) (v := ?_) rfl (by kernel_rfl) (by kernel_rfl) (by kernel_rfl) (fun _ _ _ h => h) (Or.inl ⟨by rfl, ?_⟩) (unhide HH) ?_
  rotate_left 1
  · intro W1 ⟨s0, s1, s2⟩; go_simp; all_goals (with_reducible rfl)
  (try simp only [Act.put, List.setIfInBounds_toArray, List.set_cons_zero, List.set_cons_succ])
  refine takeL (i := 4) (v := ?_) rfl (by kernel_rfl) (by kernel_rfl) (by kernel_rfl) (fun _ _ _ h => h) (Or.inl ⟨by rfl, ?_⟩) (unhide HH) ?_
  rotate_left 1
  · intro W1 ⟨s0, s1, s2⟩; go_simp; all_goals (with_reducible rfl)
  (try simp only [Act.put, List.setIfInBounds_toArray, List.set_cons_zero, List.set_cons_succ])
  refine takeL (i := 5) (v := ?_) rfl (by kernel_rfl) (by kernel_rfl) (by kernel_rfl) (fun _ _ _ h => h) (Or.inl ⟨by rfl, ?_⟩) (unhide HH) ?_
  rotate_left 1
  · intro W1 ⟨s0, s1, s2⟩; go_simp; all_goals (with_reducible rfl)
  (try simp only [Act.put, List.setIfInBounds_toArray, List.set_cons_zero, List.set_cons_succ])
  refine takeL (i := 6) (v := ?_) rfl (by kernel_rfl) (by kernel_rfl) (by kernel_rfl) (fun _ _ _ h => h) (Or.inl ⟨by rfl, ?_⟩) (unhide HH) ?_
  rotate_left 1
  · intro W1 ⟨s0, s1, s2⟩; go_simp; all_goals (with_reducible rfl)
  (try simp only [Act.put, List.setIfInBounds_toArray, List.set_cons_zero, List.set_cons_succ])
  refine takeL (i := 7) (v := ?_) rfl (by kernel_rfl) (by kernel_rfl) (by kernel_rfl) (fun _ _ _ h => h) (Or.inl ⟨by rfl, ?_⟩) (unhide HH) ?_
  rotate_left 1
  · intro W1 ⟨s0, s1, s2⟩; go_simp; all_goals (with_reducible rfl)
  (try simp only [Act.put, List.setIfInBounds_toArray, List.set_cons_zero, List.set_cons_succ])
  refine takeL (i := 9) (v := ?_) rfl (by kernel_rfl) (by kernel_rfl) (by kernel_rfl) (fun _ _ _ h => h) (Or.inl ⟨by rfl, ?_⟩) (unhide HH) ?_
  rotate_left 1
  · intro W1 ⟨s0, s1, s2⟩; go_simp; all_goals (with_reducible rfl)
  (try simp only [Act.put, List.setIfInBounds_toArray, List.set_cons_zero, List.set_cons_succ])
  refine takeL (i := 10) (v := ?_) rfl (by kernel_rfl) (by kernel_rfl) (by kernel_rfl) (fun _ _ _ h => h) (Or.inl ⟨by rfl, ?_⟩) (unhide HH) ?_
  rotate_left 1
  · intro W1 ⟨s0, s1, s2⟩; go_simp; all_goals (with_reducible rfl)
  (try simp only [Act.put, List.setIfInBounds_toArray, List.set_cons_zero, List.set_cons_succ])
  refine wpAnyH_ready (rs := [8]) (by kernel_rfl) (by simp) ?_
  refine consL rfl (fun K hK => ?_) AllReadyH.nil
  go_simp
  refine (within7_any a.d ((s.D : Int) + 1) _ (by omega) (by omega)).mono ?_
  rintro e V1 ⟨he, hV⟩
  rw [unhide Hd] at he
  subst he
  replace hV := hV.symm
  subst hV
  go_wp2_with fail
  refine hK.out _ _ (unhide HH) (fun hHeld => ?_)
  clear hK K HH
  have HH := hide hHeld
  clear hHeld
  (try simp only [Act.put, List.setIfInBounds_toArray, List.set_cons_zero, List.set_cons_succ])
  refine wpAnyH_ready (rs := [11]) (by kernel_rfl) (by simp) ?_
  refine consL rfl (fun K hK => ?_) AllReadyH.nil
  go_simp
  refine (within7_any a.b 3 _ (by omega) (by omega)).mono ?_
  rintro e V1 ⟨he, hV⟩
  rw [unhide Hb0] at he
  subst he
  replace hV := hV.symm
  subst hV
  go_wp2_with fail
  refine hK.out _ _ (unhide HH) (fun hHeld => ?_)
  clear hK K HH
  have HH := hide hHeld
  clear hHeld
  (try simp only [Act.put, List.setIfInBounds_toArray, List.set_cons_zero, List.set_cons_succ])
  refine takeL (i := 12) (v := ?_) rfl (by kernel_rfl) (by kernel_rfl) (by kernel_rfl) (fun _ _ _ h => h) (Or.inl ⟨by rfl, ?_⟩) (unhide HH) ?_
  rotate_left 1
  · intro W1 ⟨s0, s1, s2⟩; go_simp; all_goals (with_reducible rfl)
  (try simp only [Act.put, List.setIfInBounds_toArray, List.set_cons_zero, List.set_cons_succ])
  refine takeL (i := 13) (v := ?_) rfl (by kernel_rfl) (by kernel_rfl) (by kernel_rfl) (fun _ _ _ h => h) (Or.inl ⟨by rfl, ?_⟩) (unhide HH) ?_
  rotate_left 1
  · intro W1 ⟨s0, s1, s2⟩; go_simp; all_goals (with_reducible rfl)
  (try simp only [Act.put, List.setIfInBounds_toArray, List.set_cons_zero, List.set_cons_succ])
  refine wpAnyH_done (by kernel_rfl) ?_ _
  refine NoPanic.normal ?_
  obtain ⟨p, hp⟩ : ∃ z, a.p % ((s.P : Int) + 1) = z := ⟨_, rfl⟩
  have hp0 : 0 ≤ p := by rw [← hp]; exact Int.emod_nonneg _ (by omega)
  have hp1 : p < ((s.P : Int) + 1) := by rw [← hp]; exact Int.emod_lt_of_pos _ (by omega)
  have Hp := hide hp
  clear hp
  have b4 : V.cell? ⟨box, 4, none⟩ = some (.int .i64 a.n) := cell_blk (unhide HW).bx rfl
  by_cases h7 : a.n.tmod 7 = 0
  · obtain ⟨b1, hb1⟩ : ∃ z, a.b % ((s.B : Int) + 2) = z := ⟨_, rfl⟩
    have hb10 : 0 ≤ b1 := by rw [← hb1]; exact Int.emod_nonneg _ (by omega)
    have hb11 : b1 < ((s.B : Int) + 2) := by rw [← hb1]; exact Int.emod_lt_of_pos _ (by omega)
    have Hb1 := hide hb1
    clear hb1
    have wb : IntKind.i64.wrap (b1 - 1) = b1 - 1 := wrap_small (by omega) (by omega)
    go_wp2_with fail
    clear b4
    replace HN : Hid (NA m V.drew L s) := (unhide HN).below ((Below.refl _ _).drew)
    replace HR : Hid (RA m V.drew L' s) := (unhide HR).below ((Below.refl _ _).drew)
    replace HW : Hid (DoW m w V.drew a box) := (unhide HW).drew
    refine wp_region_noPanic ?_
    refine wp_region_held_drew (S := fun W => W.cell? ⟨box, 2, none⟩ = some (.int .i64 a.b) ∧ W.cell? ⟨L'.n, 1, none⟩ = some (.int .i64 (s.B : Int))) (by kernel_rfl) ?_ (fun hHeld => ?_)
    · exact ⟨cell_blk (unhide HW).bx rfl, (unhide HR).tc 1 rfl⟩
    have HH := hide hHeld
    clear hHeld
    generalize V.drew = V at HN HR HW HH ⊢
    refine takeL (i := 0) (v := ?_) rfl (by kernel_rfl) (by kernel_rfl) (by kernel_rfl) (fun _ _ _ h => h) (Or.inl ⟨by rfl, ?_⟩) (unhide HH) ?_
    rotate_left 1
    · intro W1 ⟨s0, s1⟩; go_simp; all_goals (with_reducible rfl)
    (try simp only [Act.put, List.setIfInBounds_toArray, List.set_cons_zero, List.set_cons_succ])
    refine takeL (i := 1) (v := ?_) rfl (by kernel_rfl) (by kernel_rfl) (by kernel_rfl) (fun _ _ _ h => h) (Or.inl ⟨by rfl, ?_⟩) (unhide HH) ?_
    rotate_left 1
    · intro W1 ⟨s0, s1⟩; go_simp; all_goals (with_reducible rfl)
    (try simp only [Act.put, List.setIfInBounds_toArray, List.set_cons_zero, List.set_cons_succ])
    refine takeL (i := 2) (v := ?_) rfl (by kernel_rfl) (by kernel_rfl) (by kernel_rfl) (fun _ _ _ h => h) (Or.inl ⟨by rfl, ?_⟩) (unhide HH) ?_
    rotate_left 1
    · intro W1 ⟨s0, s1⟩; go_simp; all_goals (with_reducible rfl)
    (try simp only [Act.put, List.setIfInBounds_toArray, List.set_cons_zero, List.set_cons_succ])
    refine takeL (i := 3) (v := ?_) rfl (by kernel_rfl) (by kernel_rfl) (by kernel_rfl) (fun _ _ _ h => h) (Or.inl ⟨by rfl, ?_⟩) (unhide HH) ?_
    rotate_left 1
    · intro W1 ⟨s0, s1⟩; go_simp; all_goals (with_reducible rfl)
    (try simp only [Act.put, List.setIfInBounds_toArray, List.set_cons_zero, List.set_cons_succ])
    refine takeL (i := 4) (v := ?_) rfl (by kernel_rfl) (by kernel_rfl) (by kernel_rfl) (fun _ _ _ h => h) (Or.inl ⟨by rfl, ?_⟩) (unhide HH) ?_
    rotate_left 1
    · intro W1 ⟨s0, s1⟩; go_simp; all_goals (with_reducible rfl)
    (try simp only [Act.put, List.setIfInBounds_toArray, List.set_cons_zero, List.set_cons_succ])
    refine takeL (i := 5) (v := ?_) rfl (by kernel_rfl) (by kernel_rfl) (by kernel_rfl) (fun _ _ _ h => h) (Or.inl ⟨by rfl, ?_⟩) (unhide HH) ?_
    rotate_left 1
    · intro W1 ⟨s0, s1⟩; go_simp; all_goals (with_reducible rfl)
    (try simp only [Act.put, List.setIfInBounds_toArray, List.set_cons_zero, List.set_cons_succ])
    refine takeL (i := 6) (v := ?_) rfl (by kernel_rfl) (by kernel_rfl) (by kernel_rfl) (fun _ _ _ h => h) (Or.inl ⟨by rfl, ?_⟩) (unhide HH) ?_
    rotate_left 1
    · intro W1 ⟨s0, s1⟩; go_simp; all_goals (with_reducible rfl)
    (try simp only [Act.put, List.setIfInBounds_toArray, List.set_cons_zero, List.set_cons_succ])
    refine takeL (i := 7) (v := ?_) rfl (by kernel_rfl) (by kernel_rfl) (by kernel_rfl) (fun _ _ _ h => h) (Or.inl ⟨by rfl, ?_⟩) (unhide HH) ?_
    rotate_left 1
    · intro W1 ⟨s0, s1⟩; go_simp; all_goals (with_reducible rfl)
    (try simp only [Act.put, List.setIfInBounds_toArray, List.set_cons_zero, List.set_cons_succ])
    refine wpAnyH_ready (rs := [8]) (by kernel_rfl) (by simp) ?_
    refine consL rfl (fun K hK => ?_) AllReadyH.nil
    go_simp
    refine (within7_any a.b ((s.B : Int) + 2) _ (by omega) (by omega)).mono ?_
    rintro e V1 ⟨he, hV⟩
    rw [unhide Hb1] at he
    subst he
    replace hV := hV.symm
    subst hV
    go_wp2_with fail
    refine hK.out _ _ (unhide HH) (fun hHeld => ?_)
    clear hK K HH
    have HH := hide hHeld
    clear hHeld
    (try simp only [Act.put, List.setIfInBounds_toArray, List.set_cons_zero, List.set_cons_succ])
    refine takeL (i := 9) (v := ?_) rfl (by kernel_rfl) (by kernel_rfl) (by kernel_rfl) (fun _ _ _ h => h) (Or.inl ⟨by rfl, ?_⟩) (unhide HH) ?_
    rotate_left 1
    · intro W1 ⟨s0, s1⟩; go_simp; all_goals (with_reducible rfl)
    (try simp only [Act.put, List.setIfInBounds_toArray, List.set_cons_zero, List.set_cons_succ])
    refine takeL (i := 10) (v := ?_) rfl (by kernel_rfl) (by kernel_rfl) (by kernel_rfl) (fun _ _ _ h => h) (Or.inl ⟨by rfl, ?_⟩) (unhide HH) ?_
    rotate_left 1
    · intro W1 ⟨s0, s1⟩; go_simp; all_goals (with_reducible rfl)
    (try simp only [Act.put, List.setIfInBounds_toArray, List.set_cons_zero, List.set_cons_succ])
    refine wpAnyH_done (by kernel_rfl) ?_ _
    refine NoPanic.normal ?_
    obtain ⟨b, hb⟩ : ∃ b, b1 - 1 = b := ⟨_, rfl⟩
    rw [hb]
    clear hb wb
    go_wp2_with fail
    rename_i KK hKK
    replace HN : Hid (NA m V.drew L s) := (unhide HN).below ((Below.refl _ _).drew)
    replace HR : Hid (RA m V.drew L' s) := (unhide HR).below ((Below.refl _ _).drew)
    replace HW : Hid (DoW m w V.drew a box) := (unhide HW).drew
    refine wp_region_noPanic ?_
    refine wp_region_held_drew (S := fun W => W.cell? ⟨box, 3, none⟩ = some (.int .i64 a.p) ∧ W.cell? ⟨L'.n, 2, none⟩ = some (.int .i64 (s.P : Int))) (by kernel_rfl) ?_ (fun hHeld => ?_)
    · exact ⟨cell_blk (unhide HW).bx rfl, (unhide HR).tc 2 rfl⟩
    have HH := hide hHeld
    clear hHeld
    generalize V.drew = V at HN HR HW HH ⊢
    refine takeL (i := 0) (v := ?_) rfl (by kernel_rfl) (by kernel_rfl) (by kernel_rfl) (fun _ _ _ h => h) (Or.inl ⟨by rfl, ?_⟩) (unhide HH) ?_
    rotate_left 1
    · intro W1 ⟨s0, s1⟩; go_simp; all_goals (with_reducible rfl)
    (try simp only [Act.put, List.setIfInBounds_toArray, List.set_cons_zero, List.set_cons_succ])
    refine takeL (i := 1) (v := ?_) rfl (by kernel_rfl) (by kernel_rfl) (by kernel_rfl) (fun _ _ _ h => h) (Or.inl ⟨by rfl, ?_⟩) (unhide HH) ?_
    rotate_left 1
    · intro W1 ⟨s0, s1⟩; go_simp; all_goals (with_reducible rfl)
    (try simp only [Act.put, List.setIfInBounds_toArray, List.set_cons_zero, List.set_cons_succ])
    refine takeL (i := 2) (v := ?_) rfl (by kernel_rfl) (by kernel_rfl) (by kernel_rfl) (fun _ _ _ h => h) (Or.inl ⟨by rfl, ?_⟩) (unhide HH) ?_
    rotate_left 1
    · intro W1 ⟨s0, s1⟩; go_simp; all_goals (with_reducible rfl)
    (try simp only [Act.put, List.setIfInBounds_toArray, List.set_cons_zero, List.set_cons_succ])
    refine takeL (i := 3) (v := ?_) rfl (by kernel_rfl) (by kernel_rfl) (by kernel_rfl) (fun _ _ _ h => h) (Or.inl ⟨by rfl, ?_⟩) (unhide HH) ?_
    rotate_left 1
    · intro W1 ⟨s0, s1⟩; go_simp; all_goals (with_reducible rfl)
    (try simp only [Act.put, List.setIfInBounds_toArray, List.set_cons_zero, List.set_cons_succ])
    refine takeL (i := 4) (v := ?_) rfl (by kernel_rfl) (by kernel_rfl) (by kernel_rfl) (fun _ _ _ h => h) (Or.inl ⟨by rfl, ?_⟩) (unhide HH) ?_
    rotate_left 1
    · intro W1 ⟨s0, s1⟩; go_simp; all_goals (with_reducible rfl)
    (try simp only [Act.put, List.setIfInBounds_toArray, List.set_cons_zero, List.set_cons_succ])
    refine takeL (i := 5) (v := ?_) rfl (by kernel_rfl) (by kernel_rfl) (by kernel_rfl) (fun _ _ _ h => h) (Or.inl ⟨by rfl, ?_⟩) (unhide HH) ?_
    rotate_left 1
    · intro W1 ⟨s0, s1⟩; go_simp; all_goals (with_reducible rfl)
    (try simp only [Act.put, List.setIfInBounds_toArray, List.set_cons_zero, List.set_cons_succ])
    refine takeL (i := 6) (v := ?_) rfl (by kernel_rfl) (by kernel_rfl) (by kernel_rfl) (fun _ _ _ h => h) (Or.inl ⟨by rfl, ?_⟩) (unhide HH) ?_
    rotate_left 1
    · intro W1 ⟨s0, s1⟩; go_simp; all_goals (with_reducible rfl)
    (try simp only [Act.put, List.setIfInBounds_toArray, List.set_cons_zero, List.set_cons_succ])
    refine takeL (i := 7) (v := ?_) rfl (by kernel_rfl) (by kernel_rfl) (by kernel_rfl) (fun _ _ _ h => h) (Or.inl ⟨by rfl, ?_⟩) (unhide HH) ?_
    rotate_left 1
    · intro W1 ⟨s0, s1⟩; go_simp; all_goals (with_reducible rfl)
    (try simp only [Act.put, List.setIfInBounds_toArray, List.set_cons_zero, List.set_cons_succ])
    refine wpAnyH_ready (rs := [8]) (by kernel_rfl) (by simp) ?_
    refine consL rfl (fun K hK => ?_) AllReadyH.nil
    go_simp
    refine (within7_any a.p ((s.P : Int) + 1) _ (by omega) (by omega)).mono ?_
    rintro e V1 ⟨he, hV⟩
    rw [unhide Hp] at he
    subst he
    replace hV := hV.symm
    subst hV
    go_wp2_with fail
    refine hK.out _ _ (unhide HH) (fun hHeld => ?_)
    clear hK K HH
    have HH := hide hHeld
    clear hHeld
    (try simp only [Act.put, List.setIfInBounds_toArray, List.set_cons_zero, List.set_cons_succ])
    refine takeL (i := 9) (v := ?_) rfl (by kernel_rfl) (by kernel_rfl) (by kernel_rfl) (fun _ _ _ h => h) (Or.inl ⟨by rfl, ?_⟩) (unhide HH) ?_
    rotate_left 1
    · intro W1 ⟨s0, s1⟩; go_simp; all_goals (with_reducible rfl)
    (try simp only [Act.put, List.setIfInBounds_toArray, List.set_cons_zero, List.set_cons_succ])
    refine wpAnyH_done (by kernel_rfl) ?_ _
    refine NoPanic.normal ?_
    refine hKK _ _ ?_
    obtain hk | hk | hk | hk | hk | hk | hk | hk | hk | hk | hk | hk | hk : a.k % 13 = 0 ∨ a.k % 13 = 1 ∨ a.k % 13 = 2 ∨ a.k % 13 = 3 ∨ a.k % 13 = 4 ∨ a.k % 13 = 5 ∨ a.k % 13 = 6 ∨ a.k % 13 = 7 ∨ a.k % 13 = 8 ∨ a.k % 13 = 9 ∨ a.k % 13 = 10 ∨ a.k % 13 = 11 ∨ a.k % 13 = 12 := by omega
    · refine do_k0 (unhide HN) (unhide HR) (unhide HW) hd0 hk ?_
      intro vals W' h6 hPo
      refine bodyPost_ret (v := .bool true) ?_ rfl ⟨rfl, hPo⟩
      rw [results_tmp rfl, Array.getD_eq_getD_getElem?, h6]
      rfl
    · refine do_k1 (unhide HN) (unhide HR) (unhide HW) hd0 hk ?_
      intro vals W' h6 hPo
      refine bodyPost_ret (v := .bool true) ?_ rfl ⟨rfl, hPo⟩
      rw [results_tmp rfl, Array.getD_eq_getD_getElem?, h6]
      rfl
    · refine do_k2 (unhide HN) (unhide HR) (unhide HW) hd0 hk ?_
      intro vals W' h6 hPo
      refine bodyPost_ret (v := .bool true) ?_ rfl ⟨rfl, hPo⟩
      rw [results_tmp rfl, Array.getD_eq_getD_getElem?, h6]
      rfl
    · refine do_k3 (unhide HN) (unhide HR) (unhide HW) hd0 hk ?_
      intro vals W' h6 hPo
      refine bodyPost_ret (v := .bool true) ?_ rfl ⟨rfl, hPo⟩
      rw [results_tmp rfl, Array.getD_eq_getD_getElem?, h6]
      rfl
    · refine do_k4 (unhide HN) (unhide HR) (unhide HW) hd0 hk ?_
      intro vals W' h6 hPo
      refine bodyPost_ret (v := .bool true) ?_ rfl ⟨rfl, hPo⟩
      rw [results_tmp rfl, Array.getD_eq_getD_getElem?, h6]
      rfl
    · refine do_k5 (unhide HN) (unhide HR) (unhide HW) hd0 hk ?_
      intro vals W' h6 hPo
      refine bodyPost_ret (v := .bool true) ?_ rfl ⟨rfl, hPo⟩
      rw [results_tmp rfl, Array.getD_eq_getD_getElem?, h6]
      rfl
    · refine do_k6 (unhide HN) (unhide HR) (unhide HW) hk ?_
      intro vals W' h6 hPo
      refine bodyPost_ret (v := .bool true) ?_ rfl ⟨rfl, hPo⟩
      rw [results_tmp rfl, Array.getD_eq_getD_getElem?, h6]
      rfl
    · refine do_k7 (unhide HN) (unhide HR) (unhide HW) hP0 hk ?_
      intro vals W' h6 hPo
      refine bodyPost_ret (v := .bool true) ?_ rfl ⟨rfl, hPo⟩
      rw [results_tmp rfl, Array.getD_eq_getD_getElem?, h6]
      rfl
    · refine do_k8 (unhide HN) (unhide HR) (unhide HW) hP0 hk ?_
      intro vals W' h6 hPo
      refine bodyPost_ret (v := .bool true) ?_ rfl ⟨rfl, hPo⟩
      rw [results_tmp rfl, Array.getD_eq_getD_getElem?, h6]
      rfl
    · refine do_k9 (unhide HN) (unhide HR) (unhide HW) hk ?_
      intro vals W' h6 hPo
      refine bodyPost_ret (v := .bool true) ?_ rfl ⟨rfl, hPo⟩
      rw [results_tmp rfl, Array.getD_eq_getD_getElem?, h6]
      rfl
    · refine do_k10 (unhide HN) (unhide HR) (unhide HW) hk ?_
      intro vals W' h6 hPo
      refine bodyPost_ret (v := .bool true) ?_ rfl ⟨rfl, hPo⟩
      rw [results_tmp rfl, Array.getD_eq_getD_getElem?, h6]
      rfl
    · refine do_k11 (unhide HN) (unhide HR) (unhide HW) hP0 hk ?_
      intro vals W' h6 hPo
      refine bodyPost_ret (v := .bool true) ?_ rfl ⟨rfl, hPo⟩
      rw [results_tmp rfl, Array.getD_eq_getD_getElem?, h6]
      rfl
    · refine do_k12 (unhide HN) (unhide HR) (unhide HW) hk ?_
      intro vals W' h6 hPo
      refine bodyPost_ret (v := .bool true) ?_ rfl ⟨rfl, hPo⟩
      rw [results_tmp rfl, Array.getD_eq_getD_getElem?, h6]
      rfl
  · go_wp2_with fail
    clear b4
    rename_i KK hKK
    replace HN : Hid (NA m V.drew L s) := (unhide HN).below ((Below.refl _ _).drew)
    replace HR : Hid (RA m V.drew L' s) := (unhide HR).below ((Below.refl _ _).drew)
    replace HW : Hid (DoW m w V.drew a box) := (unhide HW).drew
    refine wp_region_noPanic ?_
    refine wp_region_held_drew (S := fun W => W.cell? ⟨box, 3, none⟩ = some (.int .i64 a.p) ∧ W.cell? ⟨L'.n, 2, none⟩ = some (.int .i64 (s.P : Int))) (by kernel_rfl) ?_ (fun hHeld => ?_)
    · exact ⟨cell_blk (unhide HW).bx rfl, (unhide HR).tc 2 rfl⟩
    have HH := hide hHeld
    clear hHeld
    generalize V.drew = V at HN HR HW HH ⊢
    refine takeL (i := 0) (v := ?_) rfl (by kernel_rfl) (by kernel_rfl) (by kernel_rfl) (fun _ _ _ h => h) (Or.inl ⟨by rfl, ?_⟩) (unhide HH) ?_
    rotate_left 1
    · intro W1 ⟨s0, s1⟩; go_simp; all_goals (with_reducible rfl)
    (try simp only [Act.put, List.setIfInBounds_toArray, List.set_cons_zero, List.set_cons_succ])
    refine takeL (i := 1) (v := ?_) rfl (by kernel_rfl) (by kernel_rfl) (by kernel_rfl) (fun _ _ _ h => h) (Or.inl ⟨by rfl, ?_⟩) (unhide HH) ?_
    rotate_left 1
    · intro W1 ⟨s0, s1⟩; go_simp; all_goals (with_reducible rfl)
    (try simp only [Act.put, List.setIfInBounds_toArray, List.set_cons_zero, List.set_cons_succ])
    refine takeL (i := 2) (v := ?_) rfl (by kernel_rfl) (by kernel_rfl) (by kernel_rfl) (fun _ _ _ h => h) (Or.inl ⟨by rfl, ?_⟩) (unhide HH) ?_
    rotate_left 1
    · intro W1 ⟨s0, s1⟩; go_simp; all_goals (with_reducible rfl)
    (try simp only [Act.put, List.setIfInBounds_toArray, List.set_cons_zero, List.set_cons_succ])
    refine takeL (i := 3) (v := ?_) rfl (by kernel_rfl) (by kernel_rfl) (by kernel_rfl) (fun _ _ _ h => h) (Or.inl ⟨by rfl, ?_⟩) (unhide HH) ?_
    rotate_left 1
    · intro W1 ⟨s0, s1⟩; go_simp; all_goals (with_reducible rfl)
    (try simp only [Act.put, List.setIfInBounds_toArray, List.set_cons_zero, List.set_cons_succ])
    refine takeL (i := 4) (v := ?_) rfl (by kernel_rfl) (by kernel_rfl) (by kernel_rfl) (fun _ _ _ h => h) (Or.inl ⟨by rfl, ?_⟩) (unhide HH) ?_
    rotate_left 1
    · intro W1 ⟨s0, s1⟩; go_simp; all_goals (with_reducible rfl)
    (try simp only [Act.put, List.setIfInBounds_toArray, List.set_cons_zero, List.set_cons_succ])
    refine takeL (i := 5) (v := ?_) rfl (by kernel_rfl) (by kernel_rfl) (by kernel_rfl) (fun _ _ _ h => h) (Or.inl ⟨by rfl, ?_⟩) (unhide HH) ?_
    rotate_left 1
    · intro W1 ⟨s0, s1⟩; go_simp; all_goals (with_reducible rfl)
    (try simp only [Act.put, List.setIfInBounds_toArray, List.set_cons_zero, List.set_cons_succ])
    refine takeL (i := 6) (v := ?_) rfl (by kernel_rfl) (by kernel_rfl) (by kernel_rfl) (fun _ _ _ h => h) (Or.inl ⟨by rfl, ?_⟩) (unhide HH) ?_
    rotate_left 1
    · intro W1 ⟨s0, s1⟩; go_simp; all_goals (with_reducible rfl)
    (try simp only [Act.put, List.setIfInBounds_toArray, List.set_cons_zero, List.set_cons_succ])
    refine takeL (i := 7) (v := ?_) rfl (by kernel_rfl) (by kernel_rfl) (by kernel_rfl) (fun _ _ _ h => h) (Or.inl ⟨by rfl, ?_⟩) (unhide HH) ?_
    rotate_left 1
    · intro W1 ⟨s0, s1⟩; go_simp; all_goals (with_reducible rfl)
    (try simp only [Act.put, List.setIfInBounds_toArray, List.set_cons_zero, List.set_cons_succ])
    refine wpAnyH_ready (rs := [8]) (by kernel_rfl) (by simp) ?_
    refine consL rfl (fun K hK => ?_) AllReadyH.nil
    go_simp
    refine (within7_any a.p ((s.P : Int) + 1) _ (by omega) (by omega)).mono ?_
    rintro e V1 ⟨he, hV⟩
    rw [unhide Hp] at he
    subst he
    replace hV := hV.symm
    subst hV
    go_wp2_with fail
    refine hK.out _ _ (unhide HH) (fun hHeld => ?_)
    clear hK K HH
    have HH := hide hHeld
    clear hHeld
    (try simp only [Act.put, List.setIfInBounds_toArray, List.set_cons_zero, List.set_cons_succ])
    refine takeL (i := 9) (v := ?_) rfl (by kernel_rfl) (by kernel_rfl) (by kernel_rfl) (fun _ _ _ h => h) (Or.inl ⟨by rfl, ?_⟩) (unhide HH) ?_
    rotate_left 1
    · intro W1 ⟨s0, s1⟩; go_simp; all_goals (with_reducible rfl)
    (try simp only [Act.put, List.setIfInBounds_toArray, List.set_cons_zero, List.set_cons_succ])
    refine wpAnyH_done (by kernel_rfl) ?_ _
    refine NoPanic.normal ?_
    refine hKK _ _ ?_
    obtain hk | hk | hk | hk | hk | hk | hk | hk | hk | hk | hk | hk | hk : a.k % 13 = 0 ∨ a.k % 13 = 1 ∨ a.k % 13 = 2 ∨ a.k % 13 = 3 ∨ a.k % 13 = 4 ∨ a.k % 13 = 5 ∨ a.k % 13 = 6 ∨ a.k % 13 = 7 ∨ a.k % 13 = 8 ∨ a.k % 13 = 9 ∨ a.k % 13 = 10 ∨ a.k % 13 = 11 ∨ a.k % 13 = 12 := by omega
    · refine do_k0 (unhide HN) (unhide HR) (unhide HW) hd0 hk ?_
      intro vals W' h6 hPo
      refine bodyPost_ret (v := .bool true) ?_ rfl ⟨rfl, hPo⟩
      rw [results_tmp rfl, Array.getD_eq_getD_getElem?, h6]
      rfl
    · refine do_k1 (unhide HN) (unhide HR) (unhide HW) hd0 hk ?_
      intro vals W' h6 hPo
      refine bodyPost_ret (v := .bool true) ?_ rfl ⟨rfl, hPo⟩
      rw [results_tmp rfl, Array.getD_eq_getD_getElem?, h6]
      rfl
    · refine do_k2 (unhide HN) (unhide HR) (unhide HW) hd0 hk ?_
      intro vals W' h6 hPo
      refine bodyPost_ret (v := .bool true) ?_ rfl ⟨rfl, hPo⟩
      rw [results_tmp rfl, Array.getD_eq_getD_getElem?, h6]
      rfl
    · refine do_k3 (unhide HN) (unhide HR) (unhide HW) hd0 hk ?_
      intro vals W' h6 hPo
      refine bodyPost_ret (v := .bool true) ?_ rfl ⟨rfl, hPo⟩
      rw [results_tmp rfl, Array.getD_eq_getD_getElem?, h6]
      rfl
    · refine do_k4 (unhide HN) (unhide HR) (unhide HW) hd0 hk ?_
      intro vals W' h6 hPo
      refine bodyPost_ret (v := .bool true) ?_ rfl ⟨rfl, hPo⟩
      rw [results_tmp rfl, Array.getD_eq_getD_getElem?, h6]
      rfl
    · refine do_k5 (unhide HN) (unhide HR) (unhide HW) hd0 hk ?_
      intro vals W' h6 hPo
      refine bodyPost_ret (v := .bool true) ?_ rfl ⟨rfl, hPo⟩
      rw [results_tmp rfl, Array.getD_eq_getD_getElem?, h6]
      rfl
    · refine do_k6 (unhide HN) (unhide HR) (unhide HW) hk ?_
      intro vals W' h6 hPo
      refine bodyPost_ret (v := .bool true) ?_ rfl ⟨rfl, hPo⟩
      rw [results_tmp rfl, Array.getD_eq_getD_getElem?, h6]
      rfl
    · refine do_k7 (unhide HN) (unhide HR) (unhide HW) hP0 hk ?_
      intro vals W' h6 hPo
      refine bodyPost_ret (v := .bool true) ?_ rfl ⟨rfl, hPo⟩
      rw [results_tmp rfl, Array.getD_eq_getD_getElem?, h6]
      rfl
    · refine do_k8 (unhide HN) (unhide HR) (unhide HW) hP0 hk ?_
      intro vals W' h6 hPo
      refine bodyPost_ret (v := .bool true) ?_ rfl ⟨rfl, hPo⟩
      rw [results_tmp rfl, Array.getD_eq_getD_getElem?, h6]
      rfl
    · refine do_k9 (unhide HN) (unhide HR) (unhide HW) hk ?_
      intro vals W' h6 hPo
      refine bodyPost_ret (v := .bool true) ?_ rfl ⟨rfl, hPo⟩
      rw [results_tmp rfl, Array.getD_eq_getD_getElem?, h6]
      rfl
    · refine do_k10 (unhide HN) (unhide HR) (unhide HW) hk ?_
      intro vals W' h6 hPo
      refine bodyPost_ret (v := .bool true) ?_ rfl ⟨rfl, hPo⟩
      rw [results_tmp rfl, Array.getD_eq_getD_getElem?, h6]
      rfl
    · refine do_k11 (unhide HN) (unhide HR) (unhide HW) hP0 hk ?_
      intro vals W' h6 hPo
      refine bodyPost_ret (v := .bool true) ?_ rfl ⟨rfl, hPo⟩
      rw [results_tmp rfl, Array.getD_eq_getD_getElem?, h6]
      rfl
    · refine do_k12 (unhide HN) (unhide HR) (unhide HW) hk ?_
      intro vals W' h6 hPo
      refine bodyPost_ret (v := .bool true) ?_ rfl ⟨rfl, hPo⟩
      rw [results_tmp rfl, Array.getD_eq_getD_getElem?, h6]
      rfl

end Go.Proofs.Ytnondiaefpdlpaa
