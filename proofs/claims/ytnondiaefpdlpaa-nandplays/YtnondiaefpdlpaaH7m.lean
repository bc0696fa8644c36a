/-
  The laws' own Make.
-/
import Derived.Test.YtnondiaefpdlpaaH7
import Derived.Test.YtnondiaefpdlpaaMf
namespace Go.Proofs.Ytnondiaefpdlpaa
open Go.RowKit Go.Shelf

theorem below_cell7 {m : Nat} {A B : World} (h : Below m A B) {p : Addr} {v : Value} (hc : A.cell? p = some v) (hp : p.block < m) : B.cell? p = some v := (h.cell hp).trans hc

theorem results_cell {P : Program} {fn : Func} {p : Tmp} {ty : TypeId} (h : fn.results = #[.cell p ty]) (tmps : Array Value) (w : World) (ad : Addr) (x : Value) (hp : tmps.getD p undef = .pointer (some ad)) (hl : (loadVar ty ad).run P w = .ok x w) :
    (results fn tmps).run P w = .ok x w := by
  rw [Array.getD_eq_getD_getElem?] at hp
  simp only [results, h]
  simp [hp, asAddr, hl]
theorem load_three {W : World} {B : Nat} {a b c : Value} (h : W.heap[B]? = some (.cells #[a, b, c] 23 (0, 0))) : (loadVar 23 ⟨B, 0, none⟩).run Try.prog W = .ok (.agg #[a, b, c]) W := by
  have k0 : W.cell? ⟨B, 0, none⟩ = some a := cell_blk h rfl
  have k1 : W.cell? ⟨B, 1, none⟩ = some b := cell_blk h rfl
  have k2 : W.cell? ⟨B, 2, none⟩ = some c := cell_blk h rfl
  have hu := Try.underlying23
  simp [loadVar, isAgg, run_underlying hu, go_sem, k0, k1, k2]

set_option maxRecDepth 100000 in
set_option maxHeartbeats 4000000 in
theorem make_any (D B P : Int) (w : World) : Calls Try.prog 11 #[.agg #[.int .i64 D, .int .i64 B, .int .i64 P]] w fun e w' => ∃ d b p : Nat, okG d b p ∧ ((d : Int) = 6 + D % 3 ∧ (b : Int) = 8 + B % 5 ∧ (p : Int) = 4 + P % 5) ∧ e = .returned (.agg #[.int .i64 (d : Int), .int .i64 (b : Int), .int .i64 (p : Int)]) ∧ Below w.heap.size w w' := by
  obtain ⟨d, hd⟩ := Int.eq_ofNat_of_zero_le (Int.emod_nonneg D (show (3 : Int) ≠ 0 by omega))
  obtain ⟨b, hb⟩ := Int.eq_ofNat_of_zero_le (Int.emod_nonneg B (show (5 : Int) ≠ 0 by omega))
  obtain ⟨p, hp⟩ := Int.eq_ofNat_of_zero_le (Int.emod_nonneg P (show (5 : Int) ≠ 0 by omega))
  have hd3 : (d : Int) < 3 := by rw [← hd]; exact Int.emod_lt_of_pos _ (by omega)
  have hb5 : (b : Int) < 5 := by rw [← hb]; exact Int.emod_lt_of_pos _ (by omega)
  have hp5 : (p : Int) < 5 := by rw [← hp]; exact Int.emod_lt_of_pos _ (by omega)
  have HD := hide hd
  have HB := hide hb
  have HP := hide hp
  clear hd hb hp
  obtain ⟨W0, hW0⟩ : ∃ W, (w.alloc (.cells #[.int .i64 D, .int .i64 B, .int .i64 P] 23)).alloc (.cells #[.int .i64 0, .int .i64 0, .int .i64 0] 23) = W := ⟨_, rfl⟩
  have hz0 : W0.heap.size = w.heap.size + 2 := by rw [← hW0]; simp
  have hn : W0.heap[w.heap.size]? = some (.cells #[.int .i64 D, .int .i64 B, .int .i64 P] 23 (0, 0)) := by rw [← hW0]; exact (Below.heap_alloc _ _ _ (by simp)).trans (World.alloc_heap_new w _)
  have hn2 : W0.heap[w.heap.size + 1]? = some (.cells #[.int .i64 0, .int .i64 0, .int .i64 0] 23 (0, 0)) := by
    rw [← hW0]
    have h := World.alloc_heap_new (w.alloc (.cells #[.int .i64 D, .int .i64 B, .int .i64 P] 23)) (.cells #[.int .i64 0, .int .i64 0, .int .i64 0] 23)
    rw [World.size_alloc] at h
    exact h
  have hbw : Below w.heap.size w W0 := by rw [← hW0]; exact ((Below.refl _ _).alloc (Nat.le_refl _) _).alloc (by simp) _
  have HBW := hide hbw
  have HN2 := hide hn2
  have C0 : Hid (W0.drew.cell? ⟨w.heap.size, 0, none⟩ = some (.int .i64 D)) := cell_blk (w := W0.drew) hn rfl
  have C1 : Hid (W0.drew.cell? ⟨w.heap.size, 1, none⟩ = some (.int .i64 B)) := cell_blk (w := W0.drew) hn rfl
  have C2 : Hid (W0.drew.cell? ⟨w.heap.size, 2, none⟩ = some (.int .i64 P)) := cell_blk (w := W0.drew) hn rfl
  have hza := Nat.le_of_eq hz0
  have hzb : w.heap.size + 2 ≤ W0.drew.heap.size := Nat.le_of_eq hz0.symm
  clear hn hn2 hbw hz0
  go_enter Try.func11, Try.ntmps11
  go_wp2_with fail
  refine wp_region_noPanic ?_
  refine wp_region_held_drew (S := fun W => Below (w.heap.size + 1) W0.drew W) (by kernel_rfl) (Below.refl _ _) (fun hHeld => ?_)
  have HH := hide hHeld
  clear hHeld
  refine takeL (i := 0) (v := ?_) rfl (by kernel_rfl) (by kernel_rfl) (by kernel_rfl) (fun _ _ _ h => h) (Or.inl ⟨by rfl, ?_⟩) (unhide HH) ?_
  rotate_left 1
  · intro W hSW; go_simp; all_goals (with_reducible rfl)
  (try simp only [Act.put, List.setIfInBounds_toArray, List.set_cons_zero, List.set_cons_succ])
  refine takeL (i := 1) (v := ?_) rfl (by kernel_rfl) (by kernel_rfl) (by kernel_rfl) (fun _ _ _ h => h) (Or.inl ⟨by rfl, ?_⟩) (unhide HH) ?_
  rotate_left 1
  · intro W1 hSW; have hcl := below_cell7 hSW (unhide C0) (by show w.heap.size < _; omega); clear hSW; go_simp; all_goals (with_reducible rfl)
  (try simp only [Act.put, List.setIfInBounds_toArray, List.set_cons_zero, List.set_cons_succ])
  refine takeL (i := 4) (v := ?_) rfl (by kernel_rfl) (by kernel_rfl) (by kernel_rfl) (fun _ _ _ h => h) (Or.inl ⟨by rfl, ?_⟩) (unhide HH) ?_
  rotate_left 1
  · intro W hSW; go_simp; all_goals (with_reducible rfl)
  (try simp only [Act.put, List.setIfInBounds_toArray, List.set_cons_zero, List.set_cons_succ])
  refine takeL (i := 5) (v := ?_) rfl (by kernel_rfl) (by kernel_rfl) (by kernel_rfl) (fun _ _ _ h => h) (Or.inl ⟨by rfl, ?_⟩) (unhide HH) ?_
  rotate_left 1
  · intro W1 hSW; have hcl := below_cell7 hSW (unhide C1) (by show w.heap.size < _; omega); clear hSW; go_simp; all_goals (with_reducible rfl)
  (try simp only [Act.put, List.setIfInBounds_toArray, List.set_cons_zero, List.set_cons_succ])
  refine takeL (i := 8) (v := ?_) rfl (by kernel_rfl) (by kernel_rfl) (by kernel_rfl) (fun _ _ _ h => h) (Or.inl ⟨by rfl, ?_⟩) (unhide HH) ?_
  rotate_left 1
  · intro W hSW; go_simp; all_goals (with_reducible rfl)
  (try simp only [Act.put, List.setIfInBounds_toArray, List.set_cons_zero, List.set_cons_succ])
  refine takeL (i := 9) (v := ?_) rfl (by kernel_rfl) (by kernel_rfl) (by kernel_rfl) (fun _ _ _ h => h) (Or.inl ⟨by rfl, ?_⟩) (unhide HH) ?_
  rotate_left 1
  · intro W1 hSW; have hcl := below_cell7 hSW (unhide C2) (by show w.heap.size < _; omega); clear hSW; go_simp; all_goals (with_reducible rfl)
  (try simp only [Act.put, List.setIfInBounds_toArray, List.set_cons_zero, List.set_cons_succ])
  refine wpAnyH_ready (rs := [2]) (by kernel_rfl) (by simp) ?_
  refine consL rfl (fun K hK => ?_) AllReadyH.nil
  go_simp
  refine (within7_any _ 3 _ (by omega) (by omega)).mono ?_
  rintro e W2 ⟨rfl, hW2⟩
  rw [unhide HD]
  subst hW2
  go_wp2_with fail
  refine hK.out _ _ (unhide HH) (fun hHeld => ?_)
  clear hK K HH
  have HH := hide hHeld
  clear hHeld
  (try simp only [Act.put, List.setIfInBounds_toArray, List.set_cons_zero, List.set_cons_succ])
  refine takeL (i := 3) (v := ?_) rfl (by kernel_rfl) (by kernel_rfl) (by kernel_rfl) (fun _ _ _ h => h) (Or.inl ⟨by rfl, ?_⟩) (unhide HH) ?_
  rotate_left 1
  · intro W hSW; go_simp; all_goals (with_reducible rfl)
  (try simp only [Act.put, List.setIfInBounds_toArray, List.set_cons_zero, List.set_cons_succ])
  refine wpAnyH_ready (rs := [6]) (by kernel_rfl) (by simp) ?_
  refine consL rfl (fun K hK => ?_) AllReadyH.nil
  go_simp
  refine (within7_any _ 5 _ (by omega) (by omega)).mono ?_
  rintro e W2 ⟨rfl, hW2⟩
  rw [unhide HB]
  subst hW2
  go_wp2_with fail
  refine hK.out _ _ (unhide HH) (fun hHeld => ?_)
  clear hK K HH
  have HH := hide hHeld
  clear hHeld
  (try simp only [Act.put, List.setIfInBounds_toArray, List.set_cons_zero, List.set_cons_succ])
  refine takeL (i := 7) (v := ?_) rfl (by kernel_rfl) (by kernel_rfl) (by kernel_rfl) (fun _ _ _ h => h) (Or.inl ⟨by rfl, ?_⟩) (unhide HH) ?_
  rotate_left 1
  · intro W hSW; go_simp; all_goals (with_reducible rfl)
  (try simp only [Act.put, List.setIfInBounds_toArray, List.set_cons_zero, List.set_cons_succ])
  refine wpAnyH_ready (rs := [10]) (by kernel_rfl) (by simp) ?_
  refine consL rfl (fun K hK => ?_) AllReadyH.nil
  go_simp
  refine (within7_any _ 5 _ (by omega) (by omega)).mono ?_
  rintro e W2 ⟨rfl, hW2⟩
  rw [unhide HP]
  subst hW2
  go_wp2_with fail
  refine hK.out _ _ (unhide HH) (fun hHeld => ?_)
  clear hK K HH
  have HH := hide hHeld
  clear hHeld
  (try simp only [Act.put, List.setIfInBounds_toArray, List.set_cons_zero, List.set_cons_succ])
  refine takeL (i := 11) (v := ?_) rfl (by kernel_rfl) (by kernel_rfl) (by kernel_rfl) (fun _ _ _ h => h) (Or.inl ⟨by rfl, ?_⟩) (unhide HH) ?_
  rotate_left 1
  · intro W hSW; go_simp; all_goals (with_reducible rfl)
  (try simp only [Act.put, List.setIfInBounds_toArray, List.set_cons_zero, List.set_cons_succ])
  refine takeL (i := 12) (v := ?_) rfl (by kernel_rfl) (by kernel_rfl) (by kernel_rfl) (fun _ _ _ h => h) (Or.inl ⟨by rfl, ?_⟩) (unhide HH) ?_
  rotate_left 1
  · intro W hSW; go_simp; all_goals (with_reducible rfl)
  (try simp only [Act.put, List.setIfInBounds_toArray, List.set_cons_zero, List.set_cons_succ])
  refine wpAnyH_ready (rs := [13]) (by kernel_rfl) (by simp) ?_
  refine consL rfl (fun K hK => ?_) AllReadyH.nil
  have e0 : W0.cell? ⟨w.heap.size + 1, 0, none⟩ = some (.int .i64 0) := cell_blk (unhide HN2) rfl
  have e1 : W0.cell? ⟨w.heap.size + 1, 1, none⟩ = some (.int .i64 0) := cell_blk (unhide HN2) rfl
  have e2 : W0.cell? ⟨w.heap.size + 1, 2, none⟩ = some (.int .i64 0) := cell_blk (unhide HN2) rfl
  have f0 : W0.frozen? ⟨w.heap.size + 1, 0, none⟩ = false := free_blk (unhide HN2)
  have f1 : W0.frozen? ⟨w.heap.size + 1, 1, none⟩ = false := free_blk (unhide HN2)
  have f2 : W0.frozen? ⟨w.heap.size + 1, 2, none⟩ = false := free_blk (unhide HN2)
  go_simp
  rw [IntWalk.i64_in (6 + (d : Int)) ⟨by omega, by omega⟩, IntWalk.i64_in (8 + (b : Int)) ⟨by omega, by omega⟩, IntWalk.i64_in (4 + (p : Int)) ⟨by omega, by omega⟩]
  have hb3 : Below (w.heap.size + 1) W0 (((W0.setCell ⟨w.heap.size + 1, 0, none⟩ (.int .i64 (6 + (d : Int)))).setCell ⟨w.heap.size + 1, 1, none⟩ (.int .i64 (8 + (b : Int)))).setCell ⟨w.heap.size + 1, 2, none⟩ (.int .i64 (4 + (p : Int)))) := (((Below.refl _ W0).setCell (p := ⟨w.heap.size + 1, 0, none⟩) (Nat.le_refl _) _).setCell (p := ⟨w.heap.size + 1, 1, none⟩) (Nat.le_refl _) _).setCell (p := ⟨w.heap.size + 1, 2, none⟩) (Nat.le_refl _) _
  have h0 := heap_setCell_same W0 (w.heap.size + 1) 0 _ _ (.int .i64 (6 + (d : Int))) (unhide HN2)
  have h1 := heap_setCell_same _ (w.heap.size + 1) 1 _ _ (.int .i64 (8 + (b : Int))) h0
  have h2 := heap_setCell_same _ (w.heap.size + 1) 2 _ _ (.int .i64 (4 + (p : Int))) h1
  have H2 : Hid ((((W0.setCell ⟨w.heap.size + 1, 0, none⟩ (.int .i64 (6 + (d : Int)))).setCell ⟨w.heap.size + 1, 1, none⟩ (.int .i64 (8 + (b : Int)))).setCell ⟨w.heap.size + 1, 2, none⟩ (.int .i64 (4 + (p : Int)))).drew.heap[w.heap.size + 1]? = some (.cells #[.int .i64 (6 + (d : Int)), .int .i64 (8 + (b : Int)), .int .i64 (4 + (p : Int))] 23 (0, 0))) := h2
  have HB3 := hide (((unhide HBW).trans (hb3.mono (by omega))).drew)
  clear e0 e1 e2 f0 f1 f2 h0 h1 h2
  refine hK.out _ _ (⟨hb3.os, hb3.tape, hb3.output, hb3.size, hb3.block⟩) (fun hHeld => ?_)
  clear hK K HH
  have HH := hide hHeld
  clear hHeld
  (try simp only [Act.put, List.setIfInBounds_toArray, List.set_cons_zero, List.set_cons_succ])
  clear hb3
  refine wpAnyH_done (by kernel_rfl) ?_ _
  refine NoPanic.normal ?_
  go_wp2_with fail
  generalize (((W0.setCell ⟨w.heap.size + 1, 0, none⟩ (.int .i64 (6 + (d : Int)))).setCell ⟨w.heap.size + 1, 1, none⟩ (.int .i64 (8 + (b : Int)))).setCell ⟨w.heap.size + 1, 2, none⟩ (.int .i64 (4 + (p : Int)))).drew = W9 at H2 HB3 ⊢
  refine bodyPost_ret (results_cell rfl _ _ ⟨w.heap.size + 1, 0, none⟩ _ rfl (load_three (unhide H2))) rfl ?_
  exact ⟨6 + d, 8 + b, 4 + p, ⟨⟨by omega, by omega⟩, ⟨by omega, by omega⟩, by omega, by omega⟩, ⟨by rw [unhide HD]; omega, by rw [unhide HB]; omega, by rw [unhide HP]; omega⟩, by rw [show ((6 + d : Nat) : Int) = 6 + (d : Int) from by omega, show ((8 + b : Nat) : Int) = 8 + (b : Int) from by omega, show ((4 + p : Nat) : Int) = 4 + (p : Int) from by omega], unhide HB3⟩

end Go.Proofs.Ytnondiaefpdlpaa
