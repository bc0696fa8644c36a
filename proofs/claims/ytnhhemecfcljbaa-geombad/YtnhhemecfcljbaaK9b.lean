/-
  The laws' within (ramekinlaw7), Make, Spoil; ramekinref7.Check (out of H7, H7m, S7e, U7a).
-/
import Derived.Test.YtnhhemecfcljbaaK9a
namespace Go.Proofs.Ytnhhemecfcljbaa
open Go.RowKit Go.Shelf

theorem within7_any (a n : Int) (w : World) (hn : 0 < n) (hn2 : n < 100000) :
    Calls Try.prog 20 #[.int .i64 a, .int .i64 n] w fun e w' => e = .returned (.int .i64 (a % n)) ∧ w' = w := by
  obtain ⟨h1, h2, h3, h4⟩ := tmod_emod a n hn
  have H1 := hide h1
  have H2 := hide h2
  clear h1 h2
  go_enter Try.func20, Try.ntmps20
  go_wp2
  · have h5 : a.tmod n < 0 := by assumption
    go_ret
    exact ⟨by rw [← unhide H1 h5]; rfl, rfl⟩
  · have h5 : 0 ≤ a.tmod n := by assumption
    go_ret
    exact ⟨by rw [← unhide H2 h5]; rfl, rfl⟩
set_option maxRecDepth 100000 in
set_option maxHeartbeats 4000000 in
theorem make_any (D B P : Int) (w : World) : Calls Try.prog 9 #[.agg #[.int .i64 D, .int .i64 B, .int .i64 P]] w fun e w' => ∃ d b p : Nat, okG d b p ∧ ((d : Int) = 6 + D % 3 ∧ (b : Int) = 8 + B % 5 ∧ (p : Int) = 4 + P % 5) ∧ e = .returned (.agg #[.int .i64 (d : Int), .int .i64 (b : Int), .int .i64 (p : Int)]) ∧ Below w.heap.size w w' := by
  obtain ⟨d, hd⟩ := Int.eq_ofNat_of_zero_le (Int.emod_nonneg D (show (3 : Int) ≠ 0 by omega))
  obtain ⟨b, hb⟩ := Int.eq_ofNat_of_zero_le (Int.emod_nonneg B (show (5 : Int) ≠ 0 by omega))
  obtain ⟨p, hp⟩ := Int.eq_ofNat_of_zero_le (Int.emod_nonneg P (show (5 : Int) ≠ 0 by omega))
  have hd3 : (d : Int) < 3 := by rw [← hd]; exact Int.emod_lt_of_pos _ (by omega)
  have hb5 : (b : Int) < 5 := by rw [← hb]; exact Int.emod_lt_of_pos _ (by omega)
  have hp5 : (p : Int) < 5 := by rw [← hp]; exact Int.emod_lt_of_pos _ (by omega)
  have HD := hide hd
  have HB := hide hb
  have HP := hide hp
  clear hd hb hp
  obtain ⟨W0, hW0⟩ : ∃ W, (w.alloc (.cells #[.int .i64 D, .int .i64 B, .int .i64 P] 23)).alloc (.cells #[.int .i64 0, .int .i64 0, .int .i64 0] 23) = W := ⟨_, rfl⟩
  have hz0 : W0.heap.size = w.heap.size + 2 := by rw [← hW0]; simp
  have hn : W0.heap[w.heap.size]? = some (.cells #[.int .i64 D, .int .i64 B, .int .i64 P] 23 (0, 0)) := by rw [← hW0]; exact (Below.heap_alloc _ _ _ (by simp)).trans (World.alloc_heap_new w _)
  have hn2 : W0.heap[w.heap.size + 1]? = some (.cells #[.int .i64 0, .int .i64 0, .int .i64 0] 23 (0, 0)) := by
    rw [← hW0]
    have h := World.alloc_heap_new (w.alloc (.cells #[.int .i64 D, .int .i64 B, .int .i64 P] 23)) (.cells #[.int .i64 0, .int .i64 0, .int .i64 0] 23)
    rw [World.size_alloc] at h
    exact h
  have hbw : Below w.heap.size w W0 := by rw [← hW0]; exact ((Below.refl _ _).alloc (Nat.le_refl _) _).alloc (by simp) _
  have HBW := hide hbw
  have HN2 := hide hn2
  have C0 : Hid (W0.drew.cell? ⟨w.heap.size, 0, none⟩ = some (.int .i64 D)) := cell_blk (w := W0.drew) hn rfl
  have C1 : Hid (W0.drew.cell? ⟨w.heap.size, 1, none⟩ = some (.int .i64 B)) := cell_blk (w := W0.drew) hn rfl
  have C2 : Hid (W0.drew.cell? ⟨w.heap.size, 2, none⟩ = some (.int .i64 P)) := cell_blk (w := W0.drew) hn rfl
  have hza := Nat.le_of_eq hz0
  have hzb : w.heap.size + 2 ≤ W0.drew.heap.size := Nat.le_of_eq hz0.symm
  clear hn hn2 hbw hz0
  go_enter Try.func9, Try.ntmps9
  go_wp2_with fail
  refine wp_region_noPanic ?_
  refine wp_region_held_drew (S := fun W => Below (w.heap.size + 1) W0.drew W) (by kernel_rfl) (Below.refl _ _) (fun hHeld => ?_)
  have HH := hide hHeld
  clear hHeld
  refine takeL (i := 0) (v := ?_) rfl (by kernel_rfl) (by kernel_rfl) (by kernel_rfl) (fun _ _ _ h => h) (Or.inl ⟨by rfl, ?_⟩) (unhide HH) ?_
  rotate_left 1
  · intro W hSW; go_simp; all_goals (with_reducible rfl)
  (try simp only [Act.put, List.setIfInBounds_toArray, List.set_cons_zero, List.set_cons_succ])
  refine takeL (i := 1) (v := ?_) rfl (by kernel_rfl) (by kernel_rfl) (by kernel_rfl) (fun _ _ _ h => h) (Or.inl ⟨by rfl, ?_⟩) (unhide HH) ?_
  rotate_left 1
  · intro W1 hSW; have hcl := below_cell7 hSW (unhide C0) (by show w.heap.size < _; omega); clear hSW; go_simp; all_goals (with_reducible rfl)
  (try simp only [Act.put, List.setIfInBounds_toArray, List.set_cons_zero, List.set_cons_succ])
  refine takeL (i := 4) (v := ?_) rfl (by kernel_rfl) (by kernel_rfl) (by kernel_rfl) (fun _ _ _ h => h) (Or.inl ⟨by rfl, ?_⟩) (unhide HH) ?_
  rotate_left 1
  · intro W hSW; go_simp; all_goals (with_reducible rfl)
  (try simp only [Act.put, List.setIfInBounds_toArray, List.set_cons_zero, List.set_cons_succ])
  refine takeL (i := 5) (v := ?_) rfl (by kernel_rfl) (by kernel_rfl) (by kernel_rfl) (fun _ _ _ h => h) (Or.inl ⟨by rfl, ?_⟩) (unhide HH) ?_
  rotate_left 1
  · intro W1 hSW; have hcl := below_cell7 hSW (unhide C1) (by show w.heap.size < _; omega); clear hSW; go_simp; all_goals (with_reducible rfl)
  (try simp only [Act.put, List.setIfInBounds_toArray, List.set_cons_zero, List.set_cons_succ])
  refine takeL (i := 8) (v := ?_) rfl (by kernel_rfl) (by kernel_rfl) (by kernel_rfl) (fun _ _ _ h => h) (Or.inl ⟨by rfl, ?_⟩) (unhide HH) ?_
  rotate_left 1
  · intro W hSW; go_simp; all_goals (with_reducible rfl)
  (try simp only [Act.put, List.setIfInBounds_toArray, List.set_cons_zero, List.set_cons_succ])
  refine takeL (i := 9) (v := ?_) rfl (by kernel_rfl) (by kernel_rfl) (by kernel_rfl) (fun _ _ _ h => h) (Or.inl ⟨by rfl, ?_⟩) (unhide HH) ?_
  rotate_left 1
  · intro W1 hSW; have hcl := below_cell7 hSW (unhide C2) (by show w.heap.size < _; omega); clear hSW; go_simp; all_goals (with_reducible rfl)
  (try simp only [Act.put, List.setIfInBounds_toArray, List.set_cons_zero, List.set_cons_succ])
  refine wpAnyH_ready (rs := [2]) (by kernel_rfl) (by simp) ?_
  refine consL rfl (fun K hK => ?_) AllReadyH.nil
  go_simp
  refine (within7_any _ 3 _ (by omega) (by omega)).mono ?_
  rintro e W2 ⟨rfl, hW2⟩
  rw [unhide HD]
  subst hW2
  go_wp2_with fail
  refine hK.out _ _ (unhide HH) (fun hHeld => ?_)
  clear hK K HH
  have HH := hide hHeld
  clear hHeld
  (try simp only [Act.put, List.setIfInBounds_toArray, List.set_cons_zero, List.set_cons_succ])
  refine takeL (i := 3) (v := ?_) rfl (by kernel_rfl) (by kernel_rfl) (by kernel_rfl) (fun _ _ _ h => h) (Or.inl ⟨by rfl, ?_⟩) (unhide HH) ?_
  rotate_left 1
  · intro W hSW; go_simp; all_goals (with_reducible rfl)
  (try simp only [Act.put, List.setIfInBounds_toArray, List.set_cons_zero, List.set_cons_succ])
  refine wpAnyH_ready (rs := [6]) (by kernel_rfl) (by simp) ?_
  refine consL rfl (fun K hK => ?_) AllReadyH.nil
  go_simp
  refine (within7_any _ 5 _ (by omega) (by omega)).mono ?_
  rintro e W2 ⟨rfl, hW2⟩
  rw [unhide HB]
  subst hW2
  go_wp2_with fail
  refine hK.out _ _ (unhide HH) (fun hHeld => ?_)
  clear hK K HH
  have HH := hide hHeld
  clear hHeld
  (try simp only [Act.put, List.setIfInBounds_toArray, List.set_cons_zero, List.set_cons_succ])
  refine takeL (i := 7) (v := ?_) rfl (by kernel_rfl) (by kernel_rfl) (by kernel_rfl) (fun _ _ _ h => h) (Or.inl ⟨by rfl, ?_⟩) (unhide HH) ?_
  rotate_left 1
  · intro W hSW; go_simp; all_goals (with_reducible rfl)
  (try simp only [Act.put, List.setIfInBounds_toArray, List.set_cons_zero, List.set_cons_succ])
  refine wpAnyH_ready (rs := [10]) (by kernel_rfl) (by simp) ?_
  refine consL rfl (fun K hK => ?_) AllReadyH.nil
  go_simp
  refine (within7_any _ 5 _ (by omega) (by omega)).mono ?_
  rintro e W2 ⟨rfl, hW2⟩
  rw [unhide HP]
  subst hW2
  go_wp2_with fail
  refine hK.out _ _ (unhide HH) (fun hHeld => ?_)
  clear hK K HH
  have HH := hide hHeld
  clear hHeld
  (try simp only [Act.put, List.setIfInBounds_toArray, List.set_cons_zero, List.set_cons_succ])
  refine takeL (i := 11) (v := ?_) rfl (by kernel_rfl) (by kernel_rfl) (by kernel_rfl) (fun _ _ _ h => h) (Or.inl ⟨by rfl, ?_⟩) (unhide HH) ?_
  rotate_left 1
  · intro W hSW; go_simp; all_goals (with_reducible rfl)
  (try simp only [Act.put, List.setIfInBounds_toArray, List.set_cons_zero, List.set_cons_succ])
  refine takeL (i := 12) (v := ?_) rfl (by kernel_rfl) (by kernel_rfl) (by kernel_rfl) (fun _ _ _ h => h) (Or.inl ⟨by rfl, ?_⟩) (unhide HH) ?_
  rotate_left 1
  · intro W hSW; go_simp; all_goals (with_reducible rfl)
  (try simp only [Act.put, List.setIfInBounds_toArray, List.set_cons_zero, List.set_cons_succ])
  refine wpAnyH_ready (rs := [13]) (by kernel_rfl) (by simp) ?_
  refine consL rfl (fun K hK => ?_) AllReadyH.nil
  have e0 : W0.cell? ⟨w.heap.size + 1, 0, none⟩ = some (.int .i64 0) := cell_blk (unhide HN2) rfl
  have e1 : W0.cell? ⟨w.heap.size + 1, 1, none⟩ = some (.int .i64 0) := cell_blk (unhide HN2) rfl
  have e2 : W0.cell? ⟨w.heap.size + 1, 2, none⟩ = some (.int .i64 0) := cell_blk (unhide HN2) rfl
  have f0 : W0.frozen? ⟨w.heap.size + 1, 0, none⟩ = false := free_blk (unhide HN2)
  have f1 : W0.frozen? ⟨w.heap.size + 1, 1, none⟩ = false := free_blk (unhide HN2)
  have f2 : W0.frozen? ⟨w.heap.size + 1, 2, none⟩ = false := free_blk (unhide HN2)
  go_simp
  rw [IntWalk.i64_in (6 + (d : Int)) ⟨by omega, by omega⟩, IntWalk.i64_in (8 + (b : Int)) ⟨by omega, by omega⟩, IntWalk.i64_in (4 + (p : Int)) ⟨by omega, by omega⟩]
  have hb3 : Below (w.heap.size + 1) W0 (((W0.setCell ⟨w.heap.size + 1, 0, none⟩ (.int .i64 (6 + (d : Int)))).setCell ⟨w.heap.size + 1, 1, none⟩ (.int .i64 (8 + (b : Int)))).setCell ⟨w.heap.size + 1, 2, none⟩ (.int .i64 (4 + (p : Int)))) := (((Below.refl _ W0).setCell (p := ⟨w.heap.size + 1, 0, none⟩) (Nat.le_refl _) _).setCell (p := ⟨w.heap.size + 1, 1, none⟩) (Nat.le_refl _) _).setCell (p := ⟨w.heap.size + 1, 2, none⟩) (Nat.le_refl _) _
  have h0 := heap_setCell_same W0 (w.heap.size + 1) 0 _ _ (.int .i64 (6 + (d : Int))) (unhide HN2)
  have h1 := heap_setCell_same _ (w.heap.size + 1) 1 _ _ (.int .i64 (8 + (b : Int))) h0
  have h2 := heap_setCell_same _ (w.heap.size + 1) 2 _ _ (.int .i64 (4 + (p : Int))) h1
  have H2 : Hid ((((W0.setCell ⟨w.heap.size + 1, 0, none⟩ (.int .i64 (6 + (d : Int)))).setCell ⟨w.heap.size + 1, 1, none⟩ (.int .i64 (8 + (b : Int)))).setCell ⟨w.heap.size + 1, 2, none⟩ (.int .i64 (4 + (p : Int)))).drew.heap[w.heap.size + 1]? = some (.cells #[.int .i64 (6 + (d : Int)), .int .i64 (8 + (b : Int)), .int .i64 (4 + (p : Int))] 23 (0, 0))) := h2
  have HB3 := hide (((unhide HBW).trans (hb3.mono (by omega))).drew)
  clear e0 e1 e2 f0 f1 f2 h0 h1 h2
  refine hK.out _ _ (⟨hb3.os, hb3.tape, hb3.output, hb3.size, hb3.block⟩) (fun hHeld => ?_)
  clear hK K HH
  have HH := hide hHeld
  clear hHeld
  (try simp only [Act.put, List.setIfInBounds_toArray, List.set_cons_zero, List.set_cons_succ])
  clear hb3
  refine wpAnyH_done (by kernel_rfl) ?_ _
  refine NoPanic.normal ?_
  go_wp2_with fail
  generalize (((W0.setCell ⟨w.heap.size + 1, 0, none⟩ (.int .i64 (6 + (d : Int)))).setCell ⟨w.heap.size + 1, 1, none⟩ (.int .i64 (8 + (b : Int)))).setCell ⟨w.heap.size + 1, 2, none⟩ (.int .i64 (4 + (p : Int)))).drew = W9 at H2 HB3 ⊢
  refine bodyPost_ret (results_cell7 rfl _ _ ⟨w.heap.size + 1, 0, none⟩ _ rfl (load_three (unhide H2))) rfl ?_
  exact ⟨6 + d, 8 + b, 4 + p, ⟨⟨by omega, by omega⟩, ⟨by omega, by omega⟩, by omega, by omega⟩, ⟨by rw [unhide HD]; omega, by rw [unhide HB]; omega, by rw [unhide HP]; omega⟩, by rw [show ((6 + d : Nat) : Int) = 6 + (d : Int) from by omega, show ((8 + b : Nat) : Int) = 8 + (b : Int) from by omega, show ((4 + p : Nat) : Int) = 4 + (p : Int) from by omega], unhide HB3⟩
/-- Which blocks are bad, of raw numbers: those of the first k dies. -/
def spo (B : Nat) (zs : List Int) (k : Nat) : List (Int × Int) := (List.range k).flatMap fun j => if zs.getD j 0 % (2 * (B : Int)) < (B : Int) then [((j : Int), zs.getD j 0 % (2 * (B : Int)))] else []
theorem spo_succ (B : Nat) (zs : List Int) (k : Nat) : spo B zs (k + 1) = spo B zs k ++ (if zs.getD k 0 % (2 * (B : Int)) < (B : Int) then [((k : Int), zs.getD k 0 % (2 * (B : Int)))] else []) := by
  unfold spo
  rw [List.range_succ, List.flatMap_append]
  simp
theorem spo_ok {D B : Nat} {zs : List Int} {k : Nat} (hk : k ≤ D) (hB : 0 < B) : okB D B (spo B zs k) := by
  intro p hp
  obtain ⟨j, hj, hp⟩ := List.mem_flatMap.1 hp
  have := List.mem_range.1 hj
  split at hp
  · rename_i h
    simp at hp
    subst hp
    exact ⟨⟨by simp, by simp; omega⟩, Int.emod_nonneg _ (by omega), h⟩
  · cases hp
theorem spo_len (B : Nat) (zs : List Int) (k : Nat) : (spo B zs k).length ≤ k := by
  induction k with
  | zero => simp [spo]
  | succ k ih =>
    rw [spo_succ, List.length_append]
    split
    · simp; omega
    · simp; omega
set_option maxRecDepth 100000 in
set_option maxHeartbeats 8000000 in
theorem spoil_any (D B P : Nat) (ao : Option Addr) (n c gz : Nat) (zs : List Int) (w : World) (hD : D ≤ 8) (hB : B ≤ 12) (hB0 : 0 < B) (hZ : ZArg w (.slice ao n c) gz zs) :
    Calls Try.prog 10 #[.agg #[.int .i64 (D : Int), .int .i64 (B : Int), .int .i64 (P : Int)], .slice ao n c] w fun e w' => ∃ v, e = .returned v ∧ OwnP w.heap.size w' v (spo B zs (min n D)) ∧ Below w.heap.size w w' := by
  have hal : Below w.heap.size w (w.alloc (.cells #[.int .i64 (D : Int), .int .i64 (B : Int), .int .i64 (P : Int)] 23)) := (Below.refl _ _).alloc (Nat.le_refl _) _
  have hnn := World.alloc_heap_new w (.cells #[.int .i64 (D : Int), .int .i64 (B : Int), .int .i64 (P : Int)] 23)
  have HT := hide hal
  have HG := hide hnn
  have HZ := hide hZ
  have HZL := hide hZ.nil_imp.1
  have hn1 : (n : Int) ≤ 9223372036854775807 := by
    obtain ⟨⟨ao', c', h1, h2, h3, _⟩, _⟩ := hZ
    cases h1
    unfold maxLen at h3
    omega
  have HO : Hid (OwnP w.heap.size (w.alloc (.cells #[.int .i64 (D : Int), .int .i64 (B : Int), .int .i64 (P : Int)] 23)) (.slice none 0 0) (spo B zs 0)) := OwnP.nil _ _
  have hD8 : (D : Int) ≤ 8 := by omega
  have hB12 : (B : Int) ≤ 12 := by omega
  clear hal hnn hZ
  go_enter Try.func10, Try.ntmps10
  go_wp2_with fail
  generalize w.alloc (.cells #[.int .i64 (D : Int), .int .i64 (B : Int), .int .i64 (P : Int)] 23) = W0 at HT HG HO ⊢
  go_loopw [5, 6, 7] (fun q5 q6 _ wr => ∃ (i : Nat) (vo : Value), vo = q5 ∧ q6 = .int .i64 i ∧ i ≤ min n D ∧ Hid (OwnP w.heap.size wr vo (spo B zs i)) ∧ Hid (wr.heap[w.heap.size]? = some (.cells #[.int .i64 (D : Int), .int .i64 (B : Int), .int .i64 (P : Int)] 23 (0, 0))) ∧ Hid (Below w.heap.size w wr)) (fun _ q6 _ _ => min n D - (intOf q6).toNat)
  case atStart => exact ⟨0, _, rfl, rfl, by omega, HO, HG, HT⟩
  case round =>
    clear HO HG HT
    obtain ⟨i, vo, rfl, rfl, hi, HO, HG, HT⟩ := hrel
    have b0 : wr.cell? ⟨w.heap.size, 0, none⟩ = some (.int .i64 (D : Int)) := cell_blk (unhide HG) rfl
    by_cases hin : i < n
    · have hi1 : (i : Int) < (n : Int) := by omega
      by_cases hiD : i < D
      · have hi2 : (i : Int) < (D : Int) := by omega
        have hzl : i < zs.length := by rw [unhide HZL]; exact hin
        obtain ⟨oz, hoz, hcz⟩ := irow_some' (unhide HZ).nil_imp.2.2 (by omega)
        subst hoz
        have hgz := (unhide HZ).lt7 (fun e => by rw [e] at hzl; simp at hzl)
        have hz := (unhide HT).cell hgz |>.trans (hcz i hzl)
        have HZC : Hid (wr.drew.cell? ⟨gz, oz + i, none⟩ = some (.int .i64 (zs.getD i 0))) := hz
        have HBC : Hid (wr.drew.cell? ⟨w.heap.size, 1, none⟩ = some (.int .i64 (B : Int))) := cell_blk (w := wr.drew) (unhide HG) rfl
        replace HG : Hid (wr.drew.heap[w.heap.size]? = some (.cells #[.int .i64 (D : Int), .int .i64 (B : Int), .int .i64 (P : Int)] 23 (0, 0))) := unhide HG
        replace HT := hide (unhide HT).drew
        replace HO : Hid (OwnP w.heap.size wr.drew vo (spo B zs i)) := (unhide HO).below ((Below.refl _ _).drew)
        obtain ⟨z, hzz⟩ : ∃ z, zs.getD i 0 = z := ⟨_, rfl⟩
        have HS := hide (spo_succ B zs i)
        rw [hzz] at HZC HS
        have HSL := hide (spo_len B zs i)
        clear hz hcz hgz hzl
        go_wp2_with fail
        clear b0
        have hw2 : IntKind.i64.wrap (2 * (B : Int)) = 2 * (B : Int) := IntWalk.i64_in _ ⟨by omega, by omega⟩
        refine wp_region_noPanic ?_
        refine wp_region_held_drew (S := fun W => W.cell? ⟨gz, oz + i, none⟩ = some (.int .i64 z) ∧ W.cell? ⟨w.heap.size, 1, none⟩ = some (.int .i64 (B : Int))) (by kernel_rfl) ?_ (fun hHeld => ?_)
        · exact ⟨unhide HZC, unhide HBC⟩
        have HH := hide hHeld
        clear hHeld
        clear hzz
        have hsz : w.heap.size < wr.drew.heap.size := lt_of_block (unhide HG)
        generalize wr.drew = W2 at HZC HBC HG HT HO HH hsz ⊢
        refine takeL (i := 0) (v := ?_) rfl (by kernel_rfl) (by kernel_rfl) (by kernel_rfl) (fun _ _ _ h => h) (Or.inl ⟨by rfl, ?_⟩) (unhide HH) ?_
        rotate_left 1
        · intro W ⟨s1, s2⟩; go_simp; all_goals (with_reducible rfl)
        (try simp only [Act.put, List.setIfInBounds_toArray, List.set_cons_zero, List.set_cons_succ])
        refine takeL (i := 1) (v := ?_) rfl (by kernel_rfl) (by kernel_rfl) (by kernel_rfl) (fun _ _ _ h => h) (Or.inl ⟨by rfl, ?_⟩) (unhide HH) ?_
        rotate_left 1
        · intro W ⟨s1, s2⟩; go_simp; all_goals (with_reducible rfl)
        (try simp only [Act.put, List.setIfInBounds_toArray, List.set_cons_zero, List.set_cons_succ])
        refine takeL (i := 2) (v := ?_) rfl (by kernel_rfl) (by kernel_rfl) (by kernel_rfl) (fun _ _ _ h => h) (Or.inl ⟨by rfl, ?_⟩) (unhide HH) ?_
        rotate_left 1
        · intro W ⟨s1, s2⟩; go_simp; all_goals (with_reducible rfl)
        (try simp only [Act.put, List.setIfInBounds_toArray, List.set_cons_zero, List.set_cons_succ])
        refine takeL (i := 3) (v := ?_) rfl (by kernel_rfl) (by kernel_rfl) (by kernel_rfl) (fun _ _ _ h => h) (Or.inl ⟨by rfl, ?_⟩) (unhide HH) ?_
        rotate_left 1
        · intro W ⟨s1, s2⟩; go_simp; all_goals (with_reducible rfl)
        (try simp only [Act.put, List.setIfInBounds_toArray, List.set_cons_zero, List.set_cons_succ])
        refine takeL (i := 4) (v := ?_) rfl (by kernel_rfl) (by kernel_rfl) (by kernel_rfl) (fun _ _ _ h => h) (Or.inl ⟨by rfl, ?_⟩) (unhide HH) ?_
        rotate_left 1
        · intro W ⟨s1, s2⟩; go_simp; all_goals (with_reducible rfl)
        (try simp only [Act.put, List.setIfInBounds_toArray, List.set_cons_zero, List.set_cons_succ])
        refine takeL (i := 5) (v := ?_) rfl (by kernel_rfl) (by kernel_rfl) (by kernel_rfl) (fun _ _ _ h => h) (Or.inl ⟨by rfl, ?_⟩) (unhide HH) ?_
        rotate_left 1
        · intro W ⟨s1, s2⟩; go_simp; all_goals (with_reducible rfl)
        (try simp only [Act.put, List.setIfInBounds_toArray, List.set_cons_zero, List.set_cons_succ])
        refine takeL (i := 6) (v := ?_) rfl (by kernel_rfl) (by kernel_rfl) (by kernel_rfl) (fun _ _ _ h => h) (Or.inl ⟨by rfl, ?_⟩) (unhide HH) ?_
        rotate_left 1
        · intro W ⟨s1, s2⟩; go_simp; all_goals (with_reducible rfl)
        (try simp only [Act.put, List.setIfInBounds_toArray, List.set_cons_zero, List.set_cons_succ])
        refine wpAnyH_ready (rs := [7]) (by kernel_rfl) (by simp) ?_
        refine consL rfl (fun K hK => ?_) AllReadyH.nil
        go_simp
        refine (within7_any _ (2 * (B : Int)) _ (by omega) (by omega)).mono ?_
        rintro e W3 ⟨rfl, hW⟩
        replace hW := hW.symm
        subst hW
        go_wp2_with fail
        refine hK.out _ _ (unhide HH) (fun hHeld => ?_)
        clear hK K HH
        have HH := hide hHeld
        clear hHeld
        (try simp only [Act.put, List.setIfInBounds_toArray, List.set_cons_zero, List.set_cons_succ])
        refine takeL (i := 8) (v := ?_) rfl (by kernel_rfl) (by kernel_rfl) (by kernel_rfl) (fun _ _ _ h => h) (Or.inl ⟨by rfl, ?_⟩) (unhide HH) ?_
        rotate_left 1
        · intro W ⟨s1, s2⟩; go_simp; all_goals (with_reducible rfl)
        (try simp only [Act.put, List.setIfInBounds_toArray, List.set_cons_zero, List.set_cons_succ])
        refine wpAnyH_done (by kernel_rfl) ?_ _
        refine NoPanic.normal ?_
        have hk0 := Int.emod_nonneg z (show (2 * (B : Int)) ≠ 0 by omega)
        generalize z % (2 * (B : Int)) = k at HS hk0 ⊢
        have b1 : W2.cell? ⟨w.heap.size, 1, none⟩ = some (.int .i64 (B : Int)) := unhide HBC
        obtain ⟨vo1, vc1, hvo⟩ := (unhide HO).shape
        by_cases hkB : k < (B : Int)
        · rw [if_pos hkB] at HS
          have hal : Below W2.heap.size W2 (W2.alloc (.cells #[.int .i64 (i : Int), .int .i64 k] 39)) := (Below.refl _ _).alloc (Nat.le_refl _) _
          have hnn := World.alloc_heap_new W2 (.cells #[.int .i64 (i : Int), .int .i64 k] 39)
          obtain ⟨v4, W4, hr4, hO4, hg4⟩ := run_append_two _ w.heap.size 24 vo (spo B zs i) ((unhide HO).below hal) W2.heap.size ((i : Int), k) (cell_blk hnn rfl) (cell_blk hnn rfl) (by have := unhide HSL; omega) (by have := hal.size; omega)
          rw [← unhide HS] at hO4
          have hb4 : Below w.heap.size W2 W4 := below_grown (hal.mono (by omega)) hg4 (by have := hal.size; omega) (fun k hk => (unhide HO).row k hk)
          have HO4 := hide hO4
          have HT4 := hide ((unhide HT).trans hb4)
          have HG4 : Hid (W4.heap[w.heap.size]? = some (.cells #[.int .i64 (D : Int), .int .i64 (B : Int), .int .i64 (P : Int)] 23 (0, 0))) := by
            have h1 := hg4.block w.heap.size (by have := hal.size; omega) (fun e => by
              rcases (unhide HO).2 with ⟨h1, _⟩ | ⟨g, cap, cur, h1, h2, h3, _⟩
              · rw [h1] at e; cases e
              · rw [h1] at e
                have e2 : g = w.heap.size := Option.some.inj e.symm
                rw [e2, unhide HG] at h3
                cases h3)
            exact h1.trans ((hal.block _ hsz).trans (unhide HG))
          subst hvo
          have hr5 : ∀ (s0 : Value), s0 = .slice vo1 (spo B zs i).length vc1 → (Builtin.append_ #[24, 24] 24 #[s0, .slice (some ⟨W2.heap.size, 0, none⟩) 1 1]).run Try.prog (W2.alloc (.cells #[.int .i64 (i : Int), .int .i64 k] 39)) = .ok v4 W4 := fun s0 e => by rw [e]; exact hr4
          have hr6 := hr5 _ rfl
          obtain ⟨o4, c4, hv4⟩ := hO4.shape
          subst hv4
          have HR6 := hide hr6
          clear hr4 hr5 hr6 hO4 hg4 hb4 hal hnn HO HZC HBC HT HG HH
          go_wp2_with (at_builtin; refine wpList_append_run rfl _ _ _ _ _ rfl _ _ rfl rfl (unhide HR6) ?_)
          go_roundw
          case rel => exact ⟨i + 1, _, rfl, by go_num, by omega, HO4, HG4, HT4⟩
          case measure => simp [intOf]; omega
        · rw [if_neg hkB, List.append_nil] at HS
          have HO4 : Hid (OwnP w.heap.size W2 vo (spo B zs (i + 1))) := by rw [unhide HS]; exact HO
          clear HZC HBC HH HO
          have hkB' : (B : Int) ≤ k := by omega
          go_wp2_with fail
          go_roundw
          case rel => exact ⟨i + 1, _, rfl, by go_num, by omega, HO4, HG, HT⟩
          case measure => simp [intOf]; omega
      · have hi2 : (D : Int) ≤ (i : Int) := by omega
        go_wp2_with fail
        go_returns
        refine ⟨_, rfl, ?_, unhide HT⟩
        rw [show min n D = i from by omega]
        exact unhide HO
    · have hi1 : (n : Int) ≤ (i : Int) := by omega
      go_wp2_with fail
      go_returns
      refine ⟨_, rfl, ?_, unhide HT⟩
      rw [show min n D = i from by omega]
      exact unhide HO
set_option maxRecDepth 100000 in
set_option maxHeartbeats 4000000 in
theorem check_any (D B P : Int) (w : World) : Calls Try.prog 24 #[.agg #[.int .i64 D, .int .i64 B, .int .i64 P]] w fun e w' => e = .returned (.bool (decide (okG D B P))) ∧ Below w.heap.size w w' := by
  obtain ⟨W, hW⟩ : ∃ W, w.alloc (.cells #[.int .i64 D, .int .i64 B, .int .i64 P] 23) = W := ⟨_, rfl⟩
  have hn : W.heap[w.heap.size]? = some (.cells #[.int .i64 D, .int .i64 B, .int .i64 P] 23 (0, 0)) := by rw [← hW]; exact World.alloc_heap_new w _
  have c0 : W.cell? ⟨w.heap.size, 0, none⟩ = some (.int .i64 D) := cell_blk hn rfl
  have c1 : W.cell? ⟨w.heap.size, 1, none⟩ = some (.int .i64 B) := cell_blk hn rfl
  have c2 : W.cell? ⟨w.heap.size, 2, none⟩ = some (.int .i64 P) := cell_blk hn rfl
  have HB : Hid (Below w.heap.size w W) := by rw [← hW]; exact (Below.refl _ _).alloc (Nat.le_refl _) _
  clear hn
  by_cases h1 : 6 ≤ D
  · by_cases h2 : D ≤ 8
    · by_cases h3 : 8 ≤ B
      · by_cases h4 : B ≤ 12
        · by_cases h5 : 4 ≤ P
          · by_cases h6 : P ≤ 8
            · rw [decide_eq_true (show okG D B P from ⟨⟨h1, h2⟩, ⟨h3, h4⟩, h5, h6⟩)]
              go_enter Try.func24, Try.ntmps24
              go_wp2_with fail
              go_ret
              exact ⟨rfl, unhide HB⟩
            · rw [decide_eq_false (show ¬ okG D B P from fun h => h6 h.2.2.2)]
              have h6' : 8 < P := by omega
              go_enter Try.func24, Try.ntmps24
              go_wp2_with fail
              go_ret
              exact ⟨rfl, unhide HB⟩
          · rw [decide_eq_false (show ¬ okG D B P from fun h => h5 h.2.2.1)]
            have h6' : P < 4 := by omega
            go_enter Try.func24, Try.ntmps24
            go_wp2_with fail
            go_ret
            exact ⟨rfl, unhide HB⟩
        · rw [decide_eq_false (show ¬ okG D B P from fun h => h4 h.2.1.2)]
          have h6' : 12 < B := by omega
          go_enter Try.func24, Try.ntmps24
          go_wp2_with fail
          go_ret
          exact ⟨rfl, unhide HB⟩
      · rw [decide_eq_false (show ¬ okG D B P from fun h => h3 h.2.1.1)]
        have h6' : B < 8 := by omega
        go_enter Try.func24, Try.ntmps24
        go_wp2_with fail
        go_ret
        exact ⟨rfl, unhide HB⟩
    · rw [decide_eq_false (show ¬ okG D B P from fun h => h2 h.1.2)]
      have h6' : 8 < D := by omega
      go_enter Try.func24, Try.ntmps24
      go_wp2_with fail
      go_ret
      exact ⟨rfl, unhide HB⟩
  · rw [decide_eq_false (show ¬ okG D B P from fun h => h1 h.1.1)]
    have h6' : D < 6 := by omega
    go_enter Try.func24, Try.ntmps24
    go_wp2_with fail
    go_ret
    exact ⟨rfl, unhide HB⟩

end Go.Proofs.Ytnhhemecfcljbaa
