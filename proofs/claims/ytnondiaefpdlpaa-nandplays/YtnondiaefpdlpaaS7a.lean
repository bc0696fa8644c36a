/-
  What a law asks of both tellings: Same.
-/
import Derived.Test.YtnondiaefpdlpaaU7u
import Derived.Test.YtnondiaefpdlpaaH7m
namespace Go.Proofs.Ytnondiaefpdlpaa
open Go.RowKit Go.Shelf

set_option maxRecDepth 100000 in
set_option maxHeartbeats 8000000 in
theorem geometry_any {m : Nat} {w : World} {L : La} {s : Nd} (h : NA m w L s) : Calls Try.prog 44 #[.pointer (some ⟨L.n, 0, none⟩)] w fun e w' => e = .returned (.agg #[.int .i64 (s.D : Int), .int .i64 (s.B : Int), .int .i64 (s.P : Int)]) ∧ Below w.heap.size w w' := by
  have hal : Below w.heap.size w (w.alloc (.cells #[.int .i64 0, .int .i64 0, .int .i64 0] 23)) := (Below.refl _ _).alloc (Nat.le_refl _) _
  have hN := h.below hal
  have hn := World.alloc_heap_new w (.cells #[.int .i64 0, .int .i64 0, .int .i64 0] 23)
  have c0 : (w.alloc (.cells #[.int .i64 0, .int .i64 0, .int .i64 0] 23)).cell? ⟨L.n, 0, none⟩ = some (.int .i64 (s.D : Int)) := cell_blk hN.top rfl
  have c1 : (w.alloc (.cells #[.int .i64 0, .int .i64 0, .int .i64 0] 23)).cell? ⟨L.n, 1, none⟩ = some (.int .i64 (s.B : Int)) := cell_blk hN.top rfl
  have c2 : (w.alloc (.cells #[.int .i64 0, .int .i64 0, .int .i64 0] 23)).cell? ⟨L.n, 2, none⟩ = some (.int .i64 (s.P : Int)) := cell_blk hN.top rfl
  have e0 : (w.alloc (.cells #[.int .i64 0, .int .i64 0, .int .i64 0] 23)).cell? ⟨w.heap.size, 0, none⟩ = some (.int .i64 0) := cell_blk hn rfl
  have e1 : (w.alloc (.cells #[.int .i64 0, .int .i64 0, .int .i64 0] 23)).cell? ⟨w.heap.size, 1, none⟩ = some (.int .i64 0) := cell_blk hn rfl
  have e2 : (w.alloc (.cells #[.int .i64 0, .int .i64 0, .int .i64 0] 23)).cell? ⟨w.heap.size, 2, none⟩ = some (.int .i64 0) := cell_blk hn rfl
  have f0 : (w.alloc (.cells #[.int .i64 0, .int .i64 0, .int .i64 0] 23)).frozen? ⟨w.heap.size, 0, none⟩ = false := free_blk hn
  have f1 : (w.alloc (.cells #[.int .i64 0, .int .i64 0, .int .i64 0] 23)).frozen? ⟨w.heap.size, 1, none⟩ = false := free_blk hn
  have f2 : (w.alloc (.cells #[.int .i64 0, .int .i64 0, .int .i64 0] 23)).frozen? ⟨w.heap.size, 2, none⟩ = false := free_blk hn
  have hb3 : Below w.heap.size w (w.alloc (.cells #[.int .i64 (s.D : Int), .int .i64 (s.B : Int), .int .i64 (s.P : Int)] 23)) := (Below.refl _ _).alloc (Nat.le_refl _) _
  have H2 := hide (World.alloc_heap_new w (.cells #[.int .i64 (s.D : Int), .int .i64 (s.B : Int), .int .i64 (s.P : Int)] 23))
  have HB3 := hide hb3
  clear hb3 hn hal hN h
  go_enter Try.func44, Try.ntmps44
  go_wp2_with fail
  generalize w.alloc (.cells #[.int .i64 (s.D : Int), .int .i64 (s.B : Int), .int .i64 (s.P : Int)] 23) = W9 at H2 HB3 ⊢
  refine bodyPost_ret (results_cell rfl _ _ ⟨w.heap.size, 0, none⟩ _ rfl (load_three (unhide H2))) rfl ?_
  exact ⟨rfl, unhide HB3⟩

set_option maxRecDepth 100000 in
set_option maxHeartbeats 8000000 in
theorem same_any {m m' : Nat} {w : World} {L : La} {L' : Lr} {s : Nd} (h : NA m w L s) (h' : RA m' w L' s) :
    Calls Try.prog 16 #[.pointer (some ⟨L.n, 0, none⟩), .pointer (some ⟨L'.n, 0, none⟩)] w fun e w' => e = .returned (.bool true) ∧ Below w.heap.size w w' := by
  have HN : Hid (NA m w.drew L s) := h.cells (fun _ _ _ h => h)
  have HR : Hid (RA m' w.drew L' s) := h'.lie (fun _ _ _ _ _ h => h)
  have HB0 : Hid (Below w.heap.size w w.drew) := (Below.refl _ _).drew
  clear h h'
  go_enter Try.func16, Try.ntmps16
  go_wp2_with fail
  refine wp_region_noPanic ?_
  refine wp_region_held_drew (S := fun W => Below w.drew.heap.size w.drew W) (by kernel_rfl) (Below.refl _ _) (fun hHeld => ?_)
  have HH := hide hHeld
  clear hHeld
  have hzz : w.heap.size ≤ w.drew.heap.size := Nat.le_refl _
  generalize w.drew = W2 at HN HR HB0 HH hzz ⊢
  have C0 : Hid (W2.cell? ⟨L'.n, 0, none⟩ = some (.int .i64 (s.D : Int))) := (unhide HR).tc 0 rfl
  have C1 : Hid (W2.cell? ⟨L'.n, 1, none⟩ = some (.int .i64 (s.B : Int))) := (unhide HR).tc 1 rfl
  have C2 : Hid (W2.cell? ⟨L'.n, 2, none⟩ = some (.int .i64 (s.P : Int))) := (unhide HR).tc 2 rfl
  have C7 : Hid (W2.cell? ⟨L'.n, 7, none⟩ = some (.bool s.dead)) := (unhide HR).tc 7 rfl
  have C8 : Hid (W2.cell? ⟨L'.n, 8, none⟩ = some (.int .i64 s.ops)) := (unhide HR).tc 8 rfl
  have C9 : Hid (W2.cell? ⟨L'.n, 9, none⟩ = some (.int .i64 s.wrong)) := (unhide HR).tc 9 rfl
  have HLT : Hid (L'.n < W2.heap.size) := lt_of_block (unhide HR).top
  refine takeL (i := 0) (v := ?_) rfl (by kernel_rfl) (by kernel_rfl) (by kernel_rfl) (fun _ _ _ h => h) (Or.inl ⟨by rfl, ?_⟩) (unhide HH) ?_
  rotate_left 1
  · intro W hSW; go_simp; all_goals (with_reducible rfl)
  (try simp only [Act.put, List.setIfInBounds_toArray, List.set_cons_zero, List.set_cons_succ])
  refine takeL (i := 2) (v := ?_) rfl (by kernel_rfl) (by kernel_rfl) (by kernel_rfl) (fun _ _ _ h => h) (Or.inl ⟨by rfl, ?_⟩) (unhide HH) ?_
  rotate_left 1
  · intro W hSW; go_simp; all_goals (with_reducible rfl)
  (try simp only [Act.put, List.setIfInBounds_toArray, List.set_cons_zero, List.set_cons_succ])
  refine takeL (i := 3) (v := ?_) rfl (by kernel_rfl) (by kernel_rfl) (by kernel_rfl) (fun _ _ _ h => h) (Or.inl ⟨by rfl, ?_⟩) (unhide HH) ?_
  rotate_left 1
  · intro W hSW; go_simp; all_goals (with_reducible rfl)
  (try simp only [Act.put, List.setIfInBounds_toArray, List.set_cons_zero, List.set_cons_succ])
  refine takeL (i := 4) (v := ?_) rfl (by kernel_rfl) (by kernel_rfl) (by kernel_rfl) (fun _ _ _ h => h) (Or.inl ⟨by rfl, ?_⟩) (unhide HH) ?_
  rotate_left 1
  · intro W hSW; go_simp; all_goals (with_reducible rfl)
  (try simp only [Act.put, List.setIfInBounds_toArray, List.set_cons_zero, List.set_cons_succ])
  refine takeL (i := 5) (v := ?_) rfl (by kernel_rfl) (by kernel_rfl) (by kernel_rfl) (fun _ _ _ h => h) (Or.inl ⟨by rfl, ?_⟩) (unhide HH) ?_
  rotate_left 1
  · intro W1 hSW; have hcl := below_cell7 hSW (unhide C7) (unhide HLT); clear hSW; go_simp; all_goals (with_reducible rfl)
  (try simp only [Act.put, List.setIfInBounds_toArray, List.set_cons_zero, List.set_cons_succ])
  refine wpAnyH_ready (rs := [1]) (by kernel_rfl) (by simp) ?_
  refine consL rfl (fun K hK => ?_) AllReadyH.nil
  go_simp
  refine (Dead_any (unhide HN)).mono ?_
  rintro e W3 ⟨rfl, rfl⟩
  go_wp2_with fail
  refine hK.out _ _ (unhide HH) (fun hHeld => ?_)
  clear hK K HH
  have HH := hide hHeld
  clear hHeld
  (try simp only [Act.put, List.setIfInBounds_toArray, List.set_cons_zero, List.set_cons_succ])
  refine takeL (i := 6) (v := ?_) rfl (by kernel_rfl) (by kernel_rfl) (by kernel_rfl) (fun _ _ _ h => h) (Or.inl ⟨by rfl, ?_⟩) (unhide HH) ?_
  rotate_left 1
  · intro W hSW; go_simp; all_goals (with_reducible rfl)
  (try simp only [Act.put, List.setIfInBounds_toArray, List.set_cons_zero, List.set_cons_succ])
  refine takeL (i := 7) (v := ?_) rfl (by kernel_rfl) (by kernel_rfl) (by kernel_rfl) (fun _ _ _ h => h) (Or.inl ⟨by rfl, ?_⟩) (unhide HH) ?_
  rotate_left 1
  · intro W hSW; go_simp; all_goals (with_reducible rfl)
  (try simp only [Act.put, List.setIfInBounds_toArray, List.set_cons_zero, List.set_cons_succ])
  refine takeL (i := 8) (v := ?_) rfl (by kernel_rfl) (by kernel_rfl) (by kernel_rfl) (fun _ _ _ h => h) (Or.inl ⟨by rfl, ?_⟩) (unhide HH) ?_
  rotate_left 1
  · intro W hSW; go_simp; all_goals (with_reducible rfl)
  (try simp only [Act.put, List.setIfInBounds_toArray, List.set_cons_zero, List.set_cons_succ])
  refine takeL (i := 10) (v := ?_) rfl (by kernel_rfl) (by kernel_rfl) (by kernel_rfl) (fun _ _ _ h => h) (Or.inl ⟨by rfl, ?_⟩) (unhide HH) ?_
  rotate_left 1
  · intro W hSW; go_simp; all_goals (with_reducible rfl)
  (try simp only [Act.put, List.setIfInBounds_toArray, List.set_cons_zero, List.set_cons_succ])
  refine takeL (i := 11) (v := ?_) rfl (by kernel_rfl) (by kernel_rfl) (by kernel_rfl) (fun _ _ _ h => h) (Or.inl ⟨by rfl, ?_⟩) (unhide HH) ?_
  rotate_left 1
  · intro W hSW; go_simp; all_goals (with_reducible rfl)
  (try simp only [Act.put, List.setIfInBounds_toArray, List.set_cons_zero, List.set_cons_succ])
  refine takeL (i := 12) (v := ?_) rfl (by kernel_rfl) (by kernel_rfl) (by kernel_rfl) (fun _ _ _ h => h) (Or.inl ⟨by rfl, ?_⟩) (unhide HH) ?_
  rotate_left 1
  · intro W hSW; go_simp; all_goals (with_reducible rfl)
  (try simp only [Act.put, List.setIfInBounds_toArray, List.set_cons_zero, List.set_cons_succ])
  refine takeL (i := 13) (v := ?_) rfl (by kernel_rfl) (by kernel_rfl) (by kernel_rfl) (fun _ _ _ h => h) (Or.inl ⟨by rfl, ?_⟩) (unhide HH) ?_
  rotate_left 1
  · intro W1 hSW; have hcl := below_cell7 hSW (unhide C9) (unhide HLT); clear hSW; go_simp; all_goals (with_reducible rfl)
  (try simp only [Act.put, List.setIfInBounds_toArray, List.set_cons_zero, List.set_cons_succ])
  refine wpAnyH_ready (rs := [9]) (by kernel_rfl) (by simp) ?_
  refine consL rfl (fun K hK => ?_) AllReadyH.nil
  go_simp
  refine (Wrong_any (unhide HN)).mono ?_
  rintro e W3 ⟨rfl, rfl⟩
  go_wp2_with fail
  refine hK.out _ _ (unhide HH) (fun hHeld => ?_)
  clear hK K HH
  have HH := hide hHeld
  clear hHeld
  (try simp only [Act.put, List.setIfInBounds_toArray, List.set_cons_zero, List.set_cons_succ])
  refine takeL (i := 14) (v := ?_) rfl (by kernel_rfl) (by kernel_rfl) (by kernel_rfl) (fun _ _ _ h => h) (Or.inl ⟨by rfl, ?_⟩) (unhide HH) ?_
  rotate_left 1
  · intro W hSW; go_simp; all_goals (with_reducible rfl)
  (try simp only [Act.put, List.setIfInBounds_toArray, List.set_cons_zero, List.set_cons_succ])
  refine takeL (i := 15) (v := ?_) rfl (by kernel_rfl) (by kernel_rfl) (by kernel_rfl) (fun _ _ _ h => h) (Or.inl ⟨by rfl, ?_⟩) (unhide HH) ?_
  rotate_left 1
  · intro W hSW; go_simp; all_goals (with_reducible rfl)
  (try simp only [Act.put, List.setIfInBounds_toArray, List.set_cons_zero, List.set_cons_succ])
  refine takeL (i := 16) (v := ?_) rfl (by kernel_rfl) (by kernel_rfl) (by kernel_rfl) (fun _ _ _ h => h) (Or.inl ⟨by rfl, ?_⟩) (unhide HH) ?_
  rotate_left 1
  · intro W hSW; go_simp; all_goals (with_reducible rfl)
  (try simp only [Act.put, List.setIfInBounds_toArray, List.set_cons_zero, List.set_cons_succ])
  refine takeL (i := 17) (v := ?_) rfl (by kernel_rfl) (by kernel_rfl) (by kernel_rfl) (fun _ _ _ h => h) (Or.inl ⟨by rfl, ?_⟩) (unhide HH) ?_
  rotate_left 1
  · intro W hSW; go_simp; all_goals (with_reducible rfl)
  (try simp only [Act.put, List.setIfInBounds_toArray, List.set_cons_zero, List.set_cons_succ])
  refine takeL (i := 19) (v := ?_) rfl (by kernel_rfl) (by kernel_rfl) (by kernel_rfl) (fun _ _ _ h => h) (Or.inl ⟨by rfl, ?_⟩) (unhide HH) ?_
  rotate_left 1
  · intro W hSW; go_simp; all_goals (with_reducible rfl)
  (try simp only [Act.put, List.setIfInBounds_toArray, List.set_cons_zero, List.set_cons_succ])
  refine takeL (i := 20) (v := ?_) rfl (by kernel_rfl) (by kernel_rfl) (by kernel_rfl) (fun _ _ _ h => h) (Or.inl ⟨by rfl, ?_⟩) (unhide HH) ?_
  rotate_left 1
  · intro W hSW; go_simp; all_goals (with_reducible rfl)
  (try simp only [Act.put, List.setIfInBounds_toArray, List.set_cons_zero, List.set_cons_succ])
  refine takeL (i := 21) (v := ?_) rfl (by kernel_rfl) (by kernel_rfl) (by kernel_rfl) (fun _ _ _ h => h) (Or.inl ⟨by rfl, ?_⟩) (unhide HH) ?_
  rotate_left 1
  · intro W hSW; go_simp; all_goals (with_reducible rfl)
  (try simp only [Act.put, List.setIfInBounds_toArray, List.set_cons_zero, List.set_cons_succ])
  refine takeL (i := 22) (v := ?_) rfl (by kernel_rfl) (by kernel_rfl) (by kernel_rfl) (fun _ _ _ h => h) (Or.inl ⟨by rfl, ?_⟩) (unhide HH) ?_
  rotate_left 1
  · intro W1 hSW; have hcl := below_cell7 hSW (unhide C8) (unhide HLT); clear hSW; go_simp; all_goals (with_reducible rfl)
  (try simp only [Act.put, List.setIfInBounds_toArray, List.set_cons_zero, List.set_cons_succ])
  refine wpAnyH_ready (rs := [18]) (by kernel_rfl) (by simp) ?_
  refine consL rfl (fun K hK => ?_) AllReadyH.nil
  go_simp
  refine (Ops_any (unhide HN)).mono ?_
  rintro e W3 ⟨rfl, rfl⟩
  go_wp2_with fail
  refine hK.out _ _ (unhide HH) (fun hHeld => ?_)
  clear hK K HH
  have HH := hide hHeld
  clear hHeld
  (try simp only [Act.put, List.setIfInBounds_toArray, List.set_cons_zero, List.set_cons_succ])
  refine takeL (i := 23) (v := ?_) rfl (by kernel_rfl) (by kernel_rfl) (by kernel_rfl) (fun _ _ _ h => h) (Or.inl ⟨by rfl, ?_⟩) (unhide HH) ?_
  rotate_left 1
  · intro W hSW; go_simp; all_goals (with_reducible rfl)
  (try simp only [Act.put, List.setIfInBounds_toArray, List.set_cons_zero, List.set_cons_succ])
  refine takeL (i := 24) (v := ?_) rfl (by kernel_rfl) (by kernel_rfl) (by kernel_rfl) (fun _ _ _ h => h) (Or.inl ⟨by rfl, ?_⟩) (unhide HH) ?_
  rotate_left 1
  · intro W hSW; go_simp; all_goals (with_reducible rfl)
  (try simp only [Act.put, List.setIfInBounds_toArray, List.set_cons_zero, List.set_cons_succ])
  refine takeL (i := 25) (v := ?_) rfl (by kernel_rfl) (by kernel_rfl) (by kernel_rfl) (fun _ _ _ h => h) (Or.inl ⟨by rfl, ?_⟩) (unhide HH) ?_
  rotate_left 1
  · intro W hSW; go_simp; all_goals (with_reducible rfl)
  (try simp only [Act.put, List.setIfInBounds_toArray, List.set_cons_zero, List.set_cons_succ])
  refine takeL (i := 26) (v := ?_) rfl (by kernel_rfl) (by kernel_rfl) (by kernel_rfl) (fun _ _ _ h => h) (Or.inl ⟨by rfl, ?_⟩) (unhide HH) ?_
  rotate_left 1
  · intro W hSW; go_simp; all_goals (with_reducible rfl)
  (try simp only [Act.put, List.setIfInBounds_toArray, List.set_cons_zero, List.set_cons_succ])
  refine takeL (i := 28) (v := ?_) rfl (by kernel_rfl) (by kernel_rfl) (by kernel_rfl) (fun _ _ _ h => h) (Or.inl ⟨by rfl, ?_⟩) (unhide HH) ?_
  rotate_left 1
  · intro W hSW; go_simp; all_goals (with_reducible rfl)
  (try simp only [Act.put, List.setIfInBounds_toArray, List.set_cons_zero, List.set_cons_succ])
  refine takeL (i := 29) (v := ?_) rfl (by kernel_rfl) (by kernel_rfl) (by kernel_rfl) (fun _ _ _ h => h) (Or.inl ⟨by rfl, ?_⟩) (unhide HH) ?_
  rotate_left 1
  · intro W hSW; go_simp; all_goals (with_reducible rfl)
  (try simp only [Act.put, List.setIfInBounds_toArray, List.set_cons_zero, List.set_cons_succ])
  refine takeL (i := 30) (v := ?_) rfl (by kernel_rfl) (by kernel_rfl) (by kernel_rfl) (fun _ _ _ h => h) (Or.inl ⟨by rfl, ?_⟩) (unhide HH) ?_
  rotate_left 1
  · intro W hSW; go_simp; all_goals (with_reducible rfl)
  (try simp only [Act.put, List.setIfInBounds_toArray, List.set_cons_zero, List.set_cons_succ])
  refine takeL (i := 31) (v := ?_) rfl (by kernel_rfl) (by kernel_rfl) (by kernel_rfl) (fun _ _ _ h => h) (Or.inl ⟨by rfl, ?_⟩) (unhide HH) ?_
  rotate_left 1
  · intro W1 hSW; have hc0 := below_cell7 hSW (unhide C0) (unhide HLT); have hc1 := below_cell7 hSW (unhide C1) (unhide HLT); have hc2 := below_cell7 hSW (unhide C2) (unhide HLT); clear hSW; go_simp; all_goals (with_reducible rfl)
  (try simp only [Act.put, List.setIfInBounds_toArray, List.set_cons_zero, List.set_cons_succ])
  refine wpAnyH_ready (rs := [27]) (by kernel_rfl) (by simp) ?_
  refine consL rfl (fun K hK => ?_) AllReadyH.nil
  go_simp
  refine (geometry_any (unhide HN)).mono ?_
  rintro e W3 ⟨rfl, hb3⟩
  go_wp2_with fail
  refine hK.out _ _ (hb3) (fun hHeld => ?_)
  clear hK K HH
  have HH := hide hHeld
  clear hHeld
  (try simp only [Act.put, List.setIfInBounds_toArray, List.set_cons_zero, List.set_cons_succ])
  have HN3 := hide ((unhide HN).below hb3)
  have HR3 := hide ((unhide HR).below hb3)
  have HB3 := hide ((unhide HB0).trans (hb3.mono hzz))
  clear hb3 HN HR HB0 C0 C1 C2 C7 C8 C9 HLT
  refine takeL (i := 32) (v := ?_) rfl (by kernel_rfl) (by kernel_rfl) (by kernel_rfl) (fun _ _ _ h => h) (Or.inl ⟨by rfl, ?_⟩) (unhide HH) ?_
  rotate_left 1
  · intro W hSW; go_simp; all_goals (with_reducible rfl)
  (try simp only [Act.put, List.setIfInBounds_toArray, List.set_cons_zero, List.set_cons_succ])
  refine takeL (i := 33) (v := ?_) rfl (by kernel_rfl) (by kernel_rfl) (by kernel_rfl) (fun _ _ _ h => h) (Or.inl ⟨by rfl, ?_⟩) (unhide HH) ?_
  rotate_left 1
  · intro W hSW; go_simp; all_goals (with_reducible rfl)
  (try simp only [Act.put, List.setIfInBounds_toArray, List.set_cons_zero, List.set_cons_succ])
  refine wpAnyH_done (by kernel_rfl) ?_ _
  refine NoPanic.normal ?_
  have c0 : W3.cell? ⟨L'.n, 0, none⟩ = some (.int .i64 (s.D : Int)) := (unhide HR3).tc 0 rfl
  have c1 : W3.cell? ⟨L'.n, 1, none⟩ = some (.int .i64 (s.B : Int)) := (unhide HR3).tc 1 rfl
  have hD8 : (s.D : Int) ≤ 8 := by have := (unhide HR3).ok.d; omega
  have hB12 : (s.B : Int) ≤ 12 := by have := (unhide HR3).ok.b; omega
  go_wp2_with fail
  go_loopw [5] (fun q5 wr => ∃ d : Nat, q5 = .int .i64 d ∧ d ≤ s.D ∧ wr = W3) (fun q5 _ => s.D - (intOf q5).toNat)
  case atStart => exact ⟨0, rfl, by omega, rfl⟩
  case round =>
    obtain ⟨d, rfl, hd, hwr⟩ := hrel
    subst hwr
    by_cases hdD : d < s.D
    · have hd1 : (d : Int) < (s.D : Int) := by omega
      go_wp2_with fail
      go_loopw [6] (fun q6 wr2 => ∃ b : Nat, q6 = .int .i64 b ∧ b ≤ s.B ∧ wr2 = wr) (fun q6 _ => s.B - (intOf q6).toNat)
      case atStart => exact ⟨0, rfl, by omega, rfl⟩
      case round =>
        obtain ⟨b, rfl, hb, hwr⟩ := hrel
        subst hwr
        by_cases hbB : b < s.B
        · have hb1 : (b : Int) < (s.B : Int) := by omega
          go_wp2_with fail
          refine (erases_any (unhide HN3) _ _).mono ?_
          rintro e w4 ⟨rfl, rfl⟩
          go_wp2_with fail
          refine (rerases_any (unhide HR3) _ _).mono ?_
          rintro e w5 ⟨rfl, rfl⟩
          go_wp2_with fail
          refine (isBad_any (unhide HN3) _ _).mono ?_
          rintro e w6 ⟨rfl, rfl⟩
          go_wp2_with fail
          refine (risBad_any (unhide HR3) _ _).mono ?_
          rintro e w7 ⟨rfl, rfl⟩
          go_wp2_with fail
          go_roundw
          case rel => exact ⟨b + 1, by go_num, by omega, by trivial⟩
          case measure => simp [intOf]; omega
        · have hbb : s.B = b := by omega
          have hb1 : (s.B : Int) ≤ (b : Int) := by omega
          go_wp2_with fail
          go_roundw
          case rel => exact ⟨d + 1, by go_num, by omega, by trivial⟩
          case measure => simp [intOf]; omega
    · have hd1 : (s.D : Int) ≤ (d : Int) := by omega
      go_wp2_with fail
      go_returns
      exact ⟨rfl, unhide HB3⟩

end Go.Proofs.Ytnondiaefpdlpaa
