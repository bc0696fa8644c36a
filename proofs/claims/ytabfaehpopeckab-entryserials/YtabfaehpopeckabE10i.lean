/-
  The places that are told; parts and layouts as they are made.
-/
import Derived.Test.YtabfaehpopeckabE10f
namespace Go.Proofs.Ytabfaehpopeckab
open Go.RowKit Go.Shelf
attribute [local go_sem] Oper.semAt_some
theorem load_PH {W : World} {B o : Nat} {a b : Value} (k0 : W.cell? ⟨B, o, none⟩ = some a) (k1 : W.cell? ⟨B, o + 1, none⟩ = some b) : (loadVar 65 ⟨B, o, none⟩).run Try.prog W = .ok (.agg #[a, b]) W := by
  have hu := Try.underlying65
  simp [loadVar, isAgg, run_underlying hu, go_sem, k0, k1]
theorem load_PE {W : World} {B o : Nat} {a b : Value} (k0 : W.cell? ⟨B, o, none⟩ = some a) (k1 : W.cell? ⟨B, o + 1, none⟩ = some b) : (loadVar 73 ⟨B, o, none⟩).run Try.prog W = .ok (.agg #[a, b]) W := by
  have hu := Try.underlying73
  simp [loadVar, isAgg, run_underlying hu, go_sem, k0, k1]
theorem load_PT {W : World} {B o : Nat} {a b : Value} (k0 : W.cell? ⟨B, o, none⟩ = some a) (k1 : W.cell? ⟨B, o + 1, none⟩ = some b) : (loadVar 82 ⟨B, o, none⟩).run Try.prog W = .ok (.agg #[a, b]) W := by
  have hu := Try.underlying82
  simp [loadVar, isAgg, run_underlying hu, go_sem, k0, k1]
theorem at_h0 : Ent10 23 ∧ AtI 23 0 := by
  refine ⟨enters_of Try.func23 (by kernel_rfl) rfl, fun B W => ?_⟩
  go_enter Try.func23, Try.ntmps23
  go_wp2
  go_ret
  exact ⟨rfl, rfl⟩
theorem at_h1 : Ent10 25 ∧ AtI 25 1 := by
  refine ⟨enters_of Try.func25 (by kernel_rfl) rfl, fun B W => ?_⟩
  go_enter Try.func25, Try.ntmps25
  go_wp2
  go_ret
  exact ⟨rfl, rfl⟩
theorem at_h2 : Ent10 26 ∧ AtI 26 2 := by
  refine ⟨enters_of Try.func26 (by kernel_rfl) rfl, fun B W => ?_⟩
  go_enter Try.func26, Try.ntmps26
  go_wp2
  go_ret
  exact ⟨rfl, rfl⟩
theorem at_h3 : Ent10 27 ∧ AtI 27 3 := by
  refine ⟨enters_of Try.func27 (by kernel_rfl) rfl, fun B W => ?_⟩
  go_enter Try.func27, Try.ntmps27
  go_wp2
  go_ret
  exact ⟨rfl, rfl⟩
theorem at_e0 : Ent10 29 ∧ AtI 29 0 := by
  refine ⟨enters_of Try.func29 (by kernel_rfl) rfl, fun B W => ?_⟩
  go_enter Try.func29, Try.ntmps29
  go_wp2
  go_ret
  exact ⟨rfl, rfl⟩
theorem at_e1 : Ent10 31 ∧ AtI 31 1 := by
  refine ⟨enters_of Try.func31 (by kernel_rfl) rfl, fun B W => ?_⟩
  go_enter Try.func31, Try.ntmps31
  go_wp2
  go_ret
  exact ⟨rfl, rfl⟩
theorem at_e2 : Ent10 32 ∧ AtI 32 2 := by
  refine ⟨enters_of Try.func32 (by kernel_rfl) rfl, fun B W => ?_⟩
  go_enter Try.func32, Try.ntmps32
  go_wp2
  go_ret
  exact ⟨rfl, rfl⟩
theorem at_e3 : Ent10 34 ∧ AtS 34 3 16 := by
  refine ⟨enters_of Try.func34 (by kernel_rfl) rfl, fun B W => ?_⟩
  go_enter Try.func34, Try.ntmps34
  go_wp2
  go_ret
  exact ⟨rfl, rfl⟩
theorem at_t0 : Ent10 36 ∧ AtS 36 0 4 := by
  refine ⟨enters_of Try.func36 (by kernel_rfl) rfl, fun B W => ?_⟩
  go_enter Try.func36, Try.ntmps36
  go_wp2
  go_ret
  exact ⟨rfl, rfl⟩

set_option maxRecDepth 100000 in
set_option maxHeartbeats 4000000 in
theorem mk_numH (f : Nat) (w : World) : Calls Try.prog 22 #[.func (.func f) #[] #[]] w fun e w' =>
    e = .returned (.agg #[.func (.func 41) #[] #[.pointer (some ⟨w.heap.size, 0, none⟩)], .func (.func 43) #[] #[.pointer (some ⟨w.heap.size, 0, none⟩)]]) ∧
      w'.cell? ⟨w.heap.size, 0, none⟩ = some (.func (.func f) #[] #[]) ∧ w.heap.size < w'.heap.size ∧ Below w.heap.size w w' := by
  have hmf : ∀ (fn : Fn) (first cap : Array Value) (w : World), (Instr.makeFunc fn first cap).run Try.prog w = .ok (.func fn first cap) w := fun _ _ _ _ => rfl
  go_enter Try.func22, Try.ntmps22
  go_wp2
  obtain ⟨w1, hw1⟩ : ∃ w1, w.alloc (.cells #[.func (.func f) #[] #[]] 69) = w1 := ⟨_, rfl⟩
  rw [hw1]
  have hz : w1.heap.size = w.heap.size + 1 := by rw [← hw1]; simp
  rw [← hz]
  refine bodyPost_ret (results_cell7 rfl _ _ ⟨w1.heap.size, 0, none⟩ _ rfl (load_PH (cell_blk (World.alloc_heap_new w1 _) rfl) (cell_blk (World.alloc_heap_new w1 _) rfl))) rfl ?_
  exact ⟨rfl, by rw [World.cell?_of_block (Below.heap_alloc _ _ _ (by simp; omega)), ← hw1]; exact (cell_new' w _ _).1, by simp; omega, by rw [← hw1]; exact ((Below.refl _ w).alloc (Nat.le_refl _) _).alloc (by simp) _⟩

set_option maxRecDepth 100000 in
set_option maxHeartbeats 4000000 in
theorem mk_lowH (f : Nat) (w : World) : Calls Try.prog 24 #[.func (.func f) #[] #[]] w fun e w' =>
    e = .returned (.agg #[.func (.func 45) #[] #[.pointer (some ⟨w.heap.size, 0, none⟩)], .func (.func 47) #[] #[.pointer (some ⟨w.heap.size, 0, none⟩)]]) ∧
      w'.cell? ⟨w.heap.size, 0, none⟩ = some (.func (.func f) #[] #[]) ∧ w.heap.size < w'.heap.size ∧ Below w.heap.size w w' := by
  have hmf : ∀ (fn : Fn) (first cap : Array Value) (w : World), (Instr.makeFunc fn first cap).run Try.prog w = .ok (.func fn first cap) w := fun _ _ _ _ => rfl
  go_enter Try.func24, Try.ntmps24
  go_wp2
  obtain ⟨w1, hw1⟩ : ∃ w1, w.alloc (.cells #[.func (.func f) #[] #[]] 69) = w1 := ⟨_, rfl⟩
  rw [hw1]
  have hz : w1.heap.size = w.heap.size + 1 := by rw [← hw1]; simp
  rw [← hz]
  refine bodyPost_ret (results_cell7 rfl _ _ ⟨w1.heap.size, 0, none⟩ _ rfl (load_PH (cell_blk (World.alloc_heap_new w1 _) rfl) (cell_blk (World.alloc_heap_new w1 _) rfl))) rfl ?_
  exact ⟨rfl, by rw [World.cell?_of_block (Below.heap_alloc _ _ _ (by simp; omega)), ← hw1]; exact (cell_new' w _ _).1, by simp; omega, by rw [← hw1]; exact ((Below.refl _ w).alloc (Nat.le_refl _) _).alloc (by simp) _⟩

set_option maxRecDepth 100000 in
set_option maxHeartbeats 4000000 in
theorem mk_numE (f : Nat) (w : World) : Calls Try.prog 30 #[.func (.func f) #[] #[]] w fun e w' =>
    e = .returned (.agg #[.func (.func 51) #[] #[.pointer (some ⟨w.heap.size, 0, none⟩)], .func (.func 52) #[] #[.pointer (some ⟨w.heap.size, 0, none⟩)]]) ∧
      w'.cell? ⟨w.heap.size, 0, none⟩ = some (.func (.func f) #[] #[]) ∧ w.heap.size < w'.heap.size ∧ Below w.heap.size w w' := by
  have hmf : ∀ (fn : Fn) (first cap : Array Value) (w : World), (Instr.makeFunc fn first cap).run Try.prog w = .ok (.func fn first cap) w := fun _ _ _ _ => rfl
  go_enter Try.func30, Try.ntmps30
  go_wp2
  obtain ⟨w1, hw1⟩ : ∃ w1, w.alloc (.cells #[.func (.func f) #[] #[]] 76) = w1 := ⟨_, rfl⟩
  rw [hw1]
  have hz : w1.heap.size = w.heap.size + 1 := by rw [← hw1]; simp
  rw [← hz]
  refine bodyPost_ret (results_cell7 rfl _ _ ⟨w1.heap.size, 0, none⟩ _ rfl (load_PE (cell_blk (World.alloc_heap_new w1 _) rfl) (cell_blk (World.alloc_heap_new w1 _) rfl))) rfl ?_
  exact ⟨rfl, by rw [World.cell?_of_block (Below.heap_alloc _ _ _ (by simp; omega)), ← hw1]; exact (cell_new' w _ _).1, by simp; omega, by rw [← hw1]; exact ((Below.refl _ w).alloc (Nat.le_refl _) _).alloc (by simp) _⟩

set_option maxRecDepth 100000 in
set_option maxHeartbeats 4000000 in
theorem mk_lowE (f : Nat) (w : World) : Calls Try.prog 28 #[.func (.func f) #[] #[]] w fun e w' =>
    e = .returned (.agg #[.func (.func 49) #[] #[.pointer (some ⟨w.heap.size, 0, none⟩)], .func (.func 50) #[] #[.pointer (some ⟨w.heap.size, 0, none⟩)]]) ∧
      w'.cell? ⟨w.heap.size, 0, none⟩ = some (.func (.func f) #[] #[]) ∧ w.heap.size < w'.heap.size ∧ Below w.heap.size w w' := by
  have hmf : ∀ (fn : Fn) (first cap : Array Value) (w : World), (Instr.makeFunc fn first cap).run Try.prog w = .ok (.func fn first cap) w := fun _ _ _ _ => rfl
  go_enter Try.func28, Try.ntmps28
  go_wp2
  obtain ⟨w1, hw1⟩ : ∃ w1, w.alloc (.cells #[.func (.func f) #[] #[]] 76) = w1 := ⟨_, rfl⟩
  rw [hw1]
  have hz : w1.heap.size = w.heap.size + 1 := by rw [← hw1]; simp
  rw [← hz]
  refine bodyPost_ret (results_cell7 rfl _ _ ⟨w1.heap.size, 0, none⟩ _ rfl (load_PE (cell_blk (World.alloc_heap_new w1 _) rfl) (cell_blk (World.alloc_heap_new w1 _) rfl))) rfl ?_
  exact ⟨rfl, by rw [World.cell?_of_block (Below.heap_alloc _ _ _ (by simp; omega)), ← hw1]; exact (cell_new' w _ _).1, by simp; omega, by rw [← hw1]; exact ((Below.refl _ w).alloc (Nat.le_refl _) _).alloc (by simp) _⟩

set_option maxRecDepth 100000 in
set_option maxHeartbeats 4000000 in
theorem mk_sevE (f : Nat) (w : World) : Calls Try.prog 33 #[.func (.func f) #[] #[]] w fun e w' =>
    e = .returned (.agg #[.func (.func 53) #[] #[.pointer (some ⟨w.heap.size, 0, none⟩)], .func (.func 54) #[] #[.pointer (some ⟨w.heap.size, 0, none⟩)]]) ∧
      w'.cell? ⟨w.heap.size, 0, none⟩ = some (.func (.func f) #[] #[]) ∧ w.heap.size < w'.heap.size ∧ Below w.heap.size w w' := by
  have hmf : ∀ (fn : Fn) (first cap : Array Value) (w : World), (Instr.makeFunc fn first cap).run Try.prog w = .ok (.func fn first cap) w := fun _ _ _ _ => rfl
  go_enter Try.func33, Try.ntmps33
  go_wp2
  obtain ⟨w1, hw1⟩ : ∃ w1, w.alloc (.cells #[.func (.func f) #[] #[]] 78) = w1 := ⟨_, rfl⟩
  rw [hw1]
  have hz : w1.heap.size = w.heap.size + 1 := by rw [← hw1]; simp
  rw [← hz]
  refine bodyPost_ret (results_cell7 rfl _ _ ⟨w1.heap.size, 0, none⟩ _ rfl (load_PE (cell_blk (World.alloc_heap_new w1 _) rfl) (cell_blk (World.alloc_heap_new w1 _) rfl))) rfl ?_
  exact ⟨rfl, by rw [World.cell?_of_block (Below.heap_alloc _ _ _ (by simp; omega)), ← hw1]; exact (cell_new' w _ _).1, by simp; omega, by rw [← hw1]; exact ((Below.refl _ w).alloc (Nat.le_refl _) _).alloc (by simp) _⟩

set_option maxRecDepth 100000 in
set_option maxHeartbeats 4000000 in
theorem mk_sevT (f : Nat) (w : World) : Calls Try.prog 35 #[.func (.func f) #[] #[]] w fun e w' =>
    e = .returned (.agg #[.func (.func 55) #[] #[.pointer (some ⟨w.heap.size, 0, none⟩)], .func (.func 56) #[] #[.pointer (some ⟨w.heap.size, 0, none⟩)]]) ∧
      w'.cell? ⟨w.heap.size, 0, none⟩ = some (.func (.func f) #[] #[]) ∧ w.heap.size < w'.heap.size ∧ Below w.heap.size w w' := by
  have hmf : ∀ (fn : Fn) (first cap : Array Value) (w : World), (Instr.makeFunc fn first cap).run Try.prog w = .ok (.func fn first cap) w := fun _ _ _ _ => rfl
  go_enter Try.func35, Try.ntmps35
  go_wp2
  obtain ⟨w1, hw1⟩ : ∃ w1, w.alloc (.cells #[.func (.func f) #[] #[]] 85) = w1 := ⟨_, rfl⟩
  rw [hw1]
  have hz : w1.heap.size = w.heap.size + 1 := by rw [← hw1]; simp
  rw [← hz]
  refine bodyPost_ret (results_cell7 rfl _ _ ⟨w1.heap.size, 0, none⟩ _ rfl (load_PT (cell_blk (World.alloc_heap_new w1 _) rfl) (cell_blk (World.alloc_heap_new w1 _) rfl))) rfl ?_
  exact ⟨rfl, by rw [World.cell?_of_block (Below.heap_alloc _ _ _ (by simp; omega)), ← hw1]; exact (cell_new' w _ _).1, by simp; omega, by rw [← hw1]; exact ((Below.refl _ w).alloc (Nat.le_refl _) _).alloc (by simp) _⟩

/-- A layout as it is made: its parts, and what each tells places by. -/
structure LayH (w : World) (L : Nat) (c : Nat → Nat) : Prop where
  blk : w.heap[L]? = some (.cells #[.func (.func 41) #[] #[.pointer (some ⟨c 0, 0, none⟩)], .func (.func 43) #[] #[.pointer (some ⟨c 0, 0, none⟩)], .func (.func 45) #[] #[.pointer (some ⟨c 1, 0, none⟩)], .func (.func 47) #[] #[.pointer (some ⟨c 1, 0, none⟩)], .func (.func 45) #[] #[.pointer (some ⟨c 2, 0, none⟩)], .func (.func 47) #[] #[.pointer (some ⟨c 2, 0, none⟩)], .func (.func 45) #[] #[.pointer (some ⟨c 3, 0, none⟩)], .func (.func 47) #[] #[.pointer (some ⟨c 3, 0, none⟩)]] 65 (0, 0))
  c0 : w.cell? ⟨c 0, 0, none⟩ = some (.func (.func 23) #[] #[])
  c1 : w.cell? ⟨c 1, 0, none⟩ = some (.func (.func 25) #[] #[])
  c2 : w.cell? ⟨c 2, 0, none⟩ = some (.func (.func 26) #[] #[])
  c3 : w.cell? ⟨c 3, 0, none⟩ = some (.func (.func 27) #[] #[])
theorem LayH.keep {w w' : World} {L : Nat} {c : Nat → Nat} (h : LayH w L c) (k : Below w.heap.size w w') : LayH w' L c := by
  have hc : ∀ (p : Addr) v, w.cell? p = some v → w'.cell? p = some v := fun p v h => (World.cell?_of_block (k.block _ (block_lt_of_cell h))).trans h
  exact ⟨(k.block _ (lt_of_block h.blk)).trans h.blk, hc _ _ h.c0, hc _ _ h.c1, hc _ _ h.c2, hc _ _ h.c3⟩

set_option maxRecDepth 100000 in
set_option maxHeartbeats 4000000 in
theorem layH_any (w : World) : Calls Try.prog 10 #[] w fun e w' => ∃ L c, e = .returned (.slice (some ⟨L, 0, none⟩) 4 4) ∧ LayH w' L c ∧ w.heap.size ≤ L ∧ (∀ i, i < 4 → w.heap.size ≤ c i) ∧ Below w.heap.size w w' := by
  go_enter Try.func10, Try.ntmps10
  go_wp2_with fail
  refine (mk_numH 23 _).mono ?_
  rintro x w1 ⟨rfl, hc0, hz0, hk0⟩
  have HC0 := hide hc0
  have HK0 := hide hk0
  clear hc0 hk0
  go_wp2_with fail
  refine (mk_lowH 25 _).mono ?_
  rintro x w2 ⟨rfl, hc1, hz1, hk1⟩
  have HC1 := hide hc1
  have HK1 := hide hk1
  clear hc1 hk1
  go_wp2_with fail
  refine (mk_lowH 26 _).mono ?_
  rintro x w3 ⟨rfl, hc2, hz2, hk2⟩
  have HC2 := hide hc2
  have HK2 := hide hk2
  clear hc2 hk2
  go_wp2_with fail
  refine (mk_lowH 27 _).mono ?_
  rintro x w4 ⟨rfl, hc3, hz3, hk3⟩
  have HC3 := hide hc3
  have HK3 := hide hk3
  clear hc3 hk3
  go_wp2
  go_ret
  have hcell : ∀ (A B : World), Below A.heap.size A B → ∀ (p : Addr) v, A.cell? p = some v → B.cell? p = some v := fun A B k p v h => (World.cell?_of_block (k.block _ (block_lt_of_cell h))).trans h
  have kl : Below w4.heap.size w4 (w4.alloc (.cells #[.func (.func 41) #[] #[.pointer (some ⟨w.heap.size, 0, none⟩)], .func (.func 43) #[] #[.pointer (some ⟨w.heap.size, 0, none⟩)], .func (.func 45) #[] #[.pointer (some ⟨w1.heap.size, 0, none⟩)], .func (.func 47) #[] #[.pointer (some ⟨w1.heap.size, 0, none⟩)], .func (.func 45) #[] #[.pointer (some ⟨w2.heap.size, 0, none⟩)], .func (.func 47) #[] #[.pointer (some ⟨w2.heap.size, 0, none⟩)], .func (.func 45) #[] #[.pointer (some ⟨w3.heap.size, 0, none⟩)], .func (.func 47) #[] #[.pointer (some ⟨w3.heap.size, 0, none⟩)]] 65)) := (Below.refl _ _).alloc (Nat.le_refl _) _
  have k3 := kl
  have k2 := (unhide HK3).trans (k3.mono (by omega))
  have k1 := (unhide HK2).trans (k2.mono (by omega))
  have k0 := (unhide HK1).trans (k1.mono (by omega))
  exact ⟨w4.heap.size, fun i => match i with | 0 => w.heap.size | 1 => w1.heap.size | 2 => w2.heap.size | _ => w3.heap.size, rfl, ⟨World.alloc_heap_new w4 _, hcell _ _ k0 _ _ (unhide HC0), hcell _ _ k1 _ _ (unhide HC1), hcell _ _ k2 _ _ (unhide HC2), hcell _ _ k3 _ _ (unhide HC3)⟩, by omega, fun i hi => match i, hi with | 0, _ => (by show w.heap.size ≤ w.heap.size; omega) | 1, _ => (by show w.heap.size ≤ w1.heap.size; omega) | 2, _ => (by show w.heap.size ≤ w2.heap.size; omega) | 3, _ => (by show w.heap.size ≤ w3.heap.size; omega), (unhide HK0).trans (k0.mono (by omega))⟩

/-- A layout as it is made: its parts, and what each tells places by. -/
structure LayE (w : World) (L : Nat) (c : Nat → Nat) : Prop where
  blk : w.heap[L]? = some (.cells #[.func (.func 49) #[] #[.pointer (some ⟨c 0, 0, none⟩)], .func (.func 50) #[] #[.pointer (some ⟨c 0, 0, none⟩)], .func (.func 51) #[] #[.pointer (some ⟨c 1, 0, none⟩)], .func (.func 52) #[] #[.pointer (some ⟨c 1, 0, none⟩)], .func (.func 51) #[] #[.pointer (some ⟨c 2, 0, none⟩)], .func (.func 52) #[] #[.pointer (some ⟨c 2, 0, none⟩)], .func (.func 53) #[] #[.pointer (some ⟨c 3, 0, none⟩)], .func (.func 54) #[] #[.pointer (some ⟨c 3, 0, none⟩)]] 73 (0, 0))
  c0 : w.cell? ⟨c 0, 0, none⟩ = some (.func (.func 29) #[] #[])
  c1 : w.cell? ⟨c 1, 0, none⟩ = some (.func (.func 31) #[] #[])
  c2 : w.cell? ⟨c 2, 0, none⟩ = some (.func (.func 32) #[] #[])
  c3 : w.cell? ⟨c 3, 0, none⟩ = some (.func (.func 34) #[] #[])
theorem LayE.keep {w w' : World} {L : Nat} {c : Nat → Nat} (h : LayE w L c) (k : Below w.heap.size w w') : LayE w' L c := by
  have hc : ∀ (p : Addr) v, w.cell? p = some v → w'.cell? p = some v := fun p v h => (World.cell?_of_block (k.block _ (block_lt_of_cell h))).trans h
  exact ⟨(k.block _ (lt_of_block h.blk)).trans h.blk, hc _ _ h.c0, hc _ _ h.c1, hc _ _ h.c2, hc _ _ h.c3⟩

set_option maxRecDepth 100000 in
set_option maxHeartbeats 4000000 in
theorem layE_any (w : World) : Calls Try.prog 12 #[] w fun e w' => ∃ L c, e = .returned (.slice (some ⟨L, 0, none⟩) 4 4) ∧ LayE w' L c ∧ w.heap.size ≤ L ∧ (∀ i, i < 4 → w.heap.size ≤ c i) ∧ Below w.heap.size w w' := by
  go_enter Try.func12, Try.ntmps12
  go_wp2_with fail
  refine (mk_lowE 29 _).mono ?_
  rintro x w1 ⟨rfl, hc0, hz0, hk0⟩
  have HC0 := hide hc0
  have HK0 := hide hk0
  clear hc0 hk0
  go_wp2_with fail
  refine (mk_numE 31 _).mono ?_
  rintro x w2 ⟨rfl, hc1, hz1, hk1⟩
  have HC1 := hide hc1
  have HK1 := hide hk1
  clear hc1 hk1
  go_wp2_with fail
  refine (mk_numE 32 _).mono ?_
  rintro x w3 ⟨rfl, hc2, hz2, hk2⟩
  have HC2 := hide hc2
  have HK2 := hide hk2
  clear hc2 hk2
  go_wp2_with fail
  refine (mk_sevE 34 _).mono ?_
  rintro x w4 ⟨rfl, hc3, hz3, hk3⟩
  have HC3 := hide hc3
  have HK3 := hide hk3
  clear hc3 hk3
  go_wp2
  go_ret
  have hcell : ∀ (A B : World), Below A.heap.size A B → ∀ (p : Addr) v, A.cell? p = some v → B.cell? p = some v := fun A B k p v h => (World.cell?_of_block (k.block _ (block_lt_of_cell h))).trans h
  have kl : Below w4.heap.size w4 (w4.alloc (.cells #[.func (.func 49) #[] #[.pointer (some ⟨w.heap.size, 0, none⟩)], .func (.func 50) #[] #[.pointer (some ⟨w.heap.size, 0, none⟩)], .func (.func 51) #[] #[.pointer (some ⟨w1.heap.size, 0, none⟩)], .func (.func 52) #[] #[.pointer (some ⟨w1.heap.size, 0, none⟩)], .func (.func 51) #[] #[.pointer (some ⟨w2.heap.size, 0, none⟩)], .func (.func 52) #[] #[.pointer (some ⟨w2.heap.size, 0, none⟩)], .func (.func 53) #[] #[.pointer (some ⟨w3.heap.size, 0, none⟩)], .func (.func 54) #[] #[.pointer (some ⟨w3.heap.size, 0, none⟩)]] 73)) := (Below.refl _ _).alloc (Nat.le_refl _) _
  have k3 := kl
  have k2 := (unhide HK3).trans (k3.mono (by omega))
  have k1 := (unhide HK2).trans (k2.mono (by omega))
  have k0 := (unhide HK1).trans (k1.mono (by omega))
  exact ⟨w4.heap.size, fun i => match i with | 0 => w.heap.size | 1 => w1.heap.size | 2 => w2.heap.size | _ => w3.heap.size, rfl, ⟨World.alloc_heap_new w4 _, hcell _ _ k0 _ _ (unhide HC0), hcell _ _ k1 _ _ (unhide HC1), hcell _ _ k2 _ _ (unhide HC2), hcell _ _ k3 _ _ (unhide HC3)⟩, by omega, fun i hi => match i, hi with | 0, _ => (by show w.heap.size ≤ w.heap.size; omega) | 1, _ => (by show w.heap.size ≤ w1.heap.size; omega) | 2, _ => (by show w.heap.size ≤ w2.heap.size; omega) | 3, _ => (by show w.heap.size ≤ w3.heap.size; omega), (unhide HK0).trans (k0.mono (by omega))⟩

/-- A layout as it is made: its parts, and what each tells places by. -/
structure LayT (w : World) (L : Nat) (c : Nat → Nat) : Prop where
  blk : w.heap[L]? = some (.cells #[.func (.func 55) #[] #[.pointer (some ⟨c 0, 0, none⟩)], .func (.func 56) #[] #[.pointer (some ⟨c 0, 0, none⟩)]] 82 (0, 0))
  c0 : w.cell? ⟨c 0, 0, none⟩ = some (.func (.func 36) #[] #[])
theorem LayT.keep {w w' : World} {L : Nat} {c : Nat → Nat} (h : LayT w L c) (k : Below w.heap.size w w') : LayT w' L c := by
  have hc : ∀ (p : Addr) v, w.cell? p = some v → w'.cell? p = some v := fun p v h => (World.cell?_of_block (k.block _ (block_lt_of_cell h))).trans h
  exact ⟨(k.block _ (lt_of_block h.blk)).trans h.blk, hc _ _ h.c0⟩

set_option maxRecDepth 100000 in
set_option maxHeartbeats 4000000 in
theorem layT_any (w : World) : Calls Try.prog 14 #[] w fun e w' => ∃ L c, e = .returned (.slice (some ⟨L, 0, none⟩) 1 1) ∧ LayT w' L c ∧ w.heap.size ≤ L ∧ (∀ i, i < 1 → w.heap.size ≤ c i) ∧ Below w.heap.size w w' := by
  go_enter Try.func14, Try.ntmps14
  go_wp2_with fail
  refine (mk_sevT 36 _).mono ?_
  rintro x w1 ⟨rfl, hc0, hz0, hk0⟩
  have HC0 := hide hc0
  have HK0 := hide hk0
  clear hc0 hk0
  go_wp2
  go_ret
  have hcell : ∀ (A B : World), Below A.heap.size A B → ∀ (p : Addr) v, A.cell? p = some v → B.cell? p = some v := fun A B k p v h => (World.cell?_of_block (k.block _ (block_lt_of_cell h))).trans h
  have kl : Below w1.heap.size w1 (w1.alloc (.cells #[.func (.func 55) #[] #[.pointer (some ⟨w.heap.size, 0, none⟩)], .func (.func 56) #[] #[.pointer (some ⟨w.heap.size, 0, none⟩)]] 82)) := (Below.refl _ _).alloc (Nat.le_refl _) _
  have k0 := kl
  exact ⟨w1.heap.size, fun i => match i with | _ => w.heap.size, rfl, ⟨World.alloc_heap_new w1 _, hcell _ _ k0 _ _ (unhide HC0)⟩, by omega, fun i hi => match i, hi with | 0, _ => (by show w.heap.size ≤ w.heap.size; omega), (unhide HK0).trans (k0.mono (by omega))⟩
end Go.Proofs.Ytabfaehpopeckab
