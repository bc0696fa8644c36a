/-
  The places that are told; parts and layouts as they are made.
  Layouts, written: (layout).write.
-/
import Derived.Test.YtjdikhelabibnabGreatMaw
namespace Go.Proofs.YtjdikhelabibnabGreat
open Go.RowKit Go.Shelf
attribute [local go_sem] Oper.semAt_some
theorem load_PH {W : World} {B o : Nat} {a b : Value} (k0 : W.cell? ⟨B, o, none⟩ = some a) (k1 : W.cell? ⟨B, o + 1, none⟩ = some b) : (loadVar 129 ⟨B, o, none⟩).run Tryz.prog W = .ok (.agg #[a, b]) W := by
  have hu := Tryz.underlying129
  simp [loadVar, isAgg, run_underlying hu, go_sem, k0, k1]
theorem load_PE {W : World} {B o : Nat} {a b : Value} (k0 : W.cell? ⟨B, o, none⟩ = some a) (k1 : W.cell? ⟨B, o + 1, none⟩ = some b) : (loadVar 137 ⟨B, o, none⟩).run Tryz.prog W = .ok (.agg #[a, b]) W := by
  have hu := Tryz.underlying137
  simp [loadVar, isAgg, run_underlying hu, go_sem, k0, k1]
theorem load_PT {W : World} {B o : Nat} {a b : Value} (k0 : W.cell? ⟨B, o, none⟩ = some a) (k1 : W.cell? ⟨B, o + 1, none⟩ = some b) : (loadVar 146 ⟨B, o, none⟩).run Tryz.prog W = .ok (.agg #[a, b]) W := by
  have hu := Tryz.underlying146
  simp [loadVar, isAgg, run_underlying hu, go_sem, k0, k1]
theorem at_h0 : Ent10 74 ∧ AtI 74 0 := by
  refine ⟨enters_of Tryz.func74 (by kernel_rfl) rfl, fun B W => ?_⟩
  go_enter Tryz.func74, Tryz.ntmps74
  go_wp2
  go_ret
  exact ⟨rfl, rfl⟩
theorem at_h1 : Ent10 76 ∧ AtI 76 1 := by
  refine ⟨enters_of Tryz.func76 (by kernel_rfl) rfl, fun B W => ?_⟩
  go_enter Tryz.func76, Tryz.ntmps76
  go_wp2
  go_ret
  exact ⟨rfl, rfl⟩
theorem at_h2 : Ent10 77 ∧ AtI 77 2 := by
  refine ⟨enters_of Tryz.func77 (by kernel_rfl) rfl, fun B W => ?_⟩
  go_enter Tryz.func77, Tryz.ntmps77
  go_wp2
  go_ret
  exact ⟨rfl, rfl⟩
theorem at_h3 : Ent10 78 ∧ AtI 78 3 := by
  refine ⟨enters_of Tryz.func78 (by kernel_rfl) rfl, fun B W => ?_⟩
  go_enter Tryz.func78, Tryz.ntmps78
  go_wp2
  go_ret
  exact ⟨rfl, rfl⟩
theorem at_e0 : Ent10 80 ∧ AtI 80 0 := by
  refine ⟨enters_of Tryz.func80 (by kernel_rfl) rfl, fun B W => ?_⟩
  go_enter Tryz.func80, Tryz.ntmps80
  go_wp2
  go_ret
  exact ⟨rfl, rfl⟩
theorem at_e1 : Ent10 82 ∧ AtI 82 1 := by
  refine ⟨enters_of Tryz.func82 (by kernel_rfl) rfl, fun B W => ?_⟩
  go_enter Tryz.func82, Tryz.ntmps82
  go_wp2
  go_ret
  exact ⟨rfl, rfl⟩
theorem at_e2 : Ent10 83 ∧ AtI 83 2 := by
  refine ⟨enters_of Tryz.func83 (by kernel_rfl) rfl, fun B W => ?_⟩
  go_enter Tryz.func83, Tryz.ntmps83
  go_wp2
  go_ret
  exact ⟨rfl, rfl⟩
theorem at_e3 : Ent10 85 ∧ AtS 85 3 16 := by
  refine ⟨enters_of Tryz.func85 (by kernel_rfl) rfl, fun B W => ?_⟩
  go_enter Tryz.func85, Tryz.ntmps85
  go_wp2
  go_ret
  exact ⟨rfl, rfl⟩
theorem at_t0 : Ent10 87 ∧ AtS 87 0 4 := by
  refine ⟨enters_of Tryz.func87 (by kernel_rfl) rfl, fun B W => ?_⟩
  go_enter Tryz.func87, Tryz.ntmps87
  go_wp2
  go_ret
  exact ⟨rfl, rfl⟩

set_option maxRecDepth 100000 in
set_option maxHeartbeats 4000000 in
theorem mk_numH (f : Nat) (w : World) : Calls Tryz.prog 73 #[.func (.func f) #[] #[]] w fun e w' =>
    e = .returned (.agg #[.func (.func 107) #[] #[.pointer (some ⟨w.heap.size, 0, none⟩)], .func (.func 109) #[] #[.pointer (some ⟨w.heap.size, 0, none⟩)]]) ∧
      w'.cell? ⟨w.heap.size, 0, none⟩ = some (.func (.func f) #[] #[]) ∧ w.heap.size < w'.heap.size ∧ Below w.heap.size w w' := by
  have hmf : ∀ (fn : Fn) (first cap : Array Value) (w : World), (Instr.makeFunc fn first cap).run Tryz.prog w = .ok (.func fn first cap) w := fun _ _ _ _ => rfl
  go_enter Tryz.func73, Tryz.ntmps73
  go_wp2
  obtain ⟨w1, hw1⟩ : ∃ w1, w.alloc (.cells #[.func (.func f) #[] #[]] 133) = w1 := ⟨_, rfl⟩
  rw [hw1]
  have hz : w1.heap.size = w.heap.size + 1 := by rw [← hw1]; simp
  rw [← hz]
  refine bodyPost_ret (results_cell7 rfl _ _ ⟨w1.heap.size, 0, none⟩ _ rfl (load_PH (cell_blk (World.alloc_heap_new w1 _) rfl) (cell_blk (World.alloc_heap_new w1 _) rfl))) rfl ?_
  exact ⟨rfl, by rw [World.cell?_of_block (Below.heap_alloc _ _ _ (by simp; omega)), ← hw1]; exact (cell_new' w _ _).1, by simp; omega, by rw [← hw1]; exact ((Below.refl _ w).alloc (Nat.le_refl _) _).alloc (by simp) _⟩

set_option maxRecDepth 100000 in
set_option maxHeartbeats 4000000 in
theorem mk_lowH (f : Nat) (w : World) : Calls Tryz.prog 75 #[.func (.func f) #[] #[]] w fun e w' =>
    e = .returned (.agg #[.func (.func 111) #[] #[.pointer (some ⟨w.heap.size, 0, none⟩)], .func (.func 113) #[] #[.pointer (some ⟨w.heap.size, 0, none⟩)]]) ∧
      w'.cell? ⟨w.heap.size, 0, none⟩ = some (.func (.func f) #[] #[]) ∧ w.heap.size < w'.heap.size ∧ Below w.heap.size w w' := by
  have hmf : ∀ (fn : Fn) (first cap : Array Value) (w : World), (Instr.makeFunc fn first cap).run Tryz.prog w = .ok (.func fn first cap) w := fun _ _ _ _ => rfl
  go_enter Tryz.func75, Tryz.ntmps75
  go_wp2
  obtain ⟨w1, hw1⟩ : ∃ w1, w.alloc (.cells #[.func (.func f) #[] #[]] 133) = w1 := ⟨_, rfl⟩
  rw [hw1]
  have hz : w1.heap.size = w.heap.size + 1 := by rw [← hw1]; simp
  rw [← hz]
  refine bodyPost_ret (results_cell7 rfl _ _ ⟨w1.heap.size, 0, none⟩ _ rfl (load_PH (cell_blk (World.alloc_heap_new w1 _) rfl) (cell_blk (World.alloc_heap_new w1 _) rfl))) rfl ?_
  exact ⟨rfl, by rw [World.cell?_of_block (Below.heap_alloc _ _ _ (by simp; omega)), ← hw1]; exact (cell_new' w _ _).1, by simp; omega, by rw [← hw1]; exact ((Below.refl _ w).alloc (Nat.le_refl _) _).alloc (by simp) _⟩

set_option maxRecDepth 100000 in
set_option maxHeartbeats 4000000 in
theorem mk_numE (f : Nat) (w : World) : Calls Tryz.prog 81 #[.func (.func f) #[] #[]] w fun e w' =>
    e = .returned (.agg #[.func (.func 117) #[] #[.pointer (some ⟨w.heap.size, 0, none⟩)], .func (.func 118) #[] #[.pointer (some ⟨w.heap.size, 0, none⟩)]]) ∧
      w'.cell? ⟨w.heap.size, 0, none⟩ = some (.func (.func f) #[] #[]) ∧ w.heap.size < w'.heap.size ∧ Below w.heap.size w w' := by
  have hmf : ∀ (fn : Fn) (first cap : Array Value) (w : World), (Instr.makeFunc fn first cap).run Tryz.prog w = .ok (.func fn first cap) w := fun _ _ _ _ => rfl
  go_enter Tryz.func81, Tryz.ntmps81
  go_wp2
  obtain ⟨w1, hw1⟩ : ∃ w1, w.alloc (.cells #[.func (.func f) #[] #[]] 140) = w1 := ⟨_, rfl⟩
  rw [hw1]
  have hz : w1.heap.size = w.heap.size + 1 := by rw [← hw1]; simp
  rw [← hz]
  refine bodyPost_ret (results_cell7 rfl _ _ ⟨w1.heap.size, 0, none⟩ _ rfl (load_PE (cell_blk (World.alloc_heap_new w1 _) rfl) (cell_blk (World.alloc_heap_new w1 _) rfl))) rfl ?_
  exact ⟨rfl, by rw [World.cell?_of_block (Below.heap_alloc _ _ _ (by simp; omega)), ← hw1]; exact (cell_new' w _ _).1, by simp; omega, by rw [← hw1]; exact ((Below.refl _ w).alloc (Nat.le_refl _) _).alloc (by simp) _⟩

set_option maxRecDepth 100000 in
set_option maxHeartbeats 4000000 in
theorem mk_lowE (f : Nat) (w : World) : Calls Tryz.prog 79 #[.func (.func f) #[] #[]] w fun e w' =>
    e = .returned (.agg #[.func (.func 115) #[] #[.pointer (some ⟨w.heap.size, 0, none⟩)], .func (.func 116) #[] #[.pointer (some ⟨w.heap.size, 0, none⟩)]]) ∧
      w'.cell? ⟨w.heap.size, 0, none⟩ = some (.func (.func f) #[] #[]) ∧ w.heap.size < w'.heap.size ∧ Below w.heap.size w w' := by
  have hmf : ∀ (fn : Fn) (first cap : Array Value) (w : World), (Instr.makeFunc fn first cap).run Tryz.prog w = .ok (.func fn first cap) w := fun _ _ _ _ => rfl
  go_enter Tryz.func79, Tryz.ntmps79
  go_wp2
  obtain ⟨w1, hw1⟩ : ∃ w1, w.alloc (.cells #[.func (.func f) #[] #[]] 140) = w1 := ⟨_, rfl⟩
  rw [hw1]
  have hz : w1.heap.size = w.heap.size + 1 := by rw [← hw1]; simp
  rw [← hz]
  refine bodyPost_ret (results_cell7 rfl _ _ ⟨w1.heap.size, 0, none⟩ _ rfl (load_PE (cell_blk (World.alloc_heap_new w1 _) rfl) (cell_blk (World.alloc_heap_new w1 _) rfl))) rfl ?_
  exact ⟨rfl, by rw [World.cell?_of_block (Below.heap_alloc _ _ _ (by simp; omega)), ← hw1]; exact (cell_new' w _ _).1, by simp; omega, by rw [← hw1]; exact ((Below.refl _ w).alloc (Nat.le_refl _) _).alloc (by simp) _⟩

set_option maxRecDepth 100000 in
set_option maxHeartbeats 4000000 in
theorem mk_sevE (f : Nat) (w : World) : Calls Tryz.prog 84 #[.func (.func f) #[] #[]] w fun e w' =>
    e = .returned (.agg #[.func (.func 119) #[] #[.pointer (some ⟨w.heap.size, 0, none⟩)], .func (.func 120) #[] #[.pointer (some ⟨w.heap.size, 0, none⟩)]]) ∧
      w'.cell? ⟨w.heap.size, 0, none⟩ = some (.func (.func f) #[] #[]) ∧ w.heap.size < w'.heap.size ∧ Below w.heap.size w w' := by
  have hmf : ∀ (fn : Fn) (first cap : Array Value) (w : World), (Instr.makeFunc fn first cap).run Tryz.prog w = .ok (.func fn first cap) w := fun _ _ _ _ => rfl
  go_enter Tryz.func84, Tryz.ntmps84
  go_wp2
  obtain ⟨w1, hw1⟩ : ∃ w1, w.alloc (.cells #[.func (.func f) #[] #[]] 142) = w1 := ⟨_, rfl⟩
  rw [hw1]
  have hz : w1.heap.size = w.heap.size + 1 := by rw [← hw1]; simp
  rw [← hz]
  refine bodyPost_ret (results_cell7 rfl _ _ ⟨w1.heap.size, 0, none⟩ _ rfl (load_PE (cell_blk (World.alloc_heap_new w1 _) rfl) (cell_blk (World.alloc_heap_new w1 _) rfl))) rfl ?_
  exact ⟨rfl, by rw [World.cell?_of_block (Below.heap_alloc _ _ _ (by simp; omega)), ← hw1]; exact (cell_new' w _ _).1, by simp; omega, by rw [← hw1]; exact ((Below.refl _ w).alloc (Nat.le_refl _) _).alloc (by simp) _⟩

set_option maxRecDepth 100000 in
set_option maxHeartbeats 4000000 in
theorem mk_sevT (f : Nat) (w : World) : Calls Tryz.prog 86 #[.func (.func f) #[] #[]] w fun e w' =>
    e = .returned (.agg #[.func (.func 121) #[] #[.pointer (some ⟨w.heap.size, 0, none⟩)], .func (.func 122) #[] #[.pointer (some ⟨w.heap.size, 0, none⟩)]]) ∧
      w'.cell? ⟨w.heap.size, 0, none⟩ = some (.func (.func f) #[] #[]) ∧ w.heap.size < w'.heap.size ∧ Below w.heap.size w w' := by
  have hmf : ∀ (fn : Fn) (first cap : Array Value) (w : World), (Instr.makeFunc fn first cap).run Tryz.prog w = .ok (.func fn first cap) w := fun _ _ _ _ => rfl
  go_enter Tryz.func86, Tryz.ntmps86
  go_wp2
  obtain ⟨w1, hw1⟩ : ∃ w1, w.alloc (.cells #[.func (.func f) #[] #[]] 149) = w1 := ⟨_, rfl⟩
  rw [hw1]
  have hz : w1.heap.size = w.heap.size + 1 := by rw [← hw1]; simp
  rw [← hz]
  refine bodyPost_ret (results_cell7 rfl _ _ ⟨w1.heap.size, 0, none⟩ _ rfl (load_PT (cell_blk (World.alloc_heap_new w1 _) rfl) (cell_blk (World.alloc_heap_new w1 _) rfl))) rfl ?_
  exact ⟨rfl, by rw [World.cell?_of_block (Below.heap_alloc _ _ _ (by simp; omega)), ← hw1]; exact (cell_new' w _ _).1, by simp; omega, by rw [← hw1]; exact ((Below.refl _ w).alloc (Nat.le_refl _) _).alloc (by simp) _⟩

/-- A layout as it is made: its parts, and what each tells places by. -/
structure LayH (w : World) (L : Nat) (c : Nat → Nat) : Prop where
  blk : w.heap[L]? = some (.cells #[.func (.func 107) #[] #[.pointer (some ⟨c 0, 0, none⟩)], .func (.func 109) #[] #[.pointer (some ⟨c 0, 0, none⟩)], .func (.func 111) #[] #[.pointer (some ⟨c 1, 0, none⟩)], .func (.func 113) #[] #[.pointer (some ⟨c 1, 0, none⟩)], .func (.func 111) #[] #[.pointer (some ⟨c 2, 0, none⟩)], .func (.func 113) #[] #[.pointer (some ⟨c 2, 0, none⟩)], .func (.func 111) #[] #[.pointer (some ⟨c 3, 0, none⟩)], .func (.func 113) #[] #[.pointer (some ⟨c 3, 0, none⟩)]] 129 (0, 0))
  c0 : w.cell? ⟨c 0, 0, none⟩ = some (.func (.func 74) #[] #[])
  c1 : w.cell? ⟨c 1, 0, none⟩ = some (.func (.func 76) #[] #[])
  c2 : w.cell? ⟨c 2, 0, none⟩ = some (.func (.func 77) #[] #[])
  c3 : w.cell? ⟨c 3, 0, none⟩ = some (.func (.func 78) #[] #[])
theorem LayH.keep {w w' : World} {L : Nat} {c : Nat → Nat} (h : LayH w L c) (k : Below w.heap.size w w') : LayH w' L c := by
  have hc : ∀ (p : Addr) v, w.cell? p = some v → w'.cell? p = some v := fun p v h => (World.cell?_of_block (k.block _ (block_lt_of_cell h))).trans h
  exact ⟨(k.block _ (lt_of_block h.blk)).trans h.blk, hc _ _ h.c0, hc _ _ h.c1, hc _ _ h.c2, hc _ _ h.c3⟩

set_option maxRecDepth 100000 in
set_option maxHeartbeats 4000000 in
theorem layH_any (w : World) : Calls Tryz.prog 49 #[] w fun e w' => ∃ L c, e = .returned (.slice (some ⟨L, 0, none⟩) 4 4) ∧ LayH w' L c ∧ w.heap.size ≤ L ∧ (∀ i, i < 4 → w.heap.size ≤ c i) ∧ Below w.heap.size w w' := by
  go_enter Tryz.func49, Tryz.ntmps49
  go_wp2_with fail
  refine (mk_numH 74 _).mono ?_
  rintro x w1 ⟨rfl, hc0, hz0, hk0⟩
  have HC0 := hide hc0
  have HK0 := hide hk0
  clear hc0 hk0
  go_wp2_with fail
  refine (mk_lowH 76 _).mono ?_
  rintro x w2 ⟨rfl, hc1, hz1, hk1⟩
  have HC1 := hide hc1
  have HK1 := hide hk1
  clear hc1 hk1
  go_wp2_with fail
  refine (mk_lowH 77 _).mono ?_
  rintro x w3 ⟨rfl, hc2, hz2, hk2⟩
  have HC2 := hide hc2
  have HK2 := hide hk2
  clear hc2 hk2
  go_wp2_with fail
  refine (mk_lowH 78 _).mono ?_
  rintro x w4 ⟨rfl, hc3, hz3, hk3⟩
  have HC3 := hide hc3
  have HK3 := hide hk3
  clear hc3 hk3
  go_wp2
  go_ret
  have hcell : ∀ (A B : World), Below A.heap.size A B → ∀ (p : Addr) v, A.cell? p = some v → B.cell? p = some v := fun A B k p v h => (World.cell?_of_block (k.block _ (block_lt_of_cell h))).trans h
  have kl : Below w4.heap.size w4 (w4.alloc (.cells #[.func (.func 107) #[] #[.pointer (some ⟨w.heap.size, 0, none⟩)], .func (.func 109) #[] #[.pointer (some ⟨w.heap.size, 0, none⟩)], .func (.func 111) #[] #[.pointer (some ⟨w1.heap.size, 0, none⟩)], .func (.func 113) #[] #[.pointer (some ⟨w1.heap.size, 0, none⟩)], .func (.func 111) #[] #[.pointer (some ⟨w2.heap.size, 0, none⟩)], .func (.func 113) #[] #[.pointer (some ⟨w2.heap.size, 0, none⟩)], .func (.func 111) #[] #[.pointer (some ⟨w3.heap.size, 0, none⟩)], .func (.func 113) #[] #[.pointer (some ⟨w3.heap.size, 0, none⟩)]] 129)) := (Below.refl _ _).alloc (Nat.le_refl _) _
  have k3 := kl
  have k2 := (unhide HK3).trans (k3.mono (by omega))
  have k1 := (unhide HK2).trans (k2.mono (by omega))
  have k0 := (unhide HK1).trans (k1.mono (by omega))
  exact ⟨w4.heap.size, fun i => match i with | 0 => w.heap.size | 1 => w1.heap.size | 2 => w2.heap.size | _ => w3.heap.size, rfl, ⟨World.alloc_heap_new w4 _, hcell _ _ k0 _ _ (unhide HC0), hcell _ _ k1 _ _ (unhide HC1), hcell _ _ k2 _ _ (unhide HC2), hcell _ _ k3 _ _ (unhide HC3)⟩, by omega, fun i hi => match i, hi with | 0, _ => (by show w.heap.size ≤ w.heap.size; omega) | 1, _ => (by show w.heap.size ≤ w1.heap.size; omega) | 2, _ => (by show w.heap.size ≤ w2.heap.size; omega) | 3, _ => (by show w.heap.size ≤ w3.heap.size; omega), (unhide HK0).trans (k0.mono (by omega))⟩

/-- A layout as it is made: its parts, and what each tells places by. -/
structure LayE (w : World) (L : Nat) (c : Nat → Nat) : Prop where
  blk : w.heap[L]? = some (.cells #[.func (.func 115) #[] #[.pointer (some ⟨c 0, 0, none⟩)], .func (.func 116) #[] #[.pointer (some ⟨c 0, 0, none⟩)], .func (.func 117) #[] #[.pointer (some ⟨c 1, 0, none⟩)], .func (.func 118) #[] #[.pointer (some ⟨c 1, 0, none⟩)], .func (.func 117) #[] #[.pointer (some ⟨c 2, 0, none⟩)], .func (.func 118) #[] #[.pointer (some ⟨c 2, 0, none⟩)], .func (.func 119) #[] #[.pointer (some ⟨c 3, 0, none⟩)], .func (.func 120) #[] #[.pointer (some ⟨c 3, 0, none⟩)]] 137 (0, 0))
  c0 : w.cell? ⟨c 0, 0, none⟩ = some (.func (.func 80) #[] #[])
  c1 : w.cell? ⟨c 1, 0, none⟩ = some (.func (.func 82) #[] #[])
  c2 : w.cell? ⟨c 2, 0, none⟩ = some (.func (.func 83) #[] #[])
  c3 : w.cell? ⟨c 3, 0, none⟩ = some (.func (.func 85) #[] #[])
theorem LayE.keep {w w' : World} {L : Nat} {c : Nat → Nat} (h : LayE w L c) (k : Below w.heap.size w w') : LayE w' L c := by
  have hc : ∀ (p : Addr) v, w.cell? p = some v → w'.cell? p = some v := fun p v h => (World.cell?_of_block (k.block _ (block_lt_of_cell h))).trans h
  exact ⟨(k.block _ (lt_of_block h.blk)).trans h.blk, hc _ _ h.c0, hc _ _ h.c1, hc _ _ h.c2, hc _ _ h.c3⟩

set_option maxRecDepth 100000 in
set_option maxHeartbeats 4000000 in
theorem layE_any (w : World) : Calls Tryz.prog 51 #[] w fun e w' => ∃ L c, e = .returned (.slice (some ⟨L, 0, none⟩) 4 4) ∧ LayE w' L c ∧ w.heap.size ≤ L ∧ (∀ i, i < 4 → w.heap.size ≤ c i) ∧ Below w.heap.size w w' := by
  go_enter Tryz.func51, Tryz.ntmps51
  go_wp2_with fail
  refine (mk_lowE 80 _).mono ?_
  rintro x w1 ⟨rfl, hc0, hz0, hk0⟩
  have HC0 := hide hc0
  have HK0 := hide hk0
  clear hc0 hk0
  go_wp2_with fail
  refine (mk_numE 82 _).mono ?_
  rintro x w2 ⟨rfl, hc1, hz1, hk1⟩
  have HC1 := hide hc1
  have HK1 := hide hk1
  clear hc1 hk1
  go_wp2_with fail
  refine (mk_numE 83 _).mono ?_
  rintro x w3 ⟨rfl, hc2, hz2, hk2⟩
  have HC2 := hide hc2
  have HK2 := hide hk2
  clear hc2 hk2
  go_wp2_with fail
  refine (mk_sevE 85 _).mono ?_
  rintro x w4 ⟨rfl, hc3, hz3, hk3⟩
  have HC3 := hide hc3
  have HK3 := hide hk3
  clear hc3 hk3
  go_wp2
  go_ret
  have hcell : ∀ (A B : World), Below A.heap.size A B → ∀ (p : Addr) v, A.cell? p = some v → B.cell? p = some v := fun A B k p v h => (World.cell?_of_block (k.block _ (block_lt_of_cell h))).trans h
  have kl : Below w4.heap.size w4 (w4.alloc (.cells #[.func (.func 115) #[] #[.pointer (some ⟨w.heap.size, 0, none⟩)], .func (.func 116) #[] #[.pointer (some ⟨w.heap.size, 0, none⟩)], .func (.func 117) #[] #[.pointer (some ⟨w1.heap.size, 0, none⟩)], .func (.func 118) #[] #[.pointer (some ⟨w1.heap.size, 0, none⟩)], .func (.func 117) #[] #[.pointer (some ⟨w2.heap.size, 0, none⟩)], .func (.func 118) #[] #[.pointer (some ⟨w2.heap.size, 0, none⟩)], .func (.func 119) #[] #[.pointer (some ⟨w3.heap.size, 0, none⟩)], .func (.func 120) #[] #[.pointer (some ⟨w3.heap.size, 0, none⟩)]] 137)) := (Below.refl _ _).alloc (Nat.le_refl _) _
  have k3 := kl
  have k2 := (unhide HK3).trans (k3.mono (by omega))
  have k1 := (unhide HK2).trans (k2.mono (by omega))
  have k0 := (unhide HK1).trans (k1.mono (by omega))
  exact ⟨w4.heap.size, fun i => match i with | 0 => w.heap.size | 1 => w1.heap.size | 2 => w2.heap.size | _ => w3.heap.size, rfl, ⟨World.alloc_heap_new w4 _, hcell _ _ k0 _ _ (unhide HC0), hcell _ _ k1 _ _ (unhide HC1), hcell _ _ k2 _ _ (unhide HC2), hcell _ _ k3 _ _ (unhide HC3)⟩, by omega, fun i hi => match i, hi with | 0, _ => (by show w.heap.size ≤ w.heap.size; omega) | 1, _ => (by show w.heap.size ≤ w1.heap.size; omega) | 2, _ => (by show w.heap.size ≤ w2.heap.size; omega) | 3, _ => (by show w.heap.size ≤ w3.heap.size; omega), (unhide HK0).trans (k0.mono (by omega))⟩

/-- A layout as it is made: its parts, and what each tells places by. -/
structure LayT (w : World) (L : Nat) (c : Nat → Nat) : Prop where
  blk : w.heap[L]? = some (.cells #[.func (.func 121) #[] #[.pointer (some ⟨c 0, 0, none⟩)], .func (.func 122) #[] #[.pointer (some ⟨c 0, 0, none⟩)]] 146 (0, 0))
  c0 : w.cell? ⟨c 0, 0, none⟩ = some (.func (.func 87) #[] #[])
theorem LayT.keep {w w' : World} {L : Nat} {c : Nat → Nat} (h : LayT w L c) (k : Below w.heap.size w w') : LayT w' L c := by
  have hc : ∀ (p : Addr) v, w.cell? p = some v → w'.cell? p = some v := fun p v h => (World.cell?_of_block (k.block _ (block_lt_of_cell h))).trans h
  exact ⟨(k.block _ (lt_of_block h.blk)).trans h.blk, hc _ _ h.c0⟩

set_option maxRecDepth 100000 in
set_option maxHeartbeats 4000000 in
theorem layT_any (w : World) : Calls Tryz.prog 53 #[] w fun e w' => ∃ L c, e = .returned (.slice (some ⟨L, 0, none⟩) 1 1) ∧ LayT w' L c ∧ w.heap.size ≤ L ∧ (∀ i, i < 1 → w.heap.size ≤ c i) ∧ Below w.heap.size w w' := by
  go_enter Tryz.func53, Tryz.ntmps53
  go_wp2_with fail
  refine (mk_sevT 87 _).mono ?_
  rintro x w1 ⟨rfl, hc0, hz0, hk0⟩
  have HC0 := hide hc0
  have HK0 := hide hk0
  clear hc0 hk0
  go_wp2
  go_ret
  have hcell : ∀ (A B : World), Below A.heap.size A B → ∀ (p : Addr) v, A.cell? p = some v → B.cell? p = some v := fun A B k p v h => (World.cell?_of_block (k.block _ (block_lt_of_cell h))).trans h
  have kl : Below w1.heap.size w1 (w1.alloc (.cells #[.func (.func 121) #[] #[.pointer (some ⟨w.heap.size, 0, none⟩)], .func (.func 122) #[] #[.pointer (some ⟨w.heap.size, 0, none⟩)]] 146)) := (Below.refl _ _).alloc (Nat.le_refl _) _
  have k0 := kl
  exact ⟨w1.heap.size, fun i => match i with | _ => w.heap.size, rfl, ⟨World.alloc_heap_new w1 _, hcell _ _ k0 _ _ (unhide HC0)⟩, by omega, fun i hi => match i, hi with | 0, _ => (by show w.heap.size ≤ w.heap.size; omega), (unhide HK0).trans (k0.mono (by omega))⟩
end Go.Proofs.YtjdikhelabibnabGreat

namespace Go.Proofs.YtjdikhelabibnabGreat
open Go.RowKit Go.Shelf
attribute [local go_sem] Oper.semAt_some

/-- A head's bytes, part by part; a slot's; the noughts. -/
def owH (a b c d : Int) : List (List Int) := [by8 8 (IntKind.u64.wrap a), by8 1 (IntKind.u64.wrap b), by8 1 (IntKind.u64.wrap c), by8 1 (IntKind.u64.wrap d)]
def owE (k l s : Int) (d : List Nat) : List (List Int) := [by8 1 (IntKind.u64.wrap k), by8 8 (IntKind.u64.wrap l), by8 8 (IntKind.u64.wrap s), ints d]
def owT (d : List Nat) : List (List Int) := [ints d]
def fin10 (l : List (List Int)) (k : Nat) : List Int := (l.take k).flatten
theorem fin_succ {l : List (List Int)} {k : Nat} (x : List Int) (h : l[k]? = some x) : fin10 l (k + 1) = fin10 l k ++ x := by
  unfold fin10
  rw [List.take_add_one, h]
  simp
/-- A tail's cells. -/
def tailA (d : List Nat) : Array Value := (datL d).toArray

set_option maxRecDepth 100000 in
set_option maxHeartbeats 8000000 in
theorem writeH_any (L : Nat) (c : Nat → Nat) (x0 x1 x2 x3 : Int) (a : Option Addr) (g n cc : Nat) (zs : List Int) (w : World) (hn : n ≤ 100) (hl : zs.length = n) (hr : Row w a g zs) (hL : LayH w L c) :
    Calls Tryz.prog 50 #[.slice (some ⟨L, 0, none⟩) 4 4, .slice a n cc, .agg (headA x0 x1 x2 x3)] w fun e w' => ∃ a' g' c', e = .returned (.slice a' (zs ++ fin10 (owH x0 x1 x2 x3) 4).length c') ∧ Row w' a' g' (zs ++ fin10 (owH x0 x1 x2 x3) 4) ∧ Below w.heap.size w w' := by
  have HR := hide hr
  have HL := hide hL
  clear hr hL
  go_enter Tryz.func50, Tryz.ntmps50
  go_wp2_with fail
  obtain ⟨w1, hw1⟩ : ∃ w1, w.alloc (.cells (headA x0 x1 x2 x3) 52) = w1 := ⟨_, rfl⟩
  have HK1 : Hid (Kp [] w w1) := by rw [← hw1]; exact (Kp.refl [] w).alloc _
  have HB : Hid (w1.heap[w.heap.size]? = some (.cells (headA x0 x1 x2 x3) 52 (0, 0))) := by rw [← hw1]; exact World.alloc_heap_new w _
  obtain ⟨B, hB⟩ : ∃ B, w.heap.size = B := ⟨_, rfl⟩
  rw [hw1]
  rw [hB] at HB ⊢
  clear hw1
  subst hl
  go_loopw [1, 11] (fun b i wr => ∃ (k : Nat) (a' : Option Addr) (g' c' N : Nat), k ≤ 4 ∧ i = .int .i64 k ∧ b = .slice a' N c' ∧ (zs ++ fin10 (owH x0 x1 x2 x3) k).length = N ∧ Kp [] w1 wr ∧ Row wr a' g' (zs ++ fin10 (owH x0 x1 x2 x3) k)) (fun _ i _ => 4 - (intOf i).toNat)
  case atStart => exact ⟨0, a, g, cc, zs.length, by omega, rfl, rfl, by simp [fin10], Kp.refl _ _, by simpa [fin10] using (unhide HR).keep (unhide HK1) (by simp)⟩
  case round =>
    obtain ⟨k, a', g', c', N, hk, rfl, rfl, hN, hK, hr⟩ := hrel
    have HN := hide hN
    clear hN
    have HK := hide hK
    have HR1 := hide hr
    have HB1 := hide (hK.heap (unhide HB) (by simp))
    have HL1 := hide (((unhide HL).keep (unhide HK1).below).keep hK.below)
    clear hK hr
    by_cases hlt : k < 4
    · match k, hlt with
      | 0, _ =>
        have q0 : wr.cell? ⟨L, 0, none⟩ = some (.func (.func 107) #[] #[.pointer (some ⟨c 0, 0, none⟩)]) := cell_blk (unhide HL1).blk rfl
        have q1 : wr.cell? ⟨L, 1, none⟩ = some (.func (.func 109) #[] #[.pointer (some ⟨c 0, 0, none⟩)]) := cell_blk (unhide HL1).blk rfl
        have HLN : Hid (N ≤ 200) := by
          rw [← unhide HN, List.length_append]
          have : (fin10 (owH x0 x1 x2 x3) 0).length = 0 := by simp [fin10]
          unfold Hid
          omega
        go_wp2_with fail
        refine (put_numH 74 (c 0) B 0 x0 a' g' N c' (zs ++ fin10 (owH x0 x1 x2 x3) 0) _ (by have := unhide HLN; omega) (unhide HN) ((unhide HR1).keep ((Kp.refl [] wr).alloc _) (by simp)) at_h0.1 at_h0.2 (((Kp.refl [] wr).alloc _).cell (unhide HL1).c0 (by simp)) (((Kp.refl [] wr).alloc _).cell (cell_blk (unhide HB1) rfl) (by simp))).mono ?_
        rintro x w2 ⟨q, rfl, hq, ho, hk2⟩
        have HR2 := hide (row_of_owns ho)
        have HK2 : Hid (Kp [] w1 w2) := ((unhide HK).alloc _).trans hk2 (by simp)
        clear ho hk2
        go_wp2
        go_roundw
        case rel => exact ⟨1, some ⟨q, 0, none⟩, q, _, _, by omega, by go_num, rfl, by rw [fin_succ _ rfl, ← List.append_assoc, List.length_append, unhide HN]; first | rfl | rw [by8_length] | (simp [ints, hd]), unhide HK2, by rw [fin_succ _ rfl, ← List.append_assoc]; exact unhide HR2⟩
        case measure => simp [intOf] <;> omega
      | 1, _ =>
        have q0 : wr.cell? ⟨L, 2, none⟩ = some (.func (.func 111) #[] #[.pointer (some ⟨c 1, 0, none⟩)]) := cell_blk (unhide HL1).blk rfl
        have q1 : wr.cell? ⟨L, 3, none⟩ = some (.func (.func 113) #[] #[.pointer (some ⟨c 1, 0, none⟩)]) := cell_blk (unhide HL1).blk rfl
        have HLN : Hid (N ≤ 200) := by
          rw [← unhide HN, List.length_append]
          have : (fin10 (owH x0 x1 x2 x3) 1).length = 8 := by simp [fin10, owH, by8_length]
          unfold Hid
          omega
        go_wp2_with fail
        refine (put_lowH 76 (c 1) B 1 x1 a' g' N c' (zs ++ fin10 (owH x0 x1 x2 x3) 1) _ (by have := unhide HLN; omega) (unhide HN) ((unhide HR1).keep ((Kp.refl [] wr).alloc _) (by simp)) at_h1.1 at_h1.2 (((Kp.refl [] wr).alloc _).cell (unhide HL1).c1 (by simp)) (((Kp.refl [] wr).alloc _).cell (cell_blk (unhide HB1) rfl) (by simp))).mono ?_
        rintro x w2 ⟨q, rfl, hq, ho, hk2⟩
        have HR2 := hide (row_of_owns ho)
        have HK2 : Hid (Kp [] w1 w2) := ((unhide HK).alloc _).trans hk2 (by simp)
        clear ho hk2
        go_wp2
        go_roundw
        case rel => exact ⟨2, some ⟨q, 0, none⟩, q, _, _, by omega, by go_num, rfl, by rw [fin_succ _ rfl, ← List.append_assoc, List.length_append, unhide HN]; first | rfl | rw [by8_length] | (simp [ints, hd]), unhide HK2, by rw [fin_succ _ rfl, ← List.append_assoc]; exact unhide HR2⟩
        case measure => simp [intOf] <;> omega
      | 2, _ =>
        have q0 : wr.cell? ⟨L, 4, none⟩ = some (.func (.func 111) #[] #[.pointer (some ⟨c 2, 0, none⟩)]) := cell_blk (unhide HL1).blk rfl
        have q1 : wr.cell? ⟨L, 5, none⟩ = some (.func (.func 113) #[] #[.pointer (some ⟨c 2, 0, none⟩)]) := cell_blk (unhide HL1).blk rfl
        have HLN : Hid (N ≤ 200) := by
          rw [← unhide HN, List.length_append]
          have : (fin10 (owH x0 x1 x2 x3) 2).length = 9 := by simp [fin10, owH, by8_length]
          unfold Hid
          omega
        go_wp2_with fail
        refine (put_lowH 77 (c 2) B 2 x2 a' g' N c' (zs ++ fin10 (owH x0 x1 x2 x3) 2) _ (by have := unhide HLN; omega) (unhide HN) ((unhide HR1).keep ((Kp.refl [] wr).alloc _) (by simp)) at_h2.1 at_h2.2 (((Kp.refl [] wr).alloc _).cell (unhide HL1).c2 (by simp)) (((Kp.refl [] wr).alloc _).cell (cell_blk (unhide HB1) rfl) (by simp))).mono ?_
        rintro x w2 ⟨q, rfl, hq, ho, hk2⟩
        have HR2 := hide (row_of_owns ho)
        have HK2 : Hid (Kp [] w1 w2) := ((unhide HK).alloc _).trans hk2 (by simp)
        clear ho hk2
        go_wp2
        go_roundw
        case rel => exact ⟨3, some ⟨q, 0, none⟩, q, _, _, by omega, by go_num, rfl, by rw [fin_succ _ rfl, ← List.append_assoc, List.length_append, unhide HN]; first | rfl | rw [by8_length] | (simp [ints, hd]), unhide HK2, by rw [fin_succ _ rfl, ← List.append_assoc]; exact unhide HR2⟩
        case measure => simp [intOf] <;> omega
      | 3, _ =>
        have q0 : wr.cell? ⟨L, 6, none⟩ = some (.func (.func 111) #[] #[.pointer (some ⟨c 3, 0, none⟩)]) := cell_blk (unhide HL1).blk rfl
        have q1 : wr.cell? ⟨L, 7, none⟩ = some (.func (.func 113) #[] #[.pointer (some ⟨c 3, 0, none⟩)]) := cell_blk (unhide HL1).blk rfl
        have HLN : Hid (N ≤ 200) := by
          rw [← unhide HN, List.length_append]
          have : (fin10 (owH x0 x1 x2 x3) 3).length = 10 := by simp [fin10, owH, by8_length]
          unfold Hid
          omega
        go_wp2_with fail
        refine (put_lowH 78 (c 3) B 3 x3 a' g' N c' (zs ++ fin10 (owH x0 x1 x2 x3) 3) _ (by have := unhide HLN; omega) (unhide HN) ((unhide HR1).keep ((Kp.refl [] wr).alloc _) (by simp)) at_h3.1 at_h3.2 (((Kp.refl [] wr).alloc _).cell (unhide HL1).c3 (by simp)) (((Kp.refl [] wr).alloc _).cell (cell_blk (unhide HB1) rfl) (by simp))).mono ?_
        rintro x w2 ⟨q, rfl, hq, ho, hk2⟩
        have HR2 := hide (row_of_owns ho)
        have HK2 : Hid (Kp [] w1 w2) := ((unhide HK).alloc _).trans hk2 (by simp)
        clear ho hk2
        go_wp2
        go_roundw
        case rel => exact ⟨4, some ⟨q, 0, none⟩, q, _, _, by omega, by go_num, rfl, by rw [fin_succ _ rfl, ← List.append_assoc, List.length_append, unhide HN]; first | rfl | rw [by8_length] | (simp [ints, hd]), unhide HK2, by rw [fin_succ _ rfl, ← List.append_assoc]; exact unhide HR2⟩
        case measure => simp [intOf] <;> omega
    · have : k = 4 := by omega
      subst this
      go_wp2
      go_ret
      exact ⟨a', g', c', by rw [unhide HN]; rfl, unhide HR1, ((unhide HK1).trans (unhide HK) (by simp)).below⟩

set_option maxRecDepth 100000 in
set_option maxHeartbeats 8000000 in
theorem writeE_any (L : Nat) (c : Nat → Nat) (x0 x1 x2 : Int) (d : List Nat) (hd : d.length = 16) (hdb : ∀ j, cf d j < 256) (a : Option Addr) (g n cc : Nat) (zs : List Int) (w : World) (hn : n ≤ 100) (hl : zs.length = n) (hr : Row w a g zs) (hL : LayE w L c) :
    Calls Tryz.prog 52 #[.slice (some ⟨L, 0, none⟩) 4 4, .slice a n cc, .agg (entA x0 x1 x2 d)] w fun e w' => ∃ a' g' c', e = .returned (.slice a' (zs ++ fin10 (owE x0 x1 x2 d) 4).length c') ∧ Row w' a' g' (zs ++ fin10 (owE x0 x1 x2 d) 4) ∧ Below w.heap.size w w' := by
  have HR := hide hr
  have HL := hide hL
  clear hr hL
  go_enter Tryz.func52, Tryz.ntmps52
  go_wp2_with fail
  obtain ⟨w1, hw1⟩ : ∃ w1, w.alloc (.cells (entA x0 x1 x2 d) 46) = w1 := ⟨_, rfl⟩
  have HK1 : Hid (Kp [] w w1) := by rw [← hw1]; exact (Kp.refl [] w).alloc _
  have HB : Hid (w1.heap[w.heap.size]? = some (.cells (entA x0 x1 x2 d) 46 (0, 0))) := by rw [← hw1]; exact World.alloc_heap_new w _
  obtain ⟨B, hB⟩ : ∃ B, w.heap.size = B := ⟨_, rfl⟩
  rw [hw1]
  rw [hB] at HB ⊢
  clear hw1
  subst hl
  go_loopw [1, 11] (fun b i wr => ∃ (k : Nat) (a' : Option Addr) (g' c' N : Nat), k ≤ 4 ∧ i = .int .i64 k ∧ b = .slice a' N c' ∧ (zs ++ fin10 (owE x0 x1 x2 d) k).length = N ∧ Kp [] w1 wr ∧ Row wr a' g' (zs ++ fin10 (owE x0 x1 x2 d) k)) (fun _ i _ => 4 - (intOf i).toNat)
  case atStart => exact ⟨0, a, g, cc, zs.length, by omega, rfl, rfl, by simp [fin10], Kp.refl _ _, by simpa [fin10] using (unhide HR).keep (unhide HK1) (by simp)⟩
  case round =>
    obtain ⟨k, a', g', c', N, hk, rfl, rfl, hN, hK, hr⟩ := hrel
    have HN := hide hN
    clear hN
    have HK := hide hK
    have HR1 := hide hr
    have HB1 := hide (hK.heap (unhide HB) (by simp))
    have HL1 := hide (((unhide HL).keep (unhide HK1).below).keep hK.below)
    clear hK hr
    by_cases hlt : k < 4
    · match k, hlt with
      | 0, _ =>
        have q0 : wr.cell? ⟨L, 0, none⟩ = some (.func (.func 115) #[] #[.pointer (some ⟨c 0, 0, none⟩)]) := cell_blk (unhide HL1).blk rfl
        have q1 : wr.cell? ⟨L, 1, none⟩ = some (.func (.func 116) #[] #[.pointer (some ⟨c 0, 0, none⟩)]) := cell_blk (unhide HL1).blk rfl
        have HLN : Hid (N ≤ 200) := by
          rw [← unhide HN, List.length_append]
          have : (fin10 (owE x0 x1 x2 d) 0).length = 0 := by simp [fin10]
          unfold Hid
          omega
        go_wp2_with fail
        refine (put_lowE 80 (c 0) B 0 x0 a' g' N c' (zs ++ fin10 (owE x0 x1 x2 d) 0) _ (by have := unhide HLN; omega) (unhide HN) ((unhide HR1).keep ((Kp.refl [] wr).alloc _) (by simp)) at_e0.1 at_e0.2 (((Kp.refl [] wr).alloc _).cell (unhide HL1).c0 (by simp)) (((Kp.refl [] wr).alloc _).cell (cell_blk (unhide HB1) rfl) (by simp))).mono ?_
        rintro x w2 ⟨q, rfl, hq, ho, hk2⟩
        have HR2 := hide (row_of_owns ho)
        have HK2 : Hid (Kp [] w1 w2) := ((unhide HK).alloc _).trans hk2 (by simp)
        clear ho hk2
        go_wp2
        go_roundw
        case rel => exact ⟨1, some ⟨q, 0, none⟩, q, _, _, by omega, by go_num, rfl, by rw [fin_succ _ rfl, ← List.append_assoc, List.length_append, unhide HN]; first | rfl | rw [by8_length] | (simp [ints, hd]), unhide HK2, by rw [fin_succ _ rfl, ← List.append_assoc]; exact unhide HR2⟩
        case measure => simp [intOf] <;> omega
      | 1, _ =>
        have q0 : wr.cell? ⟨L, 2, none⟩ = some (.func (.func 117) #[] #[.pointer (some ⟨c 1, 0, none⟩)]) := cell_blk (unhide HL1).blk rfl
        have q1 : wr.cell? ⟨L, 3, none⟩ = some (.func (.func 118) #[] #[.pointer (some ⟨c 1, 0, none⟩)]) := cell_blk (unhide HL1).blk rfl
        have HLN : Hid (N ≤ 200) := by
          rw [← unhide HN, List.length_append]
          have : (fin10 (owE x0 x1 x2 d) 1).length = 1 := by simp [fin10, owE, by8_length]
          unfold Hid
          omega
        go_wp2_with fail
        refine (put_numE 82 (c 1) B 1 x1 a' g' N c' (zs ++ fin10 (owE x0 x1 x2 d) 1) _ (by have := unhide HLN; omega) (unhide HN) ((unhide HR1).keep ((Kp.refl [] wr).alloc _) (by simp)) at_e1.1 at_e1.2 (((Kp.refl [] wr).alloc _).cell (unhide HL1).c1 (by simp)) (((Kp.refl [] wr).alloc _).cell (cell_blk (unhide HB1) rfl) (by simp))).mono ?_
        rintro x w2 ⟨q, rfl, hq, ho, hk2⟩
        have HR2 := hide (row_of_owns ho)
        have HK2 : Hid (Kp [] w1 w2) := ((unhide HK).alloc _).trans hk2 (by simp)
        clear ho hk2
        go_wp2
        go_roundw
        case rel => exact ⟨2, some ⟨q, 0, none⟩, q, _, _, by omega, by go_num, rfl, by rw [fin_succ _ rfl, ← List.append_assoc, List.length_append, unhide HN]; first | rfl | rw [by8_length] | (simp [ints, hd]), unhide HK2, by rw [fin_succ _ rfl, ← List.append_assoc]; exact unhide HR2⟩
        case measure => simp [intOf] <;> omega
      | 2, _ =>
        have q0 : wr.cell? ⟨L, 4, none⟩ = some (.func (.func 117) #[] #[.pointer (some ⟨c 2, 0, none⟩)]) := cell_blk (unhide HL1).blk rfl
        have q1 : wr.cell? ⟨L, 5, none⟩ = some (.func (.func 118) #[] #[.pointer (some ⟨c 2, 0, none⟩)]) := cell_blk (unhide HL1).blk rfl
        have HLN : Hid (N ≤ 200) := by
          rw [← unhide HN, List.length_append]
          have : (fin10 (owE x0 x1 x2 d) 2).length = 9 := by simp [fin10, owE, by8_length]
          unfold Hid
          omega
        go_wp2_with fail
        refine (put_numE 83 (c 2) B 2 x2 a' g' N c' (zs ++ fin10 (owE x0 x1 x2 d) 2) _ (by have := unhide HLN; omega) (unhide HN) ((unhide HR1).keep ((Kp.refl [] wr).alloc _) (by simp)) at_e2.1 at_e2.2 (((Kp.refl [] wr).alloc _).cell (unhide HL1).c2 (by simp)) (((Kp.refl [] wr).alloc _).cell (cell_blk (unhide HB1) rfl) (by simp))).mono ?_
        rintro x w2 ⟨q, rfl, hq, ho, hk2⟩
        have HR2 := hide (row_of_owns ho)
        have HK2 : Hid (Kp [] w1 w2) := ((unhide HK).alloc _).trans hk2 (by simp)
        clear ho hk2
        go_wp2
        go_roundw
        case rel => exact ⟨3, some ⟨q, 0, none⟩, q, _, _, by omega, by go_num, rfl, by rw [fin_succ _ rfl, ← List.append_assoc, List.length_append, unhide HN]; first | rfl | rw [by8_length] | (simp [ints, hd]), unhide HK2, by rw [fin_succ _ rfl, ← List.append_assoc]; exact unhide HR2⟩
        case measure => simp [intOf] <;> omega
      | 3, _ =>
        have q0 : wr.cell? ⟨L, 6, none⟩ = some (.func (.func 119) #[] #[.pointer (some ⟨c 3, 0, none⟩)]) := cell_blk (unhide HL1).blk rfl
        have q1 : wr.cell? ⟨L, 7, none⟩ = some (.func (.func 120) #[] #[.pointer (some ⟨c 3, 0, none⟩)]) := cell_blk (unhide HL1).blk rfl
        have HLN : Hid (N ≤ 200) := by
          rw [← unhide HN, List.length_append]
          have : (fin10 (owE x0 x1 x2 d) 3).length = 17 := by simp [fin10, owE, by8_length]
          unfold Hid
          omega
        go_wp2_with fail
        refine (put_sevE 85 (c 3) B 3 16 d a' g' N c' (zs ++ fin10 (owE x0 x1 x2 d) 3) _ (by have := unhide HLN; omega) (unhide HN) ((unhide HR1).keep ((Kp.refl [] wr).alloc _) (by simp)) at_e3.1 at_e3.2 (by omega) hd hdb (((Kp.refl [] wr).alloc _).cell (unhide HL1).c3 (by simp)) (fun j hj => ((Kp.refl [] wr).alloc _).cell (cell_blk (unhide HB1) ((entA_d _ _ _ _ j).trans (datL_get (by omega)))) (by simp))).mono ?_
        rintro x w2 ⟨a2, g2, c2, rfl, hr2, hk2⟩
        have HR2 := hide hr2
        have HK2 : Hid (Kp [] w1 w2) := ((unhide HK).alloc _).trans hk2 (by simp)
        clear hr2 hk2
        go_wp2
        go_roundw
        case rel => exact ⟨4, a2, g2, c2, _, by omega, by go_num, rfl, by rw [fin_succ _ rfl, ← List.append_assoc, List.length_append, unhide HN]; first | rfl | rw [by8_length] | (simp [ints, hd]), unhide HK2, by rw [fin_succ _ rfl, ← List.append_assoc]; exact unhide HR2⟩
        case measure => simp [intOf] <;> omega
    · have : k = 4 := by omega
      subst this
      go_wp2
      go_ret
      exact ⟨a', g', c', by rw [unhide HN]; rfl, unhide HR1, ((unhide HK1).trans (unhide HK) (by simp)).below⟩

set_option maxRecDepth 100000 in
set_option maxHeartbeats 8000000 in
theorem writeT_any (L : Nat) (c : Nat → Nat) (d : List Nat) (hd : d.length = 4) (hdb : ∀ j, cf d j < 256) (a : Option Addr) (g n cc : Nat) (zs : List Int) (w : World) (hn : n ≤ 100) (hl : zs.length = n) (hr : Row w a g zs) (hL : LayT w L c) :
    Calls Tryz.prog 54 #[.slice (some ⟨L, 0, none⟩) 1 1, .slice a n cc, .agg (tailA d)] w fun e w' => ∃ a' g' c', e = .returned (.slice a' (zs ++ fin10 (owT d) 1).length c') ∧ Row w' a' g' (zs ++ fin10 (owT d) 1) ∧ Below w.heap.size w w' := by
  have HR := hide hr
  have HL := hide hL
  clear hr hL
  go_enter Tryz.func54, Tryz.ntmps54
  go_wp2_with fail
  obtain ⟨w1, hw1⟩ : ∃ w1, w.alloc (.cells (tailA d) 103) = w1 := ⟨_, rfl⟩
  have HK1 : Hid (Kp [] w w1) := by rw [← hw1]; exact (Kp.refl [] w).alloc _
  have HB : Hid (w1.heap[w.heap.size]? = some (.cells (tailA d) 103 (0, 0))) := by rw [← hw1]; exact World.alloc_heap_new w _
  obtain ⟨B, hB⟩ : ∃ B, w.heap.size = B := ⟨_, rfl⟩
  rw [hw1]
  rw [hB] at HB ⊢
  clear hw1
  subst hl
  go_loopw [1, 11] (fun b i wr => ∃ (k : Nat) (a' : Option Addr) (g' c' N : Nat), k ≤ 1 ∧ i = .int .i64 k ∧ b = .slice a' N c' ∧ (zs ++ fin10 (owT d) k).length = N ∧ Kp [] w1 wr ∧ Row wr a' g' (zs ++ fin10 (owT d) k)) (fun _ i _ => 1 - (intOf i).toNat)
  case atStart => exact ⟨0, a, g, cc, zs.length, by omega, rfl, rfl, by simp [fin10], Kp.refl _ _, by simpa [fin10] using (unhide HR).keep (unhide HK1) (by simp)⟩
  case round =>
    obtain ⟨k, a', g', c', N, hk, rfl, rfl, hN, hK, hr⟩ := hrel
    have HN := hide hN
    clear hN
    have HK := hide hK
    have HR1 := hide hr
    have HB1 := hide (hK.heap (unhide HB) (by simp))
    have HL1 := hide (((unhide HL).keep (unhide HK1).below).keep hK.below)
    clear hK hr
    by_cases hlt : k < 1
    · match k, hlt with
      | 0, _ =>
        have q0 : wr.cell? ⟨L, 0, none⟩ = some (.func (.func 121) #[] #[.pointer (some ⟨c 0, 0, none⟩)]) := cell_blk (unhide HL1).blk rfl
        have q1 : wr.cell? ⟨L, 1, none⟩ = some (.func (.func 122) #[] #[.pointer (some ⟨c 0, 0, none⟩)]) := cell_blk (unhide HL1).blk rfl
        have HLN : Hid (N ≤ 200) := by
          rw [← unhide HN, List.length_append]
          have : (fin10 (owT d) 0).length = 0 := by simp [fin10]
          unfold Hid
          omega
        go_wp2_with fail
        refine (put_sevT 87 (c 0) B 0 4 d a' g' N c' (zs ++ fin10 (owT d) 0) _ (by have := unhide HLN; omega) (unhide HN) ((unhide HR1).keep ((Kp.refl [] wr).alloc _) (by simp)) at_t0.1 at_t0.2 (by omega) hd hdb (((Kp.refl [] wr).alloc _).cell (unhide HL1).c0 (by simp)) (fun j hj => ((Kp.refl [] wr).alloc _).cell (cell_blk (unhide HB1) ((by rw [tailA, Nat.zero_add, List.getElem?_toArray]; exact datL_get (by omega)))) (by simp))).mono ?_
        rintro x w2 ⟨a2, g2, c2, rfl, hr2, hk2⟩
        have HR2 := hide hr2
        have HK2 : Hid (Kp [] w1 w2) := ((unhide HK).alloc _).trans hk2 (by simp)
        clear hr2 hk2
        go_wp2
        go_roundw
        case rel => exact ⟨1, a2, g2, c2, _, by omega, by go_num, rfl, by rw [fin_succ _ rfl, ← List.append_assoc, List.length_append, unhide HN]; first | rfl | rw [by8_length] | (simp [ints, hd]), unhide HK2, by rw [fin_succ _ rfl, ← List.append_assoc]; exact unhide HR2⟩
        case measure => simp [intOf] <;> omega
    · have : k = 1 := by omega
      subst this
      go_wp2
      go_ret
      exact ⟨a', g', c', by rw [unhide HN]; rfl, unhide HR1, ((unhide HK1).trans (unhide HK) (by simp)).below⟩
end Go.Proofs.YtjdikhelabibnabGreat
