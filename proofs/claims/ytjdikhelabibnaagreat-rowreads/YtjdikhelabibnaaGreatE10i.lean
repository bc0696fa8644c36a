/-
  The places that are told; parts and layouts as they are made.
-/
import Derived.Test.YtjdikhelabibnaaGreatE10f
namespace Go.Proofs.YtjdikhelabibnaaGreat
open Go.RowKit Go.Shelf
attribute [local go_sem] Oper.semAt_some
theorem load_PH {W : World} {B o : Nat} {a b : Value} (k0 : W.cell? ⟨B, o, none⟩ = some a) (k1 : W.cell? ⟨B, o + 1, none⟩ = some b) : (loadVar 137 ⟨B, o, none⟩).run Tryz.prog W = .ok (.agg #[a, b]) W := by
  have hu := Tryz.underlying137
  simp [loadVar, isAgg, run_underlying hu, go_sem, k0, k1]
theorem load_PE {W : World} {B o : Nat} {a b : Value} (k0 : W.cell? ⟨B, o, none⟩ = some a) (k1 : W.cell? ⟨B, o + 1, none⟩ = some b) : (loadVar 145 ⟨B, o, none⟩).run Tryz.prog W = .ok (.agg #[a, b]) W := by
  have hu := Tryz.underlying145
  simp [loadVar, isAgg, run_underlying hu, go_sem, k0, k1]
theorem load_PT {W : World} {B o : Nat} {a b : Value} (k0 : W.cell? ⟨B, o, none⟩ = some a) (k1 : W.cell? ⟨B, o + 1, none⟩ = some b) : (loadVar 154 ⟨B, o, none⟩).run Tryz.prog W = .ok (.agg #[a, b]) W := by
  have hu := Tryz.underlying154
  simp [loadVar, isAgg, run_underlying hu, go_sem, k0, k1]
theorem at_h0 : Ent10 78 ∧ AtI 78 0 := by
  refine ⟨enters_of Tryz.func78 (by kernel_rfl) rfl, fun B W => ?_⟩
  go_enter Tryz.func78, Tryz.ntmps78
  go_wp2
  go_ret
  exact ⟨rfl, rfl⟩
theorem at_h1 : Ent10 80 ∧ AtI 80 1 := by
  refine ⟨enters_of Tryz.func80 (by kernel_rfl) rfl, fun B W => ?_⟩
  go_enter Tryz.func80, Tryz.ntmps80
  go_wp2
  go_ret
  exact ⟨rfl, rfl⟩
theorem at_h2 : Ent10 81 ∧ AtI 81 2 := by
  refine ⟨enters_of Tryz.func81 (by kernel_rfl) rfl, fun B W => ?_⟩
  go_enter Tryz.func81, Tryz.ntmps81
  go_wp2
  go_ret
  exact ⟨rfl, rfl⟩
theorem at_h3 : Ent10 82 ∧ AtI 82 3 := by
  refine ⟨enters_of Tryz.func82 (by kernel_rfl) rfl, fun B W => ?_⟩
  go_enter Tryz.func82, Tryz.ntmps82
  go_wp2
  go_ret
  exact ⟨rfl, rfl⟩
theorem at_e0 : Ent10 84 ∧ AtI 84 0 := by
  refine ⟨enters_of Tryz.func84 (by kernel_rfl) rfl, fun B W => ?_⟩
  go_enter Tryz.func84, Tryz.ntmps84
  go_wp2
  go_ret
  exact ⟨rfl, rfl⟩
theorem at_e1 : Ent10 86 ∧ AtI 86 1 := by
  refine ⟨enters_of Tryz.func86 (by kernel_rfl) rfl, fun B W => ?_⟩
  go_enter Tryz.func86, Tryz.ntmps86
  go_wp2
  go_ret
  exact ⟨rfl, rfl⟩
theorem at_e2 : Ent10 87 ∧ AtI 87 2 := by
  refine ⟨enters_of Tryz.func87 (by kernel_rfl) rfl, fun B W => ?_⟩
  go_enter Tryz.func87, Tryz.ntmps87
  go_wp2
  go_ret
  exact ⟨rfl, rfl⟩
theorem at_e3 : Ent10 89 ∧ AtS 89 3 16 := by
  refine ⟨enters_of Tryz.func89 (by kernel_rfl) rfl, fun B W => ?_⟩
  go_enter Tryz.func89, Tryz.ntmps89
  go_wp2
  go_ret
  exact ⟨rfl, rfl⟩
theorem at_t0 : Ent10 91 ∧ AtS 91 0 4 := by
  refine ⟨enters_of Tryz.func91 (by kernel_rfl) rfl, fun B W => ?_⟩
  go_enter Tryz.func91, Tryz.ntmps91
  go_wp2
  go_ret
  exact ⟨rfl, rfl⟩

set_option maxRecDepth 100000 in
set_option maxHeartbeats 4000000 in
theorem mk_numH (f : Nat) (w : World) : Calls Tryz.prog 77 #[.func (.func f) #[] #[]] w fun e w' =>
    e = .returned (.agg #[.func (.func 114) #[] #[.pointer (some ⟨w.heap.size, 0, none⟩)], .func (.func 116) #[] #[.pointer (some ⟨w.heap.size, 0, none⟩)]]) ∧
      w'.cell? ⟨w.heap.size, 0, none⟩ = some (.func (.func f) #[] #[]) ∧ w.heap.size < w'.heap.size ∧ Below w.heap.size w w' := by
  have hmf : ∀ (fn : Fn) (first cap : Array Value) (w : World), (Instr.makeFunc fn first cap).run Tryz.prog w = .ok (.func fn first cap) w := fun _ _ _ _ => rfl
  go_enter Tryz.func77, Tryz.ntmps77
  go_wp2
  obtain ⟨w1, hw1⟩ : ∃ w1, w.alloc (.cells #[.func (.func f) #[] #[]] 141) = w1 := ⟨_, rfl⟩
  rw [hw1]
  have hz : w1.heap.size = w.heap.size + 1 := by rw [← hw1]; simp
  rw [← hz]
  refine bodyPost_ret (results_cell7 rfl _ _ ⟨w1.heap.size, 0, none⟩ _ rfl (load_PH (cell_blk (World.alloc_heap_new w1 _) rfl) (cell_blk (World.alloc_heap_new w1 _) rfl))) rfl ?_
  exact ⟨rfl, by rw [World.cell?_of_block (Below.heap_alloc _ _ _ (by simp; omega)), ← hw1]; exact (cell_new' w _ _).1, by simp; omega, by rw [← hw1]; exact ((Below.refl _ w).alloc (Nat.le_refl _) _).alloc (by simp) _⟩

set_option maxRecDepth 100000 in
set_option maxHeartbeats 4000000 in
theorem mk_lowH (f : Nat) (w : World) : Calls Tryz.prog 79 #[.func (.func f) #[] #[]] w fun e w' =>
    e = .returned (.agg #[.func (.func 118) #[] #[.pointer (some ⟨w.heap.size, 0, none⟩)], .func (.func 120) #[] #[.pointer (some ⟨w.heap.size, 0, none⟩)]]) ∧
      w'.cell? ⟨w.heap.size, 0, none⟩ = some (.func (.func f) #[] #[]) ∧ w.heap.size < w'.heap.size ∧ Below w.heap.size w w' := by
  have hmf : ∀ (fn : Fn) (first cap : Array Value) (w : World), (Instr.makeFunc fn first cap).run Tryz.prog w = .ok (.func fn first cap) w := fun _ _ _ _ => rfl
  go_enter Tryz.func79, Tryz.ntmps79
  go_wp2
  obtain ⟨w1, hw1⟩ : ∃ w1, w.alloc (.cells #[.func (.func f) #[] #[]] 141) = w1 := ⟨_, rfl⟩
  rw [hw1]
  have hz : w1.heap.size = w.heap.size + 1 := by rw [← hw1]; simp
  rw [← hz]
  refine bodyPost_ret (results_cell7 rfl _ _ ⟨w1.heap.size, 0, none⟩ _ rfl (load_PH (cell_blk (World.alloc_heap_new w1 _) rfl) (cell_blk (World.alloc_heap_new w1 _) rfl))) rfl ?_
  exact ⟨rfl, by rw [World.cell?_of_block (Below.heap_alloc _ _ _ (by simp; omega)), ← hw1]; exact (cell_new' w _ _).1, by simp; omega, by rw [← hw1]; exact ((Below.refl _ w).alloc (Nat.le_refl _) _).alloc (by simp) _⟩

set_option maxRecDepth 100000 in
set_option maxHeartbeats 4000000 in
theorem mk_numE (f : Nat) (w : World) : Calls Tryz.prog 85 #[.func (.func f) #[] #[]] w fun e w' =>
    e = .returned (.agg #[.func (.func 124) #[] #[.pointer (some ⟨w.heap.size, 0, none⟩)], .func (.func 125) #[] #[.pointer (some ⟨w.heap.size, 0, none⟩)]]) ∧
      w'.cell? ⟨w.heap.size, 0, none⟩ = some (.func (.func f) #[] #[]) ∧ w.heap.size < w'.heap.size ∧ Below w.heap.size w w' := by
  have hmf : ∀ (fn : Fn) (first cap : Array Value) (w : World), (Instr.makeFunc fn first cap).run Tryz.prog w = .ok (.func fn first cap) w := fun _ _ _ _ => rfl
  go_enter Tryz.func85, Tryz.ntmps85
  go_wp2
  obtain ⟨w1, hw1⟩ : ∃ w1, w.alloc (.cells #[.func (.func f) #[] #[]] 148) = w1 := ⟨_, rfl⟩
  rw [hw1]
  have hz : w1.heap.size = w.heap.size + 1 := by rw [← hw1]; simp
  rw [← hz]
  refine bodyPost_ret (results_cell7 rfl _ _ ⟨w1.heap.size, 0, none⟩ _ rfl (load_PE (cell_blk (World.alloc_heap_new w1 _) rfl) (cell_blk (World.alloc_heap_new w1 _) rfl))) rfl ?_
  exact ⟨rfl, by rw [World.cell?_of_block (Below.heap_alloc _ _ _ (by simp; omega)), ← hw1]; exact (cell_new' w _ _).1, by simp; omega, by rw [← hw1]; exact ((Below.refl _ w).alloc (Nat.le_refl _) _).alloc (by simp) _⟩

set_option maxRecDepth 100000 in
set_option maxHeartbeats 4000000 in
theorem mk_lowE (f : Nat) (w : World) : Calls Tryz.prog 83 #[.func (.func f) #[] #[]] w fun e w' =>
    e = .returned (.agg #[.func (.func 122) #[] #[.pointer (some ⟨w.heap.size, 0, none⟩)], .func (.func 123) #[] #[.pointer (some ⟨w.heap.size, 0, none⟩)]]) ∧
      w'.cell? ⟨w.heap.size, 0, none⟩ = some (.func (.func f) #[] #[]) ∧ w.heap.size < w'.heap.size ∧ Below w.heap.size w w' := by
  have hmf : ∀ (fn : Fn) (first cap : Array Value) (w : World), (Instr.makeFunc fn first cap).run Tryz.prog w = .ok (.func fn first cap) w := fun _ _ _ _ => rfl
  go_enter Tryz.func83, Tryz.ntmps83
  go_wp2
  obtain ⟨w1, hw1⟩ : ∃ w1, w.alloc (.cells #[.func (.func f) #[] #[]] 148) = w1 := ⟨_, rfl⟩
  rw [hw1]
  have hz : w1.heap.size = w.heap.size + 1 := by rw [← hw1]; simp
  rw [← hz]
  refine bodyPost_ret (results_cell7 rfl _ _ ⟨w1.heap.size, 0, none⟩ _ rfl (load_PE (cell_blk (World.alloc_heap_new w1 _) rfl) (cell_blk (World.alloc_heap_new w1 _) rfl))) rfl ?_
  exact ⟨rfl, by rw [World.cell?_of_block (Below.heap_alloc _ _ _ (by simp; omega)), ← hw1]; exact (cell_new' w _ _).1, by simp; omega, by rw [← hw1]; exact ((Below.refl _ w).alloc (Nat.le_refl _) _).alloc (by simp) _⟩

set_option maxRecDepth 100000 in
set_option maxHeartbeats 4000000 in
theorem mk_sevE (f : Nat) (w : World) : Calls Tryz.prog 88 #[.func (.func f) #[] #[]] w fun e w' =>
    e = .returned (.agg #[.func (.func 126) #[] #[.pointer (some ⟨w.heap.size, 0, none⟩)], .func (.func 127) #[] #[.pointer (some ⟨w.heap.size, 0, none⟩)]]) ∧
      w'.cell? ⟨w.heap.size, 0, none⟩ = some (.func (.func f) #[] #[]) ∧ w.heap.size < w'.heap.size ∧ Below w.heap.size w w' := by
  have hmf : ∀ (fn : Fn) (first cap : Array Value) (w : World), (Instr.makeFunc fn first cap).run Tryz.prog w = .ok (.func fn first cap) w := fun _ _ _ _ => rfl
  go_enter Tryz.func88, Tryz.ntmps88
  go_wp2
  obtain ⟨w1, hw1⟩ : ∃ w1, w.alloc (.cells #[.func (.func f) #[] #[]] 150) = w1 := ⟨_, rfl⟩
  rw [hw1]
  have hz : w1.heap.size = w.heap.size + 1 := by rw [← hw1]; simp
  rw [← hz]
  refine bodyPost_ret (results_cell7 rfl _ _ ⟨w1.heap.size, 0, none⟩ _ rfl (load_PE (cell_blk (World.alloc_heap_new w1 _) rfl) (cell_blk (World.alloc_heap_new w1 _) rfl))) rfl ?_
  exact ⟨rfl, by rw [World.cell?_of_block (Below.heap_alloc _ _ _ (by simp; omega)), ← hw1]; exact (cell_new' w _ _).1, by simp; omega, by rw [← hw1]; exact ((Below.refl _ w).alloc (Nat.le_refl _) _).alloc (by simp) _⟩

set_option maxRecDepth 100000 in
set_option maxHeartbeats 4000000 in
theorem mk_sevT (f : Nat) (w : World) : Calls Tryz.prog 90 #[.func (.func f) #[] #[]] w fun e w' =>
    e = .returned (.agg #[.func (.func 128) #[] #[.pointer (some ⟨w.heap.size, 0, none⟩)], .func (.func 129) #[] #[.pointer (some ⟨w.heap.size, 0, none⟩)]]) ∧
      w'.cell? ⟨w.heap.size, 0, none⟩ = some (.func (.func f) #[] #[]) ∧ w.heap.size < w'.heap.size ∧ Below w.heap.size w w' := by
  have hmf : ∀ (fn : Fn) (first cap : Array Value) (w : World), (Instr.makeFunc fn first cap).run Tryz.prog w = .ok (.func fn first cap) w := fun _ _ _ _ => rfl
  go_enter Tryz.func90, Tryz.ntmps90
  go_wp2
  obtain ⟨w1, hw1⟩ : ∃ w1, w.alloc (.cells #[.func (.func f) #[] #[]] 157) = w1 := ⟨_, rfl⟩
  rw [hw1]
  have hz : w1.heap.size = w.heap.size + 1 := by rw [← hw1]; simp
  rw [← hz]
  refine bodyPost_ret (results_cell7 rfl _ _ ⟨w1.heap.size, 0, none⟩ _ rfl (load_PT (cell_blk (World.alloc_heap_new w1 _) rfl) (cell_blk (World.alloc_heap_new w1 _) rfl))) rfl ?_
  exact ⟨rfl, by rw [World.cell?_of_block (Below.heap_alloc _ _ _ (by simp; omega)), ← hw1]; exact (cell_new' w _ _).1, by simp; omega, by rw [← hw1]; exact ((Below.refl _ w).alloc (Nat.le_refl _) _).alloc (by simp) _⟩

/-- A layout as it is made: its parts, and what each tells places by. -/
structure LayH (w : World) (L : Nat) (c : Nat → Nat) : Prop where
  blk : w.heap[L]? = some (.cells #[.func (.func 114) #[] #[.pointer (some ⟨c 0, 0, none⟩)], .func (.func 116) #[] #[.pointer (some ⟨c 0, 0, none⟩)], .func (.func 118) #[] #[.pointer (some ⟨c 1, 0, none⟩)], .func (.func 120) #[] #[.pointer (some ⟨c 1, 0, none⟩)], .func (.func 118) #[] #[.pointer (some ⟨c 2, 0, none⟩)], .func (.func 120) #[] #[.pointer (some ⟨c 2, 0, none⟩)], .func (.func 118) #[] #[.pointer (some ⟨c 3, 0, none⟩)], .func (.func 120) #[] #[.pointer (some ⟨c 3, 0, none⟩)]] 137 (0, 0))
  c0 : w.cell? ⟨c 0, 0, none⟩ = some (.func (.func 78) #[] #[])
  c1 : w.cell? ⟨c 1, 0, none⟩ = some (.func (.func 80) #[] #[])
  c2 : w.cell? ⟨c 2, 0, none⟩ = some (.func (.func 81) #[] #[])
  c3 : w.cell? ⟨c 3, 0, none⟩ = some (.func (.func 82) #[] #[])
theorem LayH.keep {w w' : World} {L : Nat} {c : Nat → Nat} (h : LayH w L c) (k : Below w.heap.size w w') : LayH w' L c := by
  have hc : ∀ (p : Addr) v, w.cell? p = some v → w'.cell? p = some v := fun p v h => (World.cell?_of_block (k.block _ (block_lt_of_cell h))).trans h
  exact ⟨(k.block _ (lt_of_block h.blk)).trans h.blk, hc _ _ h.c0, hc _ _ h.c1, hc _ _ h.c2, hc _ _ h.c3⟩

set_option maxRecDepth 100000 in
set_option maxHeartbeats 4000000 in
theorem layH_any (w : World) : Calls Tryz.prog 48 #[] w fun e w' => ∃ L c, e = .returned (.slice (some ⟨L, 0, none⟩) 4 4) ∧ LayH w' L c ∧ w.heap.size ≤ L ∧ (∀ i, i < 4 → w.heap.size ≤ c i) ∧ Below w.heap.size w w' := by
  go_enter Tryz.func48, Tryz.ntmps48
  go_wp2_with fail
  refine (mk_numH 78 _).mono ?_
  rintro x w1 ⟨rfl, hc0, hz0, hk0⟩
  have HC0 := hide hc0
  have HK0 := hide hk0
  clear hc0 hk0
  go_wp2_with fail
  refine (mk_lowH 80 _).mono ?_
  rintro x w2 ⟨rfl, hc1, hz1, hk1⟩
  have HC1 := hide hc1
  have HK1 := hide hk1
  clear hc1 hk1
  go_wp2_with fail
  refine (mk_lowH 81 _).mono ?_
  rintro x w3 ⟨rfl, hc2, hz2, hk2⟩
  have HC2 := hide hc2
  have HK2 := hide hk2
  clear hc2 hk2
  go_wp2_with fail
  refine (mk_lowH 82 _).mono ?_
  rintro x w4 ⟨rfl, hc3, hz3, hk3⟩
  have HC3 := hide hc3
  have HK3 := hide hk3
  clear hc3 hk3
  go_wp2
  go_ret
  have hcell : ∀ (A B : World), Below A.heap.size A B → ∀ (p : Addr) v, A.cell? p = some v → B.cell? p = some v := fun A B k p v h => (World.cell?_of_block (k.block _ (block_lt_of_cell h))).trans h
  have kl : Below w4.heap.size w4 (w4.alloc (.cells #[.func (.func 114) #[] #[.pointer (some ⟨w.heap.size, 0, none⟩)], .func (.func 116) #[] #[.pointer (some ⟨w.heap.size, 0, none⟩)], .func (.func 118) #[] #[.pointer (some ⟨w1.heap.size, 0, none⟩)], .func (.func 120) #[] #[.pointer (some ⟨w1.heap.size, 0, none⟩)], .func (.func 118) #[] #[.pointer (some ⟨w2.heap.size, 0, none⟩)], .func (.func 120) #[] #[.pointer (some ⟨w2.heap.size, 0, none⟩)], .func (.func 118) #[] #[.pointer (some ⟨w3.heap.size, 0, none⟩)], .func (.func 120) #[] #[.pointer (some ⟨w3.heap.size, 0, none⟩)]] 137)) := (Below.refl _ _).alloc (Nat.le_refl _) _
  have k3 := kl
  have k2 := (unhide HK3).trans (k3.mono (by omega))
  have k1 := (unhide HK2).trans (k2.mono (by omega))
  have k0 := (unhide HK1).trans (k1.mono (by omega))
  exact ⟨w4.heap.size, fun i => match i with | 0 => w.heap.size | 1 => w1.heap.size | 2 => w2.heap.size | _ => w3.heap.size, rfl, ⟨World.alloc_heap_new w4 _, hcell _ _ k0 _ _ (unhide HC0), hcell _ _ k1 _ _ (unhide HC1), hcell _ _ k2 _ _ (unhide HC2), hcell _ _ k3 _ _ (unhide HC3)⟩, by omega, fun i hi => match i, hi with | 0, _ => (by show w.heap.size ≤ w.heap.size; omega) | 1, _ => (by show w.heap.size ≤ w1.heap.size; omega) | 2, _ => (by show w.heap.size ≤ w2.heap.size; omega) | 3, _ => (by show w.heap.size ≤ w3.heap.size; omega), (unhide HK0).trans (k0.mono (by omega))⟩

/-- A layout as it is made: its parts, and what each tells places by. -/
structure LayE (w : World) (L : Nat) (c : Nat → Nat) : Prop where
  blk : w.heap[L]? = some (.cells #[.func (.func 122) #[] #[.pointer (some ⟨c 0, 0, none⟩)], .func (.func 123) #[] #[.pointer (some ⟨c 0, 0, none⟩)], .func (.func 124) #[] #[.pointer (some ⟨c 1, 0, none⟩)], .func (.func 125) #[] #[.pointer (some ⟨c 1, 0, none⟩)], .func (.func 124) #[] #[.pointer (some ⟨c 2, 0, none⟩)], .func (.func 125) #[] #[.pointer (some ⟨c 2, 0, none⟩)], .func (.func 126) #[] #[.pointer (some ⟨c 3, 0, none⟩)], .func (.func 127) #[] #[.pointer (some ⟨c 3, 0, none⟩)]] 145 (0, 0))
  c0 : w.cell? ⟨c 0, 0, none⟩ = some (.func (.func 84) #[] #[])
  c1 : w.cell? ⟨c 1, 0, none⟩ = some (.func (.func 86) #[] #[])
  c2 : w.cell? ⟨c 2, 0, none⟩ = some (.func (.func 87) #[] #[])
  c3 : w.cell? ⟨c 3, 0, none⟩ = some (.func (.func 89) #[] #[])
theorem LayE.keep {w w' : World} {L : Nat} {c : Nat → Nat} (h : LayE w L c) (k : Below w.heap.size w w') : LayE w' L c := by
  have hc : ∀ (p : Addr) v, w.cell? p = some v → w'.cell? p = some v := fun p v h => (World.cell?_of_block (k.block _ (block_lt_of_cell h))).trans h
  exact ⟨(k.block _ (lt_of_block h.blk)).trans h.blk, hc _ _ h.c0, hc _ _ h.c1, hc _ _ h.c2, hc _ _ h.c3⟩

set_option maxRecDepth 100000 in
set_option maxHeartbeats 4000000 in
theorem layE_any (w : World) : Calls Tryz.prog 50 #[] w fun e w' => ∃ L c, e = .returned (.slice (some ⟨L, 0, none⟩) 4 4) ∧ LayE w' L c ∧ w.heap.size ≤ L ∧ (∀ i, i < 4 → w.heap.size ≤ c i) ∧ Below w.heap.size w w' := by
  go_enter Tryz.func50, Tryz.ntmps50
  go_wp2_with fail
  refine (mk_lowE 84 _).mono ?_
  rintro x w1 ⟨rfl, hc0, hz0, hk0⟩
  have HC0 := hide hc0
  have HK0 := hide hk0
  clear hc0 hk0
  go_wp2_with fail
  refine (mk_numE 86 _).mono ?_
  rintro x w2 ⟨rfl, hc1, hz1, hk1⟩
  have HC1 := hide hc1
  have HK1 := hide hk1
  clear hc1 hk1
  go_wp2_with fail
  refine (mk_numE 87 _).mono ?_
  rintro x w3 ⟨rfl, hc2, hz2, hk2⟩
  have HC2 := hide hc2
  have HK2 := hide hk2
  clear hc2 hk2
  go_wp2_with fail
  refine (mk_sevE 89 _).mono ?_
  rintro x w4 ⟨rfl, hc3, hz3, hk3⟩
  have HC3 := hide hc3
  have HK3 := hide hk3
  clear hc3 hk3
  go_wp2
  go_ret
  have hcell : ∀ (A B : World), Below A.heap.size A B → ∀ (p : Addr) v, A.cell? p = some v → B.cell? p = some v := fun A B k p v h => (World.cell?_of_block (k.block _ (block_lt_of_cell h))).trans h
  have kl : Below w4.heap.size w4 (w4.alloc (.cells #[.func (.func 122) #[] #[.pointer (some ⟨w.heap.size, 0, none⟩)], .func (.func 123) #[] #[.pointer (some ⟨w.heap.size, 0, none⟩)], .func (.func 124) #[] #[.pointer (some ⟨w1.heap.size, 0, none⟩)], .func (.func 125) #[] #[.pointer (some ⟨w1.heap.size, 0, none⟩)], .func (.func 124) #[] #[.pointer (some ⟨w2.heap.size, 0, none⟩)], .func (.func 125) #[] #[.pointer (some ⟨w2.heap.size, 0, none⟩)], .func (.func 126) #[] #[.pointer (some ⟨w3.heap.size, 0, none⟩)], .func (.func 127) #[] #[.pointer (some ⟨w3.heap.size, 0, none⟩)]] 145)) := (Below.refl _ _).alloc (Nat.le_refl _) _
  have k3 := kl
  have k2 := (unhide HK3).trans (k3.mono (by omega))
  have k1 := (unhide HK2).trans (k2.mono (by omega))
  have k0 := (unhide HK1).trans (k1.mono (by omega))
  exact ⟨w4.heap.size, fun i => match i with | 0 => w.heap.size | 1 => w1.heap.size | 2 => w2.heap.size | _ => w3.heap.size, rfl, ⟨World.alloc_heap_new w4 _, hcell _ _ k0 _ _ (unhide HC0), hcell _ _ k1 _ _ (unhide HC1), hcell _ _ k2 _ _ (unhide HC2), hcell _ _ k3 _ _ (unhide HC3)⟩, by omega, fun i hi => match i, hi with | 0, _ => (by show w.heap.size ≤ w.heap.size; omega) | 1, _ => (by show w.heap.size ≤ w1.heap.size; omega) | 2, _ => (by show w.heap.size ≤ w2.heap.size; omega) | 3, _ => (by show w.heap.size ≤ w3.heap.size; omega), (unhide HK0).trans (k0.mono (by omega))⟩

/-- A layout as it is made: its parts, and what each tells places by. -/
structure LayT (w : World) (L : Nat) (c : Nat → Nat) : Prop where
  blk : w.heap[L]? = some (.cells #[.func (.func 128) #[] #[.pointer (some ⟨c 0, 0, none⟩)], .func (.func 129) #[] #[.pointer (some ⟨c 0, 0, none⟩)]] 154 (0, 0))
  c0 : w.cell? ⟨c 0, 0, none⟩ = some (.func (.func 91) #[] #[])
theorem LayT.keep {w w' : World} {L : Nat} {c : Nat → Nat} (h : LayT w L c) (k : Below w.heap.size w w') : LayT w' L c := by
  have hc : ∀ (p : Addr) v, w.cell? p = some v → w'.cell? p = some v := fun p v h => (World.cell?_of_block (k.block _ (block_lt_of_cell h))).trans h
  exact ⟨(k.block _ (lt_of_block h.blk)).trans h.blk, hc _ _ h.c0⟩

set_option maxRecDepth 100000 in
set_option maxHeartbeats 4000000 in
theorem layT_any (w : World) : Calls Tryz.prog 52 #[] w fun e w' => ∃ L c, e = .returned (.slice (some ⟨L, 0, none⟩) 1 1) ∧ LayT w' L c ∧ w.heap.size ≤ L ∧ (∀ i, i < 1 → w.heap.size ≤ c i) ∧ Below w.heap.size w w' := by
  go_enter Tryz.func52, Tryz.ntmps52
  go_wp2_with fail
  refine (mk_sevT 91 _).mono ?_
  rintro x w1 ⟨rfl, hc0, hz0, hk0⟩
  have HC0 := hide hc0
  have HK0 := hide hk0
  clear hc0 hk0
  go_wp2
  go_ret
  have hcell : ∀ (A B : World), Below A.heap.size A B → ∀ (p : Addr) v, A.cell? p = some v → B.cell? p = some v := fun A B k p v h => (World.cell?_of_block (k.block _ (block_lt_of_cell h))).trans h
  have kl : Below w1.heap.size w1 (w1.alloc (.cells #[.func (.func 128) #[] #[.pointer (some ⟨w.heap.size, 0, none⟩)], .func (.func 129) #[] #[.pointer (some ⟨w.heap.size, 0, none⟩)]] 154)) := (Below.refl _ _).alloc (Nat.le_refl _) _
  have k0 := kl
  exact ⟨w1.heap.size, fun i => match i with | _ => w.heap.size, rfl, ⟨World.alloc_heap_new w1 _, hcell _ _ k0 _ _ (unhide HC0)⟩, by omega, fun i hi => match i, hi with | 0, _ => (by show w.heap.size ≤ w.heap.size; omega), (unhide HK0).trans (k0.mono (by omega))⟩
end Go.Proofs.YtjdikhelabibnaaGreat
