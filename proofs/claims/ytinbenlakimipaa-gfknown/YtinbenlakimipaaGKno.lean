/-
  The walk of GfKnown.
-/
import Derived.Test.YtinbenlakimipaaGlem
import Derived.Deep.RegionHeld3
import Derived.Deep.DrawnRows
namespace Go.Proofs.Ytinbenlakimipaa
open Go.RowKit
attribute [local go_sem ↓] Go.wp_at_zero Go.wp_at_succ

theorem row_new (w : World) (cs : Array Value) (t : TypeId) (j : Nat) (v : Value) (h : cs[j]? = some v) : (w.alloc (.cells cs t)).cell? ⟨w.heap.size, j, none⟩ = some v := by
  have h1 := World.alloc_heap_new w (.cells cs t)
  unfold World.cell?
  dsimp only
  rw [h1]
  exact h

theorem row_on {w : World} {p : Addr} {v : Value} (o : Obj) (h : w.cell? p = some v) : (w.alloc o).cell? p = some v :=
  (World.cell?_of_block (Below.heap_alloc w o p.block (block_lt_of_cell h))).trans h

/-- The world with the five rows in it. -/
def kW (w : World) : World := (((((w.alloc (Obj.cells #[Value.int IntKind.u8 2, Value.int IntKind.u8 3, Value.int IntKind.u8 4, Value.int IntKind.u8 128, Value.int IntKind.u8 255, Value.int IntKind.u8 1, Value.int IntKind.u8 0, Value.int IntKind.u8 16] 5)).alloc (Obj.cells #[Value.int IntKind.u8 2, Value.int IntKind.u8 3, Value.int IntKind.u8 64, Value.int IntKind.u8 2, Value.int IntKind.u8 1, Value.int IntKind.u8 200, Value.int IntKind.u8 77, Value.int IntKind.u8 16] 5)).alloc (Obj.cells #[Value.int IntKind.u8 4, Value.int IntKind.u8 5, Value.int IntKind.u8 29, Value.int IntKind.u8 29, Value.int IntKind.u8 255, Value.int IntKind.u8 200, Value.int IntKind.u8 0, Value.int IntKind.u8 29] 5)).alloc (Obj.cells #[Value.int IntKind.i64 0, Value.int IntKind.i64 1, Value.int IntKind.i64 7, Value.int IntKind.i64 8, Value.int IntKind.i64 9, Value.int IntKind.i64 255, Value.int IntKind.i64 (-1), Value.int IntKind.i64 254] 3)).alloc (Obj.cells #[Value.int IntKind.u8 1, Value.int IntKind.u8 2, Value.int IntKind.u8 128, Value.int IntKind.u8 29, Value.int IntKind.u8 58, Value.int IntKind.u8 1, Value.int IntKind.u8 142, Value.int IntKind.u8 142] 5))

/-- Five rows of eight: what stands in place j of each, and what is known of it. -/
theorem known_cells (w : World) (j : Nat) (hj : j < 8) : ∃ (va vb vw : Nat) (vn : Int) (vp : Nat), va < 256 ∧ vb < 256 ∧ vw < 256 ∧ -1 ≤ vn ∧ vn ≤ 255 ∧ vp < 256 ∧ gmul va vb = vw ∧ X vn = vp ∧
    (kW w).cell? ⟨w.heap.size, j, none⟩ = some (.int .u8 va) ∧ (kW w).cell? ⟨w.heap.size + 1, j, none⟩ = some (.int .u8 vb) ∧ (kW w).cell? ⟨w.heap.size + 1 + 1, j, none⟩ = some (.int .u8 vw) ∧
    (kW w).cell? ⟨w.heap.size + 1 + 1 + 1, j, none⟩ = some (.int .i64 vn) ∧ (kW w).cell? ⟨w.heap.size + 1 + 1 + 1 + 1, j, none⟩ = some (.int .u8 vp) := by
  have h0 : ∀ j v, #[Value.int IntKind.u8 2, Value.int IntKind.u8 3, Value.int IntKind.u8 4, Value.int IntKind.u8 128, Value.int IntKind.u8 255, Value.int IntKind.u8 1, Value.int IntKind.u8 0, Value.int IntKind.u8 16][j]? = some v → (kW w).cell? ⟨w.heap.size, j, none⟩ = some v := by
    intro j v h
    have e := row_new w #[Value.int IntKind.u8 2, Value.int IntKind.u8 3, Value.int IntKind.u8 4, Value.int IntKind.u8 128, Value.int IntKind.u8 255, Value.int IntKind.u8 1, Value.int IntKind.u8 0, Value.int IntKind.u8 16] 5 j v h
    exact row_on _ (row_on _ (row_on _ (row_on _ (e))))
  have h1 : ∀ j v, #[Value.int IntKind.u8 2, Value.int IntKind.u8 3, Value.int IntKind.u8 64, Value.int IntKind.u8 2, Value.int IntKind.u8 1, Value.int IntKind.u8 200, Value.int IntKind.u8 77, Value.int IntKind.u8 16][j]? = some v → (kW w).cell? ⟨w.heap.size + 1, j, none⟩ = some v := by
    intro j v h
    have e := row_new (w.alloc (Obj.cells #[Value.int IntKind.u8 2, Value.int IntKind.u8 3, Value.int IntKind.u8 4, Value.int IntKind.u8 128, Value.int IntKind.u8 255, Value.int IntKind.u8 1, Value.int IntKind.u8 0, Value.int IntKind.u8 16] 5)) #[Value.int IntKind.u8 2, Value.int IntKind.u8 3, Value.int IntKind.u8 64, Value.int IntKind.u8 2, Value.int IntKind.u8 1, Value.int IntKind.u8 200, Value.int IntKind.u8 77, Value.int IntKind.u8 16] 5 j v h
    simp only [World.size_alloc] at e
    exact row_on _ (row_on _ (row_on _ (e)))
  have h2 : ∀ j v, #[Value.int IntKind.u8 4, Value.int IntKind.u8 5, Value.int IntKind.u8 29, Value.int IntKind.u8 29, Value.int IntKind.u8 255, Value.int IntKind.u8 200, Value.int IntKind.u8 0, Value.int IntKind.u8 29][j]? = some v → (kW w).cell? ⟨w.heap.size + 1 + 1, j, none⟩ = some v := by
    intro j v h
    have e := row_new ((w.alloc (Obj.cells #[Value.int IntKind.u8 2, Value.int IntKind.u8 3, Value.int IntKind.u8 4, Value.int IntKind.u8 128, Value.int IntKind.u8 255, Value.int IntKind.u8 1, Value.int IntKind.u8 0, Value.int IntKind.u8 16] 5)).alloc (Obj.cells #[Value.int IntKind.u8 2, Value.int IntKind.u8 3, Value.int IntKind.u8 64, Value.int IntKind.u8 2, Value.int IntKind.u8 1, Value.int IntKind.u8 200, Value.int IntKind.u8 77, Value.int IntKind.u8 16] 5)) #[Value.int IntKind.u8 4, Value.int IntKind.u8 5, Value.int IntKind.u8 29, Value.int IntKind.u8 29, Value.int IntKind.u8 255, Value.int IntKind.u8 200, Value.int IntKind.u8 0, Value.int IntKind.u8 29] 5 j v h
    simp only [World.size_alloc] at e
    exact row_on _ (row_on _ (e))
  have h3 : ∀ j v, #[Value.int IntKind.i64 0, Value.int IntKind.i64 1, Value.int IntKind.i64 7, Value.int IntKind.i64 8, Value.int IntKind.i64 9, Value.int IntKind.i64 255, Value.int IntKind.i64 (-1), Value.int IntKind.i64 254][j]? = some v → (kW w).cell? ⟨w.heap.size + 1 + 1 + 1, j, none⟩ = some v := by
    intro j v h
    have e := row_new (((w.alloc (Obj.cells #[Value.int IntKind.u8 2, Value.int IntKind.u8 3, Value.int IntKind.u8 4, Value.int IntKind.u8 128, Value.int IntKind.u8 255, Value.int IntKind.u8 1, Value.int IntKind.u8 0, Value.int IntKind.u8 16] 5)).alloc (Obj.cells #[Value.int IntKind.u8 2, Value.int IntKind.u8 3, Value.int IntKind.u8 64, Value.int IntKind.u8 2, Value.int IntKind.u8 1, Value.int IntKind.u8 200, Value.int IntKind.u8 77, Value.int IntKind.u8 16] 5)).alloc (Obj.cells #[Value.int IntKind.u8 4, Value.int IntKind.u8 5, Value.int IntKind.u8 29, Value.int IntKind.u8 29, Value.int IntKind.u8 255, Value.int IntKind.u8 200, Value.int IntKind.u8 0, Value.int IntKind.u8 29] 5)) #[Value.int IntKind.i64 0, Value.int IntKind.i64 1, Value.int IntKind.i64 7, Value.int IntKind.i64 8, Value.int IntKind.i64 9, Value.int IntKind.i64 255, Value.int IntKind.i64 (-1), Value.int IntKind.i64 254] 3 j v h
    simp only [World.size_alloc] at e
    exact row_on _ (e)
  have h4 : ∀ j v, #[Value.int IntKind.u8 1, Value.int IntKind.u8 2, Value.int IntKind.u8 128, Value.int IntKind.u8 29, Value.int IntKind.u8 58, Value.int IntKind.u8 1, Value.int IntKind.u8 142, Value.int IntKind.u8 142][j]? = some v → (kW w).cell? ⟨w.heap.size + 1 + 1 + 1 + 1, j, none⟩ = some v := by
    intro j v h
    have e := row_new ((((w.alloc (Obj.cells #[Value.int IntKind.u8 2, Value.int IntKind.u8 3, Value.int IntKind.u8 4, Value.int IntKind.u8 128, Value.int IntKind.u8 255, Value.int IntKind.u8 1, Value.int IntKind.u8 0, Value.int IntKind.u8 16] 5)).alloc (Obj.cells #[Value.int IntKind.u8 2, Value.int IntKind.u8 3, Value.int IntKind.u8 64, Value.int IntKind.u8 2, Value.int IntKind.u8 1, Value.int IntKind.u8 200, Value.int IntKind.u8 77, Value.int IntKind.u8 16] 5)).alloc (Obj.cells #[Value.int IntKind.u8 4, Value.int IntKind.u8 5, Value.int IntKind.u8 29, Value.int IntKind.u8 29, Value.int IntKind.u8 255, Value.int IntKind.u8 200, Value.int IntKind.u8 0, Value.int IntKind.u8 29] 5)).alloc (Obj.cells #[Value.int IntKind.i64 0, Value.int IntKind.i64 1, Value.int IntKind.i64 7, Value.int IntKind.i64 8, Value.int IntKind.i64 9, Value.int IntKind.i64 255, Value.int IntKind.i64 (-1), Value.int IntKind.i64 254] 3)) #[Value.int IntKind.u8 1, Value.int IntKind.u8 2, Value.int IntKind.u8 128, Value.int IntKind.u8 29, Value.int IntKind.u8 58, Value.int IntKind.u8 1, Value.int IntKind.u8 142, Value.int IntKind.u8 142] 5 j v h
    simp only [World.size_alloc] at e
    exact e
  have hc : j = 0 ∨ j = 1 ∨ j = 2 ∨ j = 3 ∨ j = 4 ∨ j = 5 ∨ j = 6 ∨ j = 7 := by omega
  rcases hc with rfl | rfl | rfl | rfl | rfl | rfl | rfl | rfl
  · exact ⟨2, 2, 4, 0, 1, by omega, by omega, by omega, by omega, by omega, by omega, by decide +kernel, by decide +kernel, h0 _ _ rfl, h1 _ _ rfl, h2 _ _ rfl, h3 _ _ rfl, h4 _ _ rfl⟩
  · exact ⟨3, 3, 5, 1, 2, by omega, by omega, by omega, by omega, by omega, by omega, by decide +kernel, by decide +kernel, h0 _ _ rfl, h1 _ _ rfl, h2 _ _ rfl, h3 _ _ rfl, h4 _ _ rfl⟩
  · exact ⟨4, 64, 29, 7, 128, by omega, by omega, by omega, by omega, by omega, by omega, by decide +kernel, by decide +kernel, h0 _ _ rfl, h1 _ _ rfl, h2 _ _ rfl, h3 _ _ rfl, h4 _ _ rfl⟩
  · exact ⟨128, 2, 29, 8, 29, by omega, by omega, by omega, by omega, by omega, by omega, by decide +kernel, by decide +kernel, h0 _ _ rfl, h1 _ _ rfl, h2 _ _ rfl, h3 _ _ rfl, h4 _ _ rfl⟩
  · exact ⟨255, 1, 255, 9, 58, by omega, by omega, by omega, by omega, by omega, by omega, by decide +kernel, by decide +kernel, h0 _ _ rfl, h1 _ _ rfl, h2 _ _ rfl, h3 _ _ rfl, h4 _ _ rfl⟩
  · exact ⟨1, 200, 200, 255, 1, by omega, by omega, by omega, by omega, by omega, by omega, by decide +kernel, by decide +kernel, h0 _ _ rfl, h1 _ _ rfl, h2 _ _ rfl, h3 _ _ rfl, h4 _ _ rfl⟩
  · exact ⟨0, 77, 0, -1, 142, by omega, by omega, by omega, by omega, by omega, by omega, by decide +kernel, by decide +kernel, h0 _ _ rfl, h1 _ _ rfl, h2 _ _ rfl, h3 _ _ rfl, h4 _ _ rfl⟩
  · exact ⟨16, 16, 29, 254, 142, by omega, by omega, by omega, by omega, by omega, by omega, by decide +kernel, by decide +kernel, h0 _ _ rfl, h1 _ _ rfl, h2 _ _ rfl, h3 _ _ rfl, h4 _ _ rfl⟩

theorem kW_below (w : World) : Below w.heap.size w (kW w) :=
  (((((Below.refl _ w).alloc (Nat.le_refl _) _).alloc (by simp) _).alloc (by simp; omega) _).alloc (by simp; omega) _).alloc (by simp; omega) _
theorem kW_size (w : World) : (kW w).heap.size = w.heap.size + 5 := by unfold kW; simp

/-- The five cells. -/
def Five (b j : Nat) (va vb vw : Nat) (vn : Int) (vp : Nat) (W : World) : Prop :=
  W.cell? ⟨b, j, none⟩ = some (.int .u8 va) ∧ W.cell? ⟨b + 1, j, none⟩ = some (.int .u8 vb) ∧ W.cell? ⟨b + 1 + 1, j, none⟩ = some (.int .u8 vw) ∧
    W.cell? ⟨b + 1 + 1 + 1, j, none⟩ = some (.int .i64 vn) ∧ W.cell? ⟨b + 1 + 1 + 1 + 1, j, none⟩ = some (.int .u8 vp)
theorem Five.on {b j va vb vw : Nat} {vn : Int} {vp : Nat} {W W' : World} (h : Five b j va vb vw vn vp W) (k : Below W.heap.size W W') : Five b j va vb vw vn vp W' :=
  ⟨(k.cell (block_lt_of_cell h.1)).trans h.1, (k.cell (block_lt_of_cell h.2.1)).trans h.2.1, (k.cell (block_lt_of_cell h.2.2.1)).trans h.2.2.1, (k.cell (block_lt_of_cell h.2.2.2.1)).trans h.2.2.2.1, (k.cell (block_lt_of_cell h.2.2.2.2)).trans h.2.2.2.2⟩

set_option maxRecDepth 100000 in
set_option maxHeartbeats 4000000 in
theorem known_walk (n : Int) (w : World) :
    Calls Try.prog 7 #[.int .i64 n] w fun x w' => x = .returned (.bool true) ∧ Below w.heap.size w w' := by
  have hn0 := Int.emod_nonneg n (show (8 : Int) ≠ 0 by omega)
  have hn1 := Int.emod_lt_of_pos n (show (0 : Int) < 8 by omega)
  go_enter Try.func7, Try.ntmps7
  go_wp2_with fail
  refine (known_any w).mono ?_
  rintro x w1 ⟨rfl, hk1⟩
  have HK1 := hide hk1
  have hz1 := hk1.size
  clear hk1
  go_wp2_with fail
  refine (within_any n 8 _ (by omega) (by omega)).mono ?_
  rintro x w2 ⟨rfl, rfl⟩
  obtain ⟨j, hj⟩ := Int.eq_ofNat_of_zero_le hn0
  rw [hj] at hn1 ⊢
  clear hj hn0
  have hj8 : j < 8 := by omega
  go_wp2_with fail
  obtain ⟨va, vb, vw, vn, vp, ha, hb, hw, hn2, hn3, hp, hmul, hexp, c0, c1, c2, c3, c4⟩ := known_cells w1 j hj8
  have HB5 := hide (Below.on (unhide HK1) (kW_below w1))
  have hz5 := kW_size w1
  obtain ⟨W5, e5⟩ : ∃ W5, kW w1 = W5 := ⟨_, rfl⟩
  rw [e5] at HB5 hz5 c0 c1 c2 c3 c4
  unfold kW at e5
  rw [e5]
  clear e5
  have hz6 : w1.heap.size + 5 ≤ W5.heap.size := by omega
  clear hz5
  generalize w1.heap.size = b at *
  have HM := hide hmul
  have HX := hide hexp
  clear hmul hexp HK1
  go_region_held3 (fun w' => w'.cell? ⟨b, j, none⟩ = some (.int .u8 va) ∧ w'.cell? ⟨b + 1, j, none⟩ = some (.int .u8 vb) ∧ w'.cell? ⟨b + 1 + 1, j, none⟩ = some (.int .u8 vw) ∧ w'.cell? ⟨b + 1 + 1 + 1, j, none⟩ = some (.int .i64 vn) ∧ w'.cell? ⟨b + 1 + 1 + 1 + 1, j, none⟩ = some (.int .u8 vp)) (first | assumption | (refine ⟨?_, ?_, ?_, ?_, ?_⟩ <;> assumption) | go_keep) (first | (go_at_call 10; refine (mul_any va vb ha hb _).mono ?_; rintro e w6 ⟨rfl, hk6⟩; have hf6 := Five.on (b := b) (j := j) (va := va) (vb := vb) (vw := vw) (vn := vn) (vp := vp) (by first | assumption | exact ⟨by assumption, by assumption, by assumption, by assumption, by assumption⟩) hk6; rw [unhide HM]) | (go_at_call 12; refine (exp_any vn _).mono ?_; rintro e w7 ⟨rfl, hk7⟩; have hf7 := Five.on (b := b) (j := j) (va := va) (vb := vb) (vw := vw) (vn := vn) (vp := vp) (by first | assumption | exact ⟨by assumption, by assumption, by assumption, by assumption, by assumption⟩) hk7; rw [unhide HX]))
  have HB7 : Hid (Below w.heap.size w w7) := Below.on (Below.on (unhide HB5).drew hk6) hk7
  clear hk6 hk7
  go_wp2
  go_ret
  exact ⟨rfl, unhide HB7⟩

end Go.Proofs.Ytinbenlakimipaa
