/-
  Package gf's small functions: double, doubles, squares, around, picked, first.
-/
import Derived.RangeFuncNested
import Derived.RangeFuncBound
import Derived.RangeFuncCalls
import Derived.RangeFuncLeaves
import Derived.Shelf.Abstract
import Derived.Shelf.RegionOpen
import Derived.WalkKit
import Derived.ProofKit
import Derived.OwnWalkIn
import Derived.TacticsInMore
import Derived.LoopNIn
import Derived.LoopIn
import Derived.Deep.QuietTactic
import Derived.BigQuiet
import Derived.Laws.BitsLemmas
import Derived.Laws.Bits64b
import Derived.OpenShut
import Derived.Handy
import Derived.Laws.EntriesVeiled
import Derived.Test.YtjdikhelabibnabGreatProg
import Derived.Test.YtjdikhelabibnabGreatGfm
namespace Go.Proofs.YtjdikhelabibnabGreat
open Go.RowKit Go.Shelf


/-- The program's own double is the double. -/
theorem double_eq {a : Nat} (h : a < 256) : bits .xor .u64 ((a : Int) * 2) ((a : Int) * 2 / 256 * 285) % 256 = ((dbl a : Nat) : Int) := by
  have : ∀ x : Fin 256, bits .xor .u64 ((x.val : Int) * 2) ((x.val : Int) * 2 / 256 * 285) % 256 = ((dbl x.val : Nat) : Int) := by decide +kernel
  exact this ⟨a, h⟩

theorem around_eq (n : Int) : IntKind.u64.wrap ((wrap64 (n.tmod 255 + 255)).tmod 255) = n % 255 := by
  have h1 := Int.tmod_lt_of_pos n (show (0 : Int) < 255 by omega)
  have h2 : -255 < n.tmod 255 := by
    have := Int.lt_tmod_of_pos n (show (0 : Int) < 255 by omega)
    omega
  have h3 : (n.tmod 255) % 255 = n % 255 := by rw [Int.tmod_def, Int.sub_mul_emod_self_left]
  rw [IntWalk.wrap64_in _ ⟨by omega, by omega⟩, Int.tmod_eq_emod_of_nonneg (by omega), IntWalk.u64_in _ ⟨by omega, by omega⟩, Int.add_emod_right, h3]

set_option maxRecDepth 100000 in
set_option maxHeartbeats 1000000 in
theorem double_any (a : Nat) (h : a < 256) (w : World) : Calls Tryz.prog 140 #[.int .u8 a] w fun e w' => e = .returned (.int .u8 (dbl a : Nat)) ∧ w' = w := by
  go_enter Tryz.func140, Tryz.ntmps140
  go_wp2
  go_ret
  rw [double_eq h]
  exact ⟨rfl, rfl⟩

set_option maxHeartbeats 1000000 in
theorem doubles_any (a : Int) (w : World) : Calls Tryz.prog 132 #[.int .u8 a] w fun e w' => e = .returned (.agg #[.int .u8 a, .func (.func 140) #[] #[]]) ∧ Below w.heap.size w w' := by
  go_enter Tryz.func132, Tryz.ntmps132
  go_wp2
  go_returns
  exact ⟨rfl, (Below.refl _ w).alloc (Nat.le_refl _) _⟩

set_option maxHeartbeats 1000000 in
theorem squares_any (a : Int) (w : World) : Calls Tryz.prog 142 #[.int .u8 a] w fun e w' => e = .returned (.agg #[.int .u8 a, .func (.func 144) #[] #[]]) ∧ Below w.heap.size w w' := by
  go_enter Tryz.func142, Tryz.ntmps142
  go_wp2
  go_returns
  exact ⟨rfl, (Below.refl _ w).alloc (Nat.le_refl _) _⟩

set_option maxHeartbeats 1000000 in
theorem around_any (n : Int) (w : World) : Calls Tryz.prog 143 #[.int .i64 n] w fun e w' => e = .returned (.int .u64 (n % 255)) ∧ w' = w := by
  go_enter Tryz.func143, Tryz.ntmps143
  go_wp2
  go_ret
  rw [around_eq]
  exact ⟨rfl, rfl⟩

/-- The boxes that a chain's iterator has caught. -/
structure Cap (w : World) (Bc Bm : Nat) (a : Int) (g : Nat) (m : Value) : Prop where
  c0 : w.cell? ⟨Bc, 0, none⟩ = some (.int .u8 a)
  c1 : w.cell? ⟨Bc, 1, none⟩ = some (.func (.func g) #[] #[])
  m0 : w.cell? ⟨Bm, 0, none⟩ = some m

theorem Cap.below {n : Nat} {w w' : World} {Bc Bm : Nat} {a : Int} {g : Nat} {m : Value} (h : Cap w Bc Bm a g m) (k : Below n w w') (hc : Bc < n) (hm : Bm < n) : Cap w' Bc Bm a g m :=
  ⟨(k.cell (p := ⟨Bc, 0, none⟩) hc).trans h.c0, (k.cell (p := ⟨Bc, 1, none⟩) hc).trans h.c1, (k.cell (p := ⟨Bm, 0, none⟩) hm).trans h.m0⟩

theorem cap_new (w : World) (a : Int) (g : Nat) (m : Value) (t s : TypeId) : Cap ((w.alloc (.cells #[.int .u8 a, .func (.func g) #[] #[]] t)).alloc (.cells #[m] s)) w.heap.size (w.heap.size + 1) a g m := by
  have h := World.alloc_heap_new w (.cells #[.int .u8 a, .func (.func g) #[] #[]] t)
  have h1 : ((w.alloc (.cells #[.int .u8 a, .func (.func g) #[] #[]] t)).alloc (.cells #[m] s)).heap[w.heap.size]? = some (.cells #[.int .u8 a, .func (.func g) #[] #[]] t (0, 0)) := (Below.heap_alloc _ _ _ (by simp)).trans h
  have h2 := World.alloc_heap_new (w.alloc (.cells #[.int .u8 a, .func (.func g) #[] #[]] t)) (.cells #[m] s)
  rw [World.size_alloc] at h2
  constructor
  · simp [World.cell?, h1]
  · simp [World.cell?, h1]
  · unfold World.cell?; dsimp only; rw [h2]; rfl

set_option maxHeartbeats 1000000 in
theorem picked_any (a : Int) (g : Nat) (y : Int) (w : World) : Calls Tryz.prog 133 #[.agg #[.int .u8 a, .func (.func g) #[] #[]], .int .u64 y] w fun e w' => 
    ∃ Bc Bm, e = .returned (.func (.func 141) #[] #[.pointer (some ⟨Bc, 0, none⟩), .pointer (some ⟨Bm, 0, none⟩)]) ∧ Cap w' Bc Bm a g (.int .u64 y) ∧ w.heap.size ≤ Bc ∧ w.heap.size ≤ Bm ∧ Bc < w'.heap.size ∧ Bm < w'.heap.size ∧ Below w.heap.size w w' := by
  go_enter Tryz.func133, Tryz.ntmps133
  go_wp2
  go_ret
  exact ⟨_, _, rfl, cap_new w a g _ _ _, Nat.le_refl _, by omega, by simp; omega, by simp, ((Below.refl _ w).alloc (Nat.le_refl _) _).alloc (by simp) _⟩

end Go.Proofs.YtjdikhelabibnabGreat
