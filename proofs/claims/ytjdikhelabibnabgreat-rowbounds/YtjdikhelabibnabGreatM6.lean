/-
  The least of two or three numbers; fronts of slices; strings.
-/
import Derived.Test.YtjdikhelabibnabGreatBa
namespace Go.Proofs.YtjdikhelabibnabGreat
open Go.RowKit Go.Shelf

theorem min_three (t : TypeId) (ts : Array TypeId) (x y z : Int) (w : World) : (Builtin.min_ ts t #[.int .i64 x, .int .i64 y, .int .i64 z]).run Tryz.prog w = .ok (.int .i64 (min (min x y) z)) w := by
  unfold Builtin.min_
  simp only [List.foldlM_cons, List.foldlM_nil, Builtin.min2]
  by_cases h1 : y < x
  · by_cases h2 : z < y
    · simp [h1, h2, Sem.run_pure]; omega
    · simp [h1, h2, Sem.run_pure]; omega
  · by_cases h2 : z < x
    · simp [h1, h2, Sem.run_pure]; omega
    · simp [h1, h2, Sem.run_pure]; omega

theorem min_two (t : TypeId) (ts : Array TypeId) (x y : Int) (w : World) : (Builtin.min_ ts t #[.int .i64 x, .int .i64 y]).run Tryz.prog w = .ok (.int .i64 (min x y)) w := by
  unfold Builtin.min_
  simp only [List.foldlM_cons, List.foldlM_nil, Builtin.min2]
  by_cases h1 : y < x
  · simp [h1, Sem.run_pure]; omega
  · simp [h1, Sem.run_pure]; omega

theorem Arg.front {w : World} {ao : Option Addr} {n c g m : Nat} {s : List Nat} (h : Arg w (.slice ao n c) g s) (hm : m ≤ n) : Arg w (.slice ao m c) g (s.take m) := by
  obtain ⟨⟨ao', c', h1, h2, h3, h4, h5⟩, hb⟩ := h
  injection h1 with e1 e2 e3
  subst e1
  subst e3
  have hl : (s.take m).length = m := by rw [List.length_take]; omega
  refine ⟨⟨ao, c, by rw [hl], by omega, h3, h4, row_front h5⟩, fun i => ?_⟩
  rw [cf_take]
  split
  · exact hb i
  · omega

theorem below_drewN (w : World) (n : Nat) : Below w.heap.size w (w.drewN n) := ⟨rfl, rfl, rfl, Nat.le_refl _, fun _ _ => rfl⟩
theorem arg_row {w : World} {ao : Option Addr} {n c g : Nat} {s : List Nat} (h : Arg w (.slice ao n c) g s) : Row w ao g (ints s) := by
  obtain ⟨⟨ao', c', h1, h2, h3, h4, h5⟩, hb⟩ := h
  injection h1 with e1 e2 e3
  subst e1
  exact h5
theorem str_eq (a : List Nat) : ((strOf (ints a)).toList == (strOf (ints a)).toList) = true := by simp

end Go.Proofs.YtjdikhelabibnabGreat
