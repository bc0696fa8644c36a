/-
  The laws' own known.
-/
import Derived.Test.YtjdikhelabibnabGreatB6d
namespace Go.Proofs.YtjdikhelabibnabGreat
open Go.RowKit Go.Shelf

theorem blk_one (w : World) (x : Nat) : Blk (w.alloc (.cells #[.int .u8 (x : Int)] 5)) w.heap.size [x] :=
  ⟨_, World.alloc_heap_new w _, fun j hj => by
    have : j = 0 := by simpa using hj
    subst this
    rfl⟩
theorem arg_one (w : World) (x : Nat) (hx : x < 256) : Arg (w.alloc (.cells #[.int .u8 (x : Int)] 5)) (.slice (some ⟨w.heap.size, 0, none⟩) 1 1) w.heap.size [x] :=
  (blk_one w x).arg (c := 1) (Bs.cons hx Bs.nil) (by simp) (by unfold maxLen; omega)

theorem known_apart : apL [1] [2] = [0, 1] := by decide +kernel

theorem OwnI.cells {base : Nat} {w : World} {v : Value} {l : List Nat} (h : OwnI base w v l) (hl : l ≠ []) : ∃ g c, v = .slice (some ⟨g, 0, none⟩) l.length c ∧ ∀ j, j < l.length → w.cell? ⟨g, j, none⟩ = some (.int .i64 ((cf l j : Nat) : Int)) := by
  rcases h.shape with ⟨_, h2⟩ | ⟨q, cq, h1, _, _, _, _, h6⟩
  · exact absurd h2 hl
  · exact ⟨q, cq, h1, h6⟩

theorem known_args (w W : World) (hW : (w.alloc (.cells #[.int .u8 1] 5)).alloc (.cells #[.int .u8 2] 5) = W) :
    Arg W (.slice (some ⟨w.heap.size, 0, none⟩) 1 1) w.heap.size [1] ∧ Arg W (.slice (some ⟨w.heap.size + 1, 0, none⟩) 1 1) (w.heap.size + 1) [2] ∧ Below w.heap.size w W := by
  subst hW
  refine ⟨(arg_one w 1 (by omega)).below ((Below.refl _ _).alloc (Nat.le_refl _) _), ?_, ((Below.refl _ w).alloc (Nat.le_refl _) _).alloc (by simp) _⟩
  have h := arg_one (w.alloc (.cells #[.int .u8 1] 5)) 2 (by omega)
  rwa [World.size_alloc] at h

end Go.Proofs.YtjdikhelabibnabGreat
