/-
  bits.joined, its iterator.
-/
import Derived.Test.YtjdikhelabibnaaGreatB6a
namespace Go.Proofs.YtjdikhelabibnaaGreat
open Go.RowKit Go.Shelf
attribute [local go_sem] Oper.semAt_some

theorem Row.ky {T : Nat → Prop} {n m : Nat} {w w' : World} (h : Ky T n m w w') {ao : Option Addr} {g : Nat} {s : List Nat} (hr : Row w ao g (ints s)) (hg : s ≠ [] → (n ≤ g ∧ g < m) ∨ T g) : Row w' ao g (ints s) := by
  rcases hr with h0 | ⟨o, rfl, hc⟩
  · exact .inl h0
  · by_cases hs : s = []
    · subst hs; exact .inl rfl
    · exact .inr ⟨o, rfl, fun j hj => h.cell (hc j hj) (hg hs)⟩

theorem three_boxes (w : World) (a b c : Value) (s t u : TypeId) : ∀ W, W = ((w.alloc (.cells #[a] s)).alloc (.cells #[b] t)).alloc (.cells #[c] u) →
    W.cell? ⟨w.heap.size, 0, none⟩ = some a ∧ W.cell? ⟨w.heap.size + 1, 0, none⟩ = some b ∧ W.cell? ⟨w.heap.size + 1 + 1, 0, none⟩ = some c ∧ Below w.heap.size w W ∧ W.heap.size = w.heap.size + 3 := by
  rintro W rfl
  refine ⟨?_, ?_, ?_, (((Below.refl _ w).alloc (Nat.le_refl _) _).alloc (by simp) _).alloc (by simp; omega) _, by simp⟩
  · refine (World.cell?_of_block (Below.heap_alloc _ _ _ (by simp; omega))).trans ?_
    exact (World.cell?_of_block (Below.heap_alloc _ _ _ (by simp))).trans (cell_new' w _ _).1
  · have h := (cell_new' (w.alloc (.cells #[a] s)) b t).1
    rw [World.size_alloc] at h
    exact (World.cell?_of_block (Below.heap_alloc _ _ _ (by simp))).trans h
  · have h := (cell_new' ((w.alloc (.cells #[a] s)).alloc (.cells #[b] t)) c u).1
    rw [World.size_alloc, World.size_alloc] at h
    exact h

end Go.Proofs.YtjdikhelabibnaaGreat
