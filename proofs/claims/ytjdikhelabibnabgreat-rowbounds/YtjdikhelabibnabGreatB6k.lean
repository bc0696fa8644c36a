/-
  bytes.Clone.
-/
import Derived.Test.YtjdikhelabibnabGreatBa
namespace Go.Proofs.YtjdikhelabibnabGreat
open Go.RowKit Go.Shelf

theorem own_none (w : World) (e : TypeId) : (w.alloc (.cells #[] e)).ownsRow w.heap.size e 1 (.slice (some ⟨w.heap.size, 0, none⟩) 0 0) 0 [] := by
  exact ⟨rfl, .inr ⟨w.heap.size, 0, #[], rfl, Nat.le_refl _, World.alloc_heap_new w _, by simp, by simp, rfl, rfl⟩⟩
theorem below_grown {n : Nat} {a w w' : World} {row : Option Nat} (h : Below n a w) (hg : w.grownBy w' row) (hn : n ≤ w.heap.size) (hr : ∀ k, row = some k → n ≤ k) : Below n a w' :=
  ⟨hg.os.trans h.os, hg.tape.trans h.tape, hg.output.trans h.output, Nat.le_trans h.size hg.size, fun k hk => (hg.block k (by omega) (fun e => by have := hr k e.symm; omega)).trans (h.block k hk)⟩

theorem Fr.shape {n : Nat} {w : World} {v : Value} {s : List Nat} (h : Fr n w v s) : ∃ to c, v = .slice to s.length c := by
  rcases h with ⟨rfl, rfl⟩ | ⟨g, c, rfl, _⟩
  · exact ⟨none, 0, rfl⟩
  · exact ⟨_, _, rfl⟩

end Go.Proofs.YtjdikhelabibnabGreat
