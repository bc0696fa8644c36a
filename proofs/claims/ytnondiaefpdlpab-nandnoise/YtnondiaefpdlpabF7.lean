/-
  Bytes of a call's own making, read one by one.
-/
import Derived.Test.YtnondiaefpdlpabV7s
namespace Go.Proofs.Ytnondiaefpdlpab
open Go.RowKit Go.Shelf

theorem Fr.cells {n k c : Nat} {w : World} {vo : Option Addr} {s : List Nat} (h : Fr n w (.slice vo k c) s) (hs : s ≠ []) : ∃ g, vo = some ⟨g, 0, none⟩ ∧ ∀ j, j < s.length → w.cell? ⟨g, j, none⟩ = some (.int .u8 ((cf s j : Nat) : Int)) := by
  obtain ⟨g, c', h1, _, _, h4, _⟩ := h.blk hs
  injection h1 with h1 _ _
  exact ⟨g, h1, fun j hj => h4.cell hj⟩
theorem ne_of_len {s : List Nat} {n : Nat} (h : s.length = n) (hn : 0 < n) : s ≠ [] := fun e => by rw [e] at h; simp at h; omega

end Go.Proofs.Ytnondiaefpdlpab
