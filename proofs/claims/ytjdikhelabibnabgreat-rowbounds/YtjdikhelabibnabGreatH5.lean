/-
  The laws' own known, Few, same.
-/
import Derived.Test.YtjdikhelabibnabGreatH6k
import Derived.Test.YtjdikhelabibnabGreatS5e
import Derived.Test.YtjdikhelabibnabGreatRw5
namespace Go.Proofs.YtjdikhelabibnabGreat
open Go.RowKit

theorem known_rows (w : World) (W : World) (hW : ((w.alloc (.cells #[.int .u8 1] 5)).alloc (.cells #[.int .u8 2] 5)).alloc (.cells #[.slice (some ⟨w.heap.size, 0, none⟩) 1 1, .slice (some ⟨w.heap.size + 1, 0, none⟩) 1 1] 33) = W) :
    RArg W (.slice (some ⟨w.heap.size + 1 + 1, 0, none⟩) 2 2) (w.heap.size + 1 + 1) (psA [(some ⟨w.heap.size, 0, none⟩, 1), (some ⟨w.heap.size + 1, 0, none⟩, 1)]) (psC [(some ⟨w.heap.size, 0, none⟩, 1), (some ⟨w.heap.size + 1, 0, none⟩, 1)]) [[1], [2]] ∧ Below w.heap.size w W := by
  subst hW
  refine ⟨⟨⟨_, 2, rfl, by simp, by unfold maxLen; omega, (fun h => by cases h), .inr ⟨0, rfl, fun j hj => ?_⟩⟩, fun i hi => ?_⟩, (((Below.refl _ w).alloc (Nat.le_refl _) _).alloc (by simp) _).alloc (by simp only [World.size_alloc]; omega) _⟩
  · have h := World.alloc_heap_new ((w.alloc (.cells #[.int .u8 1] 5)).alloc (.cells #[.int .u8 2] 5)) (.cells #[.slice (some ⟨w.heap.size, 0, none⟩) 1 1, .slice (some ⟨w.heap.size + 1, 0, none⟩) 1 1] 33)
    rw [World.size_alloc, World.size_alloc] at h
    have hj2 : j = 0 ∨ j = 1 := by simp at hj; omega
    rcases hj2 with rfl | rfl
    · unfold World.cell?; rw [h]; rfl
    · unfold World.cell?; rw [h]; rfl
  · have hi2 : i = 0 ∨ i = 1 := by simp at hi; omega
    rcases hi2 with rfl | rfl
    · exact ⟨_, ((arg_one w 1 (by omega)).below ((Below.refl _ _).alloc (Nat.le_refl _) _)).below ((Below.refl _ _).alloc (Nat.le_refl _) _)⟩
    · have h := arg_one (w.alloc (.cells #[.int .u8 1] 5)) 2 (by omega)
      rw [World.size_alloc] at h
      exact ⟨_, h.below ((Below.refl _ _).alloc (Nat.le_refl _) _)⟩
theorem known_par : pP [[1], [2]] = [3] ∧ pQ [[1], [2]] = [5] := by decide +kernel

theorem Fr.one {n : Nat} {w : World} {v : Value} {x : Nat} (h : Fr n w v [x]) : ∃ g c, v = .slice (some ⟨g, 0, none⟩) 1 c ∧ w.cell? ⟨g, 0, none⟩ = some (.int .u8 (x : Int)) := by
  obtain ⟨g, c, h1, _, _, h2, _⟩ := h.blk (by simp)
  exact ⟨g, c, h1, h2.cell (j := 0) (by simp)⟩

/-- Rows that are not too much. -/
def few (l : List (List Nat)) : Bool := l.all (fun r => decide (r.length ≤ 60)) && decide (l.length ≤ 20)
theorem few_len {l : List (List Nat)} (h : few l = true) : l.length ≤ 20 ∧ ∀ i, (l.getD i []).length ≤ 100000 := by
  unfold few at h
  rw [Bool.and_eq_true, List.all_eq_true] at h
  refine ⟨of_decide_eq_true h.2, fun i => ?_⟩
  rw [List.getD_eq_getElem?_getD]
  by_cases hi : i < l.length
  · rw [List.getElem?_eq_getElem hi]
    have := of_decide_eq_true (h.1 _ (List.getElem_mem hi))
    simp
    omega
  · rw [List.getElem?_eq_none (by omega)]
    simp

theorem getD_ext {a b : List (List Nat)} (hl : a.length = b.length) (h : ∀ i, i < a.length → a.getD i [] = b.getD i []) : a = b := by
  apply List.ext_getElem hl
  intro i h1 h2
  have := h i h1
  rw [List.getD_eq_getElem?_getD, List.getD_eq_getElem?_getD, List.getElem?_eq_getElem h1, List.getElem?_eq_getElem h2] at this
  exact this

end Go.Proofs.YtjdikhelabibnabGreat
