/-
  The laws' own Places.
-/
import Derived.Test.YtjdikhelabibnabGreatH6p
import Derived.Test.YtjdikhelabibnabGreatI6
import Derived.Test.YtjdikhelabibnabGreatHd5
import Derived.Test.YtjdikhelabibnabGreatS5f
namespace Go.Proofs.YtjdikhelabibnabGreat
open Go.RowKit

section
variable {P : Program} (w : World)
end

/-- Places as numbers that may be lost. -/
theorem places_z {base : Nat} {w : World} {v : Value} {ps : List Nat} {n : Nat} (h : OwnI base w v ps) (hn : n ≤ 1000) (hb : ∀ k ∈ ps, k < n) : ∃ g, ZArg w v g (ints ps) ∧ base ≤ g := by
  obtain ⟨g, ⟨ao, c, h1, h2, h3, h4, h5⟩, hg⟩ := h.arg
  refine ⟨g, ⟨⟨ao, c, by rw [ints_len]; exact h1, by rw [ints_len]; exact h2, h3, h4, h5⟩, fun z hz => ?_⟩, hg⟩
  obtain ⟨k, hk, rfl⟩ := List.mem_map.1 hz
  have := hb k hk
  omega

end Go.Proofs.YtjdikhelabibnabGreat
