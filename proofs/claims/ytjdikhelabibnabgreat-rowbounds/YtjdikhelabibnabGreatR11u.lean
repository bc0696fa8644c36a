/-
  What Encode answers, to be used by the laws.
-/
import Derived.Test.YtjdikhelabibnabGreatR11s
import Derived.Test.YtjdikhelabibnabGreatHp5
namespace Go.Proofs.YtjdikhelabibnabGreat
open Go Go.RowKit Go.Shelf

noncomputable def encE (n a b c : Int) (l : List EV) : Int := open Classical in if okRow n a b c l then 0 else 1
noncomputable def encX (n a b c : Int) (l : List EV) : List (List Nat) := open Classical in if okRow n a b c l then encL (n - 2).toNat a b c l else []
theorem encE_ok {n a b c : Int} {l : List EV} (h : okRow n a b c l) : encE n a b c l = 0 := by unfold encE; rw [if_pos h]
theorem encX_ok {n a b c : Int} {l : List EV} (h : okRow n a b c l) : encX n a b c l = encL (n - 2).toNat a b c l := by unfold encX; rw [if_pos h]
theorem encE_no {n a b c : Int} {l : List EV} (h : ¬ okRow n a b c l) : encE n a b c l = 1 := by unfold encE; rw [if_neg h]
theorem encX_no {n a b c : Int} {l : List EV} (h : ¬ okRow n a b c l) : encX n a b c l = [] := by unfold encX; rw [if_neg h]
theorem EncR.use {w w' : World} {x : Ending} {n a b c : Int} {l : List EV} (h : EncR w w' x n a b c l) : Below w.heap.size w w' ∧ ∃ ao m k G A C, x = .returned (.tuple #[.slice ao m k, .int .i64 (encE n a b c l)]) ∧ RArg w' (.slice ao m k) G A C (encX n a b c l) := by
  refine ⟨h.below, ?_⟩
  rcases h.res with ⟨h1, v, ps, h2, h3⟩ | ⟨h1, h2⟩
  · obtain ⟨G, hG, -⟩ := h3.arg
    obtain ⟨ao, c', hv, -⟩ := hG.ex
    refine ⟨ao, (encL (n - 2).toNat a b c l).length, c', G, psA ps, psC ps, ?_, ?_⟩
    · rw [h2, encE_ok h1, hv]
    · rw [encX_ok h1, ← hv]; exact hG
  · obtain ⟨G, hG, -⟩ := (OwnR.nil 0 w').arg
    exact ⟨none, 0, 0, G, _, _, by rw [h2, encE_no h1], by rw [encX_no h1]; exact hG⟩
theorem gdSl_okL {l : List EV} (m : Nat) : okL (gdSl l m) := by
  intro e he
  obtain ⟨x, hx, rfl⟩ := List.mem_map.1 he
  exact gd_ok11 _ _ _ _
theorem OwnE.arg' {base : Nat} {w : World} {v : Value} {l : List EV} (h : OwnE base w v l) : ∃ a n c g, v = .slice a n c ∧ EArg w (.slice a n c) g l := by
  obtain ⟨g, hg, -⟩ := h.arg
  obtain ⟨a, c, hv, -⟩ := hg.ex
  exact ⟨a, _, c, g, hv, by rw [← hv]; exact hg⟩

end Go.Proofs.YtjdikhelabibnabGreat
