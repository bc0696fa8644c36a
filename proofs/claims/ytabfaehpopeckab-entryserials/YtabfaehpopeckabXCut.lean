/-
  The walk of EntryCuts.
-/
import Derived.Test.YtabfaehpopeckabE10k
import Derived.Test.YtabfaehpopeckabR10b
import Derived.Test.YtabfaehpopeckabH10g
namespace Go.Proofs.Ytabfaehpopeckab
open Go.RowKit Go.Shelf

theorem gd_ok (k l s : Int) (d : List Nat) : okE (gdK k) (gdLb k l) (gdS k s) (gdD k d) := by
  unfold gdK gdLb gdS gdD okE
  refine ⟨⟨by omega, by omega⟩, fun h => ?_, fun h => ?_, fun h => ?_⟩
  · rw [if_pos h, if_pos h]; omega
  · rw [if_neg h, if_neg h]; exact ⟨rfl, rfl⟩
  · rw [if_neg h]
theorem zer16_cf (j : Nat) : cf zer16 j = 0 := cf_replicate 16 j
theorem gd_lt (k : Int) {d : List Nat} (h : ∀ j, cf d j < 256) : ∀ j, cf (gdD k d) j < 256 := by
  intro j
  unfold gdD
  split
  · exact h j
  · rw [zer16_cf]; omega
theorem row_take {w : World} {ao : Option Addr} {g : Nat} {zs : List Int} (h : Row w ao g zs) (n : Nat) : Row w ao g (zs.take n) := by
  rcases h with h | ⟨o, h1, h2⟩
  · exact .inl (by rw [h]; simp)
  · refine .inr ⟨o, h1, fun j hj => ?_⟩
    rw [List.length_take] at hj
    have e : (zs.take n).getD j 0 = zs.getD j 0 := by rw [List.getD_eq_getElem?_getD, List.getD_eq_getElem?_getD, List.getElem?_take, if_pos (by omega)]
    rw [h2 j (by omega), e]

end Go.Proofs.Ytabfaehpopeckab
