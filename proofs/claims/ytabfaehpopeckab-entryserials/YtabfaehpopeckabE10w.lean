/-
  Layouts, written: (layout).write.
-/
import Derived.Test.YtabfaehpopeckabE10i
namespace Go.Proofs.Ytabfaehpopeckab
open Go.RowKit Go.Shelf
attribute [local go_sem] Oper.semAt_some

/-- A head's bytes, part by part; a slot's; the noughts. -/
def owH (a b c d : Int) : List (List Int) := [by8 8 (IntKind.u64.wrap a), by8 1 (IntKind.u64.wrap b), by8 1 (IntKind.u64.wrap c), by8 1 (IntKind.u64.wrap d)]
def owE (k l s : Int) (d : List Nat) : List (List Int) := [by8 1 (IntKind.u64.wrap k), by8 8 (IntKind.u64.wrap l), by8 8 (IntKind.u64.wrap s), ints d]
def owT (d : List Nat) : List (List Int) := [ints d]
def fin10 (l : List (List Int)) (k : Nat) : List Int := (l.take k).flatten
theorem fin_succ {l : List (List Int)} {k : Nat} (x : List Int) (h : l[k]? = some x) : fin10 l (k + 1) = fin10 l k ++ x := by
  unfold fin10
  rw [List.take_add_one, h]
  simp
/-- A tail's cells. -/
def tailA (d : List Nat) : Array Value := (datL d).toArray

end Go.Proofs.Ytabfaehpopeckab
