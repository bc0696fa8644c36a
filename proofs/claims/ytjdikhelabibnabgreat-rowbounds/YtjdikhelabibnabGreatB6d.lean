/-
  bits.Apart.
-/
import Derived.Test.YtjdikhelabibnabGreatB6b
import Derived.Test.YtjdikhelabibnabGreatB6c
namespace Go.Proofs.YtjdikhelabibnabGreat
open Go.RowKit Go.Shelf

/-- Where two differ: nothing, if they are not of as many bytes. -/
def apL (a b : List Nat) : List Nat := if a.length = b.length then onF (fun i => cf a i ^^^ cf b i) a.length else []

end Go.Proofs.YtjdikhelabibnabGreat
