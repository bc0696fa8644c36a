/-
  entry.Bytes.
-/
import Derived.Test.YtabfaehpopeckabE10s
import Derived.Test.YtabfaehpopeckabE10c
namespace Go.Proofs.Ytabfaehpopeckab
open Go.RowKit Go.Shelf

theorem LayH.below {w w' : World} {L : Nat} {c : Nat → Nat} (h : LayH w L c) (k : Below w.heap.size w w') : LayH w' L c := h.keep k
theorem LayE.below {w w' : World} {L : Nat} {c : Nat → Nat} (h : LayE w L c) (k : Below w.heap.size w w') : LayE w' L c := h.keep k
theorem LayT.below {w w' : World} {L : Nat} {c : Nat → Nat} (h : LayT w L c) (k : Below w.heap.size w w') : LayT w' L c := h.keep k
/-- Such cells lie at block b. -/
structure AtB (w : World) (b : Nat) (cs : Array Value) (ty : TypeId) : Prop where
  blk : w.heap[b]? = some (.cells cs ty (0, 0))
theorem AtB.below {w w' : World} {b : Nat} {cs : Array Value} {ty : TypeId} (h : AtB w b cs ty) (k : Below w.heap.size w w') : AtB w' b cs ty := ⟨(k.block b (lt_of_block h.blk)).trans h.blk⟩
theorem lenH10 (x0 x1 x2 x3 : Int) : ([] ++ fin10 (owH x0 x1 x2 x3) 4).length = 11 := by simp [fin10, owH, by8_length]
theorem lenE10 (x0 x1 x2 x3 k l s : Int) (d : List Nat) (hd : d.length = 16) : (([] ++ fin10 (owH x0 x1 x2 x3) 4) ++ fin10 (owE k l s d) 4).length = 44 := by simp [fin10, owH, owE, by8_length, ints_len10, hd]

end Go.Proofs.Ytabfaehpopeckab
