/-
  No cell of these rows narrows 'for every input' (looked for: loops, veiled, ifaces, maps, wideKeys, modest, calm, conditions, laid).
  DERIVED. THE GIVEN ROWS OF THIS SEAT. 5 by the template 'for every input the law returns true; each argument reads behind the call as it read before'; 0 by the template 'total and deterministic' (their statements: YtnhhemecfcljbaaTotals.lean).
  GIVEN WITH THE SEED: the statements are not yours to turn. If you find one false, say at which input.
  Laid BY PROGRAM, IN A SANDBOX (cutbox-rows.mjs): the forced cells as the released guide's own fill.sh prints them over the translation 055a5d7f18ceeee3… (all of the seat's roots in one cut). By AI agents, Wed Nov 11 2026. No macro, syntax, notation, axiom, sorry.
-/
import Derived.Test.YtnhhemecfcljbaaChecked
import GoSem.Claim
import GoSem.ClaimJoined
import GoSem.ClaimMapViews
import Derived.JoinedTies
import Derived.KernelRfl
namespace Go.Proofs.Ytnhhemecfcljbaa
/- THE CELL 'sum', in the pinned program and in every row, IS THE sha256 OF THE DUMP (.gsa) THAT YtnhhemecfcljbaaProg.lean LOADS. Nothing in Lean hashes anything: it is a label: what it is worth is what the hold of that sum in a sandbox is worth. -/
noncomputable def Try.pinned : Pinned := { name := "ytnhhemecfcljbaa", sum := "055a5d7f18ceeee30ad50710ae6626c4f26b690eee6b1cd60cbffadf1d9b24e1", checked := Try.checked }
namespace Rows
def none {H : Type} : Left H := { results := [], args := [] }

/-- 'ramekinlaw9.GeomAll': WHATEVER THE INPUT: true; the input reads as it did. -/
def geomAllSpec : ChangeSpec := { name := "geomAll", fn := fun _ => fun
  | [d1, d2, d3, d4] => { results := [.lit (.bool true)], args := [d1, d2, d3, d4] }
  | _ => none }
def geomAllRow : OpenClaim := { program := "ytnhhemecfcljbaa", sum := "055a5d7f18ceeee30ad50710ae6626c4f26b690eee6b1cd60cbffadf1d9b24e1", func := "ramekin/ramekinlaw9.GeomAll", spec := "geomAll", unfollowed := true, recurses := true, apart := false }
def GeomAllSaid : Prop := geomAllRow.holds Try.pinned (OpenSpec.ofChange geomAllSpec)

/-- ITS FALSE NEIGHBOUR: 'it returns false'. Refute it at one input. -/
def geomAllWrong : ChangeSpec := { name := "geomAll", fn := fun _ => fun
  | [d1, d2, d3, d4] => { results := [.lit (.bool false)], args := [d1, d2, d3, d4] }
  | _ => none }
def GeomAllWrongFalsely : Prop := geomAllRow.holds Try.pinned (OpenSpec.ofChange geomAllWrong)

/-- 'ramekinlaw9.GeomOnce': WHATEVER THE INPUT: true; the input reads as it did. -/
def geomOnceSpec : ChangeSpec := { name := "geomOnce", fn := fun _ => fun
  | [d1, d2] => { results := [.lit (.bool true)], args := [d1, d2] }
  | _ => none }
def geomOnceRow : OpenClaim := { program := "ytnhhemecfcljbaa", sum := "055a5d7f18ceeee30ad50710ae6626c4f26b690eee6b1cd60cbffadf1d9b24e1", func := "ramekin/ramekinlaw9.GeomOnce", spec := "geomOnce", unfollowed := true, recurses := true, apart := false }
def GeomOnceSaid : Prop := geomOnceRow.holds Try.pinned (OpenSpec.ofChange geomOnceSpec)

/-- ITS FALSE NEIGHBOUR: 'it returns false'. Refute it at one input. -/
def geomOnceWrong : ChangeSpec := { name := "geomOnce", fn := fun _ => fun
  | [d1, d2] => { results := [.lit (.bool false)], args := [d1, d2] }
  | _ => none }
def GeomOnceWrongFalsely : Prop := geomOnceRow.holds Try.pinned (OpenSpec.ofChange geomOnceWrong)

/-- 'ramekinlaw9.GeomBounds': WHATEVER THE INPUT: true; the input reads as it did. -/
def geomBoundsSpec : ChangeSpec := { name := "geomBounds", fn := fun _ => fun
  | [d1, d2, d3] => { results := [.lit (.bool true)], args := [d1, d2, d3] }
  | _ => none }
def geomBoundsRow : OpenClaim := { program := "ytnhhemecfcljbaa", sum := "055a5d7f18ceeee30ad50710ae6626c4f26b690eee6b1cd60cbffadf1d9b24e1", func := "ramekin/ramekinlaw9.GeomBounds", spec := "geomBounds", unfollowed := true, recurses := true, apart := false }
def GeomBoundsSaid : Prop := geomBoundsRow.holds Try.pinned (OpenSpec.ofChange geomBoundsSpec)

/-- ITS FALSE NEIGHBOUR: 'it returns false'. Refute it at one input. -/
def geomBoundsWrong : ChangeSpec := { name := "geomBounds", fn := fun _ => fun
  | [d1, d2, d3] => { results := [.lit (.bool false)], args := [d1, d2, d3] }
  | _ => none }
def GeomBoundsWrongFalsely : Prop := geomBoundsRow.holds Try.pinned (OpenSpec.ofChange geomBoundsWrong)

/-- 'ramekinlaw9.GeomSectors': WHATEVER THE INPUT: true; the input reads as it did. -/
def geomSectorsSpec : ChangeSpec := { name := "geomSectors", fn := fun _ => fun
  | [d1, d2, d3, d4] => { results := [.lit (.bool true)], args := [d1, d2, d3, d4] }
  | _ => none }
def geomSectorsRow : OpenClaim := { program := "ytnhhemecfcljbaa", sum := "055a5d7f18ceeee30ad50710ae6626c4f26b690eee6b1cd60cbffadf1d9b24e1", func := "ramekin/ramekinlaw9.GeomSectors", spec := "geomSectors", apart := false }
def GeomSectorsSaid : Prop := geomSectorsRow.holds Try.pinned (OpenSpec.ofChange geomSectorsSpec)

/-- ITS FALSE NEIGHBOUR: 'it returns false'. Refute it at one input. -/
def geomSectorsWrong : ChangeSpec := { name := "geomSectors", fn := fun _ => fun
  | [d1, d2, d3, d4] => { results := [.lit (.bool false)], args := [d1, d2, d3, d4] }
  | _ => none }
def GeomSectorsWrongFalsely : Prop := geomSectorsRow.holds Try.pinned (OpenSpec.ofChange geomSectorsWrong)

/-- 'ramekinlaw9.GeomBad': WHATEVER THE INPUT: true; the input reads as it did. -/
def geomBadSpec : ChangeSpec := { name := "geomBad", fn := fun _ => fun
  | [d1, d2, d3] => { results := [.lit (.bool true)], args := [d1, d2, d3] }
  | _ => none }
def geomBadRow : OpenClaim := { program := "ytnhhemecfcljbaa", sum := "055a5d7f18ceeee30ad50710ae6626c4f26b690eee6b1cd60cbffadf1d9b24e1", func := "ramekin/ramekinlaw9.GeomBad", spec := "geomBad", unfollowed := true, recurses := true, apart := false }
def GeomBadSaid : Prop := geomBadRow.holds Try.pinned (OpenSpec.ofChange geomBadSpec)

/-- ITS FALSE NEIGHBOUR: 'it returns false'. Refute it at one input. -/
def geomBadWrong : ChangeSpec := { name := "geomBad", fn := fun _ => fun
  | [d1, d2, d3] => { results := [.lit (.bool false)], args := [d1, d2, d3] }
  | _ => none }
def GeomBadWrongFalsely : Prop := geomBadRow.holds Try.pinned (OpenSpec.ofChange geomBadWrong)

/- THE SECOND FORM. 'bulk': how many values and letters a reading holds, each counted each time it is reached (what is shared counts as often as it is met; a slice's spare places count too). A statement '..UptoSaid' is the law's where the arguments, and the package variables that the reading takes, are together of bulk at most 1048576: NARROWER than '..Said'. Prove '..Said' where nothing that the law and all that it calls make is longer than what came in: it says more and counts as full. Else prove '..UptoSaid'. A law counts once. -/
mutual
def uptoBulk {H : Type} : DataW H → Nat
  | .lit (.string bytes) => bytes.length + 1
  | .lit _ => 1
  | .nil => 1
  | .ptr d => uptoBulk d + 1
  | .slice elems spare => uptoBulkAll elems + uptoBulkAll spare + 1
  | .agg parts => uptoBulkAll parts + 1
  | .iface _ d => uptoBulk d + 1
  | .map entries => uptoBulkEntries entries + 1
  | .held _ => 1
def uptoBulkAll {H : Type} : List (DataW H) → Nat
  | [] => 0
  | d :: r => uptoBulk d + uptoBulkAll r
def uptoBulkEntries {H : Type} : List (Lit × DataW H) → Nat
  | [] => 0
  | x :: r => uptoBulkEntry x + uptoBulkEntries r
def uptoBulkEntry {H : Type} : Lit × DataW H → Nat
  | (.string bytes, d) => bytes.length + uptoBulk d + 1
  | (_, d) => uptoBulk d + 1
 end
def uptoSmall : (H : Type) → List (DataW H) → Bool := fun _ ds => decide (uptoBulkAll ds ≤ 1048576)
def OpenSpec.upto (s : _root_.Go.ChangeSpec) : _root_.Go.OpenSpec := { _root_.Go.OpenSpec.ofChange s with cond := some uptoSmall }

/-- 'ramekinlaw9.GeomAll', WHERE WHAT IT READS IS OF BULK AT MOST 1048576: true; the input reads as it did. -/
def geomAllUptoRow : OpenClaim := { program := "ytnhhemecfcljbaa", sum := "055a5d7f18ceeee30ad50710ae6626c4f26b690eee6b1cd60cbffadf1d9b24e1", func := "ramekin/ramekinlaw9.GeomAll", spec := "geomAll", unfollowed := true, recurses := true, apart := false, narrowed := true }
def GeomAllUptoSaid : Prop := geomAllUptoRow.holds Try.pinned (OpenSpec.upto geomAllSpec)

/-- 'ramekinlaw9.GeomOnce', WHERE WHAT IT READS IS OF BULK AT MOST 1048576: true; the input reads as it did. -/
def geomOnceUptoRow : OpenClaim := { program := "ytnhhemecfcljbaa", sum := "055a5d7f18ceeee30ad50710ae6626c4f26b690eee6b1cd60cbffadf1d9b24e1", func := "ramekin/ramekinlaw9.GeomOnce", spec := "geomOnce", unfollowed := true, recurses := true, apart := false, narrowed := true }
def GeomOnceUptoSaid : Prop := geomOnceUptoRow.holds Try.pinned (OpenSpec.upto geomOnceSpec)

/-- 'ramekinlaw9.GeomBounds', WHERE WHAT IT READS IS OF BULK AT MOST 1048576: true; the input reads as it did. -/
def geomBoundsUptoRow : OpenClaim := { program := "ytnhhemecfcljbaa", sum := "055a5d7f18ceeee30ad50710ae6626c4f26b690eee6b1cd60cbffadf1d9b24e1", func := "ramekin/ramekinlaw9.GeomBounds", spec := "geomBounds", unfollowed := true, recurses := true, apart := false, narrowed := true }
def GeomBoundsUptoSaid : Prop := geomBoundsUptoRow.holds Try.pinned (OpenSpec.upto geomBoundsSpec)

/-- 'ramekinlaw9.GeomSectors', WHERE WHAT IT READS IS OF BULK AT MOST 1048576: true; the input reads as it did. -/
def geomSectorsUptoRow : OpenClaim := { program := "ytnhhemecfcljbaa", sum := "055a5d7f18ceeee30ad50710ae6626c4f26b690eee6b1cd60cbffadf1d9b24e1", func := "ramekin/ramekinlaw9.GeomSectors", spec := "geomSectors", apart := false, narrowed := true }
def GeomSectorsUptoSaid : Prop := geomSectorsUptoRow.holds Try.pinned (OpenSpec.upto geomSectorsSpec)

/-- 'ramekinlaw9.GeomBad', WHERE WHAT IT READS IS OF BULK AT MOST 1048576: true; the input reads as it did. -/
def geomBadUptoRow : OpenClaim := { program := "ytnhhemecfcljbaa", sum := "055a5d7f18ceeee30ad50710ae6626c4f26b690eee6b1cd60cbffadf1d9b24e1", func := "ramekin/ramekinlaw9.GeomBad", spec := "geomBad", unfollowed := true, recurses := true, apart := false, narrowed := true }
def GeomBadUptoSaid : Prop := geomBadUptoRow.holds Try.pinned (OpenSpec.upto geomBadSpec)

end Rows
end Go.Proofs.Ytnhhemecfcljbaa
