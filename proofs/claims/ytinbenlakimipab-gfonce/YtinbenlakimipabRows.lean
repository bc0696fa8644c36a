/-
  No cell of these rows narrows 'for every input' (looked for: loops, veiled, ifaces, maps, wideKeys, modest, calm, conditions, laid).
  DERIVED. THE GIVEN ROWS OF THIS SEAT. 3 by the template 'for every input the law returns true; each argument reads behind the call as it read before'; 0 by the template 'total and deterministic' (their statements: YtinbenlakimipabTotals.lean).
  GIVEN WITH THE SEED: the statements are not yours to turn. If you find one false, say at which input.
  Laid BY PROGRAM, IN A SANDBOX (cutbox-rows.mjs): the forced cells as the released guide's own fill.sh prints them over the translation 666dd00392aad88c… (all of the seat's roots in one cut). By AI agents, Wed Nov 11 2026. No macro, syntax, notation, axiom, sorry.
-/
import Derived.Test.YtinbenlakimipabChecked
import GoSem.Claim
import GoSem.ClaimJoined
import GoSem.ClaimMapViews
import Derived.JoinedTies
import Derived.KernelRfl
namespace Go.Proofs.Ytinbenlakimipab
/- THE CELL 'sum', in the pinned program and in every row, IS THE sha256 OF THE DUMP (.gsa) THAT YtinbenlakimipabProg.lean LOADS. Nothing in Lean hashes anything: it is a label: what it is worth is what the hold of that sum in a sandbox is worth. -/
noncomputable def Try.pinned : Pinned := { name := "ytinbenlakimipab", sum := "666dd00392aad88cb0d53eed4a716951f06d2448291718fc750d43584bd1a474", checked := Try.checked }
namespace Rows
def none {H : Type} : Left H := { results := [], args := [] }

/-- 'ramekinlaw2.GfOnce': WHATEVER THE INPUT: true; the input reads as it did. -/
def gfOnceSpec : ChangeSpec := { name := "gfOnce", fn := fun _ => fun
  | [d] => { results := [.lit (.bool true)], args := [d] }
  | _ => none }
def gfOnceRow : OpenClaim := { program := "ytinbenlakimipab", sum := "666dd00392aad88cb0d53eed4a716951f06d2448291718fc750d43584bd1a474", func := "ramekin/ramekinlaw2.GfOnce", spec := "gfOnce", unfollowed := true, recurses := true, apart := false }
def GfOnceSaid : Prop := gfOnceRow.holds Try.pinned (OpenSpec.ofChange gfOnceSpec)

/-- ITS FALSE NEIGHBOUR: 'it returns false'. Refute it at one input. -/
def gfOnceWrong : ChangeSpec := { name := "gfOnce", fn := fun _ => fun
  | [d] => { results := [.lit (.bool false)], args := [d] }
  | _ => none }
def GfOnceWrongFalsely : Prop := gfOnceRow.holds Try.pinned (OpenSpec.ofChange gfOnceWrong)

/-- 'ramekinlaw2.GfSquares': WHATEVER THE INPUT: true; the input reads as it did. -/
def gfSquaresSpec : ChangeSpec := { name := "gfSquares", fn := fun _ => fun
  | [d1, d2] => { results := [.lit (.bool true)], args := [d1, d2] }
  | _ => none }
def gfSquaresRow : OpenClaim := { program := "ytinbenlakimipab", sum := "666dd00392aad88cb0d53eed4a716951f06d2448291718fc750d43584bd1a474", func := "ramekin/ramekinlaw2.GfSquares", spec := "gfSquares", unfollowed := true, recurses := true, apart := false }
def GfSquaresSaid : Prop := gfSquaresRow.holds Try.pinned (OpenSpec.ofChange gfSquaresSpec)

/-- ITS FALSE NEIGHBOUR: 'it returns false'. Refute it at one input. -/
def gfSquaresWrong : ChangeSpec := { name := "gfSquares", fn := fun _ => fun
  | [d1, d2] => { results := [.lit (.bool false)], args := [d1, d2] }
  | _ => none }
def GfSquaresWrongFalsely : Prop := gfSquaresRow.holds Try.pinned (OpenSpec.ofChange gfSquaresWrong)

/-- 'ramekinlaw2.GfQuotients': WHATEVER THE INPUT: true; the input reads as it did. -/
def gfQuotientsSpec : ChangeSpec := { name := "gfQuotients", fn := fun _ => fun
  | [d1, d2] => { results := [.lit (.bool true)], args := [d1, d2] }
  | _ => none }
def gfQuotientsRow : OpenClaim := { program := "ytinbenlakimipab", sum := "666dd00392aad88cb0d53eed4a716951f06d2448291718fc750d43584bd1a474", func := "ramekin/ramekinlaw2.GfQuotients", spec := "gfQuotients", unfollowed := true, recurses := true, apart := false }
def GfQuotientsSaid : Prop := gfQuotientsRow.holds Try.pinned (OpenSpec.ofChange gfQuotientsSpec)

/-- ITS FALSE NEIGHBOUR: 'it returns false'. Refute it at one input. -/
def gfQuotientsWrong : ChangeSpec := { name := "gfQuotients", fn := fun _ => fun
  | [d1, d2] => { results := [.lit (.bool false)], args := [d1, d2] }
  | _ => none }
def GfQuotientsWrongFalsely : Prop := gfQuotientsRow.holds Try.pinned (OpenSpec.ofChange gfQuotientsWrong)

/- THE SECOND FORM. 'bulk': how many values and letters a reading holds, each counted each time it is reached (what is shared counts as often as it is met; a slice's spare places count too). A statement '..UptoSaid' is the law's where the arguments, and the package variables that the reading takes, are together of bulk at most 1048576: NARROWER than '..Said'. Prove '..Said' where nothing that the law and all that it calls make is longer than what came in: it says more and counts as full. Else prove '..UptoSaid'. A law counts once. -/
mutual
def uptoBulk {H : Type} : DataW H → Nat
  | .lit (.string bytes) => bytes.length + 1
  | .lit _ => 1
  | .nil => 1
  | .ptr d => uptoBulk d + 1
  | .slice elems spare => uptoBulkAll elems + uptoBulkAll spare + 1
  | .agg parts => uptoBulkAll parts + 1
  | .iface _ d => uptoBulk d + 1
  | .map entries => uptoBulkEntries entries + 1
  | .held _ => 1
def uptoBulkAll {H : Type} : List (DataW H) → Nat
  | [] => 0
  | d :: r => uptoBulk d + uptoBulkAll r
def uptoBulkEntries {H : Type} : List (Lit × DataW H) → Nat
  | [] => 0
  | x :: r => uptoBulkEntry x + uptoBulkEntries r
def uptoBulkEntry {H : Type} : Lit × DataW H → Nat
  | (.string bytes, d) => bytes.length + uptoBulk d + 1
  | (_, d) => uptoBulk d + 1
 end
def uptoSmall : (H : Type) → List (DataW H) → Bool := fun _ ds => decide (uptoBulkAll ds ≤ 1048576)
def OpenSpec.upto (s : _root_.Go.ChangeSpec) : _root_.Go.OpenSpec := { _root_.Go.OpenSpec.ofChange s with cond := some uptoSmall }

/-- 'ramekinlaw2.GfOnce', WHERE WHAT IT READS IS OF BULK AT MOST 1048576: true; the input reads as it did. -/
def gfOnceUptoRow : OpenClaim := { program := "ytinbenlakimipab", sum := "666dd00392aad88cb0d53eed4a716951f06d2448291718fc750d43584bd1a474", func := "ramekin/ramekinlaw2.GfOnce", spec := "gfOnce", unfollowed := true, recurses := true, apart := false, narrowed := true }
def GfOnceUptoSaid : Prop := gfOnceUptoRow.holds Try.pinned (OpenSpec.upto gfOnceSpec)

/-- 'ramekinlaw2.GfSquares', WHERE WHAT IT READS IS OF BULK AT MOST 1048576: true; the input reads as it did. -/
def gfSquaresUptoRow : OpenClaim := { program := "ytinbenlakimipab", sum := "666dd00392aad88cb0d53eed4a716951f06d2448291718fc750d43584bd1a474", func := "ramekin/ramekinlaw2.GfSquares", spec := "gfSquares", unfollowed := true, recurses := true, apart := false, narrowed := true }
def GfSquaresUptoSaid : Prop := gfSquaresUptoRow.holds Try.pinned (OpenSpec.upto gfSquaresSpec)

/-- 'ramekinlaw2.GfQuotients', WHERE WHAT IT READS IS OF BULK AT MOST 1048576: true; the input reads as it did. -/
def gfQuotientsUptoRow : OpenClaim := { program := "ytinbenlakimipab", sum := "666dd00392aad88cb0d53eed4a716951f06d2448291718fc750d43584bd1a474", func := "ramekin/ramekinlaw2.GfQuotients", spec := "gfQuotients", unfollowed := true, recurses := true, apart := false, narrowed := true }
def GfQuotientsUptoSaid : Prop := gfQuotientsUptoRow.holds Try.pinned (OpenSpec.upto gfQuotientsSpec)

end Rows
end Go.Proofs.Ytinbenlakimipab
