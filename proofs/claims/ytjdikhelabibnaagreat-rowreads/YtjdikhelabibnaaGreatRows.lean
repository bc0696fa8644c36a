/-
  No cell of these rows narrows 'for every input' (looked for: loops, veiled, ifaces, maps, wideKeys, modest, calm, conditions, laid).
  DERIVED. THE GIVEN ROWS OF THIS SEAT. 6 by the template 'for every input the law returns true; each argument reads behind the call as it read before'; 0 by the template 'total and deterministic' (their statements: YtjdikhelabibnaaGreatTotals.lean).
  GIVEN WITH THE SEED: the statements are not yours to turn. If you find one false, say at which input.
  Laid BY PROGRAM, IN A SANDBOX (cutbox-rows.mjs): the forced cells as the released guide's own fill.sh prints them over the translation 0136d9eb766400a4… (all of the seat's roots in one cut). By AI agents, Wed Nov 11 2026. No macro, syntax, notation, axiom, sorry.
-/
import Derived.Test.YtjdikhelabibnaaGreatChecked
import GoSem.Claim
import GoSem.ClaimJoined
import GoSem.ClaimMapViews
import Derived.JoinedTies
import Derived.KernelRfl
namespace Go.Proofs.YtjdikhelabibnaaGreat
/- THE CELL 'sum', in the pinned program and in every row, IS THE sha256 OF THE DUMP (.gsa) THAT YtjdikhelabibnaaGreatProg.lean LOADS. Nothing in Lean hashes anything: it is a label: what it is worth is what the hold of that sum in a sandbox is worth. -/
noncomputable def Tryz.pinned : Pinned := { name := "ytjdikhelabibnaagreat", sum := "0136d9eb766400a42e43f18eb8e580e8110f35b3322f565da211293c78bcc03b", checked := Tryz.checked }
namespace Rows
def none {H : Type} : Left H := { results := [], args := [] }

/-- 'ramekinlaw11.RowEncodes': WHATEVER THE INPUT: true; the input reads as it did. -/
def rowEncodesSpec : ChangeSpec := { name := "rowEncodes", fn := fun _ => fun
  | [d1, d2, d3, d4, d5] => { results := [.lit (.bool true)], args := [d1, d2, d3, d4, d5] }
  | _ => none }
def rowEncodesRow : OpenClaim := { program := "ytjdikhelabibnaagreat", sum := "0136d9eb766400a42e43f18eb8e580e8110f35b3322f565da211293c78bcc03b", func := "ramekin/ramekinlaw11.RowEncodes", spec := "rowEncodes", unfollowed := true, recurses := true, apart := false }
def RowEncodesSaid : Prop := rowEncodesRow.holds Tryz.pinned (OpenSpec.ofChange rowEncodesSpec)

/-- ITS FALSE NEIGHBOUR: 'it returns false'. Refute it at one input. -/
def rowEncodesWrong : ChangeSpec := { name := "rowEncodes", fn := fun _ => fun
  | [d1, d2, d3, d4, d5] => { results := [.lit (.bool false)], args := [d1, d2, d3, d4, d5] }
  | _ => none }
def RowEncodesWrongFalsely : Prop := rowEncodesRow.holds Tryz.pinned (OpenSpec.ofChange rowEncodesWrong)

/-- 'ramekinlaw11.RowBack': WHATEVER THE INPUT: true; the input reads as it did. -/
def rowBackSpec : ChangeSpec := { name := "rowBack", fn := fun _ => fun
  | [d1, d2, d3, d4, d5, d6, d7] => { results := [.lit (.bool true)], args := [d1, d2, d3, d4, d5, d6, d7] }
  | _ => none }
def rowBackRow : OpenClaim := { program := "ytjdikhelabibnaagreat", sum := "0136d9eb766400a42e43f18eb8e580e8110f35b3322f565da211293c78bcc03b", func := "ramekin/ramekinlaw11.RowBack", spec := "rowBack", unfollowed := true, recurses := true, apart := false }
def RowBackSaid : Prop := rowBackRow.holds Tryz.pinned (OpenSpec.ofChange rowBackSpec)

/-- ITS FALSE NEIGHBOUR: 'it returns false'. Refute it at one input. -/
def rowBackWrong : ChangeSpec := { name := "rowBack", fn := fun _ => fun
  | [d1, d2, d3, d4, d5, d6, d7] => { results := [.lit (.bool false)], args := [d1, d2, d3, d4, d5, d6, d7] }
  | _ => none }
def RowBackWrongFalsely : Prop := rowBackRow.holds Tryz.pinned (OpenSpec.ofChange rowBackWrong)

/-- 'ramekinlaw11.RowReads': WHATEVER THE INPUT: true; the input reads as it did. -/
def rowReadsSpec : ChangeSpec := { name := "rowReads", fn := fun _ => fun
  | [d1, d2, d3, d4, d5, d6, d7, d8] => { results := [.lit (.bool true)], args := [d1, d2, d3, d4, d5, d6, d7, d8] }
  | _ => none }
def rowReadsRow : OpenClaim := { program := "ytjdikhelabibnaagreat", sum := "0136d9eb766400a42e43f18eb8e580e8110f35b3322f565da211293c78bcc03b", func := "ramekin/ramekinlaw11.RowReads", spec := "rowReads", unfollowed := true, recurses := true, apart := false }
def RowReadsSaid : Prop := rowReadsRow.holds Tryz.pinned (OpenSpec.ofChange rowReadsSpec)

/-- ITS FALSE NEIGHBOUR: 'it returns false'. Refute it at one input. -/
def rowReadsWrong : ChangeSpec := { name := "rowReads", fn := fun _ => fun
  | [d1, d2, d3, d4, d5, d6, d7, d8] => { results := [.lit (.bool false)], args := [d1, d2, d3, d4, d5, d6, d7, d8] }
  | _ => none }
def RowReadsWrongFalsely : Prop := rowReadsRow.holds Tryz.pinned (OpenSpec.ofChange rowReadsWrong)

/-- 'ramekinlaw11.RowWrong': WHATEVER THE INPUT: true; the input reads as it did. -/
def rowWrongSpec : ChangeSpec := { name := "rowWrong", fn := fun _ => fun
  | [d1, d2, d3, d4] => { results := [.lit (.bool true)], args := [d1, d2, d3, d4] }
  | _ => none }
def rowWrongRow : OpenClaim := { program := "ytjdikhelabibnaagreat", sum := "0136d9eb766400a42e43f18eb8e580e8110f35b3322f565da211293c78bcc03b", func := "ramekin/ramekinlaw11.RowWrong", spec := "rowWrong", unfollowed := true, recurses := true, apart := false }
def RowWrongSaid : Prop := rowWrongRow.holds Tryz.pinned (OpenSpec.ofChange rowWrongSpec)

/-- ITS FALSE NEIGHBOUR: 'it returns false'. Refute it at one input. -/
def rowWrongWrong : ChangeSpec := { name := "rowWrong", fn := fun _ => fun
  | [d1, d2, d3, d4] => { results := [.lit (.bool false)], args := [d1, d2, d3, d4] }
  | _ => none }
def RowWrongWrongFalsely : Prop := rowWrongRow.holds Tryz.pinned (OpenSpec.ofChange rowWrongWrong)

/-- 'ramekinlaw11.RowPayloads': WHATEVER THE INPUT: true; the input reads as it did. -/
def rowPayloadsSpec : ChangeSpec := { name := "rowPayloads", fn := fun _ => fun
  | [d1, d2, d3, d4, d5] => { results := [.lit (.bool true)], args := [d1, d2, d3, d4, d5] }
  | _ => none }
def rowPayloadsRow : OpenClaim := { program := "ytjdikhelabibnaagreat", sum := "0136d9eb766400a42e43f18eb8e580e8110f35b3322f565da211293c78bcc03b", func := "ramekin/ramekinlaw11.RowPayloads", spec := "rowPayloads", unfollowed := true, recurses := true, apart := false }
def RowPayloadsSaid : Prop := rowPayloadsRow.holds Tryz.pinned (OpenSpec.ofChange rowPayloadsSpec)

/-- ITS FALSE NEIGHBOUR: 'it returns false'. Refute it at one input. -/
def rowPayloadsWrong : ChangeSpec := { name := "rowPayloads", fn := fun _ => fun
  | [d1, d2, d3, d4, d5] => { results := [.lit (.bool false)], args := [d1, d2, d3, d4, d5] }
  | _ => none }
def RowPayloadsWrongFalsely : Prop := rowPayloadsRow.holds Tryz.pinned (OpenSpec.ofChange rowPayloadsWrong)

/-- 'ramekinlaw11.RowPlace': WHATEVER THE INPUT: true; the input reads as it did. -/
def rowPlaceSpec : ChangeSpec := { name := "rowPlace", fn := fun _ => fun
  | [d1, d2, d3, d4, d5] => { results := [.lit (.bool true)], args := [d1, d2, d3, d4, d5] }
  | _ => none }
def rowPlaceRow : OpenClaim := { program := "ytjdikhelabibnaagreat", sum := "0136d9eb766400a42e43f18eb8e580e8110f35b3322f565da211293c78bcc03b", func := "ramekin/ramekinlaw11.RowPlace", spec := "rowPlace", unfollowed := true, recurses := true, apart := false }
def RowPlaceSaid : Prop := rowPlaceRow.holds Tryz.pinned (OpenSpec.ofChange rowPlaceSpec)

/-- ITS FALSE NEIGHBOUR: 'it returns false'. Refute it at one input. -/
def rowPlaceWrong : ChangeSpec := { name := "rowPlace", fn := fun _ => fun
  | [d1, d2, d3, d4, d5] => { results := [.lit (.bool false)], args := [d1, d2, d3, d4, d5] }
  | _ => none }
def RowPlaceWrongFalsely : Prop := rowPlaceRow.holds Tryz.pinned (OpenSpec.ofChange rowPlaceWrong)

/- THE SECOND FORM. 'bulk': how many values and letters a reading holds, each counted each time it is reached (what is shared counts as often as it is met; a slice's spare places count too). A statement '..UptoSaid' is the law's where the arguments, and the package variables that the reading takes, are together of bulk at most 1048576: NARROWER than '..Said'. Prove '..Said' where nothing that the law and all that it calls make is longer than what came in: it says more and counts as full. Else prove '..UptoSaid'. A law counts once. -/
mutual
def uptoBulk {H : Type} : DataW H → Nat
  | .lit (.string bytes) => bytes.length + 1
  | .lit _ => 1
  | .nil => 1
  | .ptr d => uptoBulk d + 1
  | .slice elems spare => uptoBulkAll elems + uptoBulkAll spare + 1
  | .agg parts => uptoBulkAll parts + 1
  | .iface _ d => uptoBulk d + 1
  | .map entries => uptoBulkEntries entries + 1
  | .held _ => 1
def uptoBulkAll {H : Type} : List (DataW H) → Nat
  | [] => 0
  | d :: r => uptoBulk d + uptoBulkAll r
def uptoBulkEntries {H : Type} : List (Lit × DataW H) → Nat
  | [] => 0
  | x :: r => uptoBulkEntry x + uptoBulkEntries r
def uptoBulkEntry {H : Type} : Lit × DataW H → Nat
  | (.string bytes, d) => bytes.length + uptoBulk d + 1
  | (_, d) => uptoBulk d + 1
 end
def uptoSmall : (H : Type) → List (DataW H) → Bool := fun _ ds => decide (uptoBulkAll ds ≤ 1048576)
def OpenSpec.upto (s : _root_.Go.ChangeSpec) : _root_.Go.OpenSpec := { _root_.Go.OpenSpec.ofChange s with cond := some uptoSmall }

/-- 'ramekinlaw11.RowEncodes', WHERE WHAT IT READS IS OF BULK AT MOST 1048576: true; the input reads as it did. -/
def rowEncodesUptoRow : OpenClaim := { program := "ytjdikhelabibnaagreat", sum := "0136d9eb766400a42e43f18eb8e580e8110f35b3322f565da211293c78bcc03b", func := "ramekin/ramekinlaw11.RowEncodes", spec := "rowEncodes", unfollowed := true, recurses := true, apart := false, narrowed := true }
def RowEncodesUptoSaid : Prop := rowEncodesUptoRow.holds Tryz.pinned (OpenSpec.upto rowEncodesSpec)

/-- 'ramekinlaw11.RowBack', WHERE WHAT IT READS IS OF BULK AT MOST 1048576: true; the input reads as it did. -/
def rowBackUptoRow : OpenClaim := { program := "ytjdikhelabibnaagreat", sum := "0136d9eb766400a42e43f18eb8e580e8110f35b3322f565da211293c78bcc03b", func := "ramekin/ramekinlaw11.RowBack", spec := "rowBack", unfollowed := true, recurses := true, apart := false, narrowed := true }
def RowBackUptoSaid : Prop := rowBackUptoRow.holds Tryz.pinned (OpenSpec.upto rowBackSpec)

/-- 'ramekinlaw11.RowReads', WHERE WHAT IT READS IS OF BULK AT MOST 1048576: true; the input reads as it did. -/
def rowReadsUptoRow : OpenClaim := { program := "ytjdikhelabibnaagreat", sum := "0136d9eb766400a42e43f18eb8e580e8110f35b3322f565da211293c78bcc03b", func := "ramekin/ramekinlaw11.RowReads", spec := "rowReads", unfollowed := true, recurses := true, apart := false, narrowed := true }
def RowReadsUptoSaid : Prop := rowReadsUptoRow.holds Tryz.pinned (OpenSpec.upto rowReadsSpec)

/-- 'ramekinlaw11.RowWrong', WHERE WHAT IT READS IS OF BULK AT MOST 1048576: true; the input reads as it did. -/
def rowWrongUptoRow : OpenClaim := { program := "ytjdikhelabibnaagreat", sum := "0136d9eb766400a42e43f18eb8e580e8110f35b3322f565da211293c78bcc03b", func := "ramekin/ramekinlaw11.RowWrong", spec := "rowWrong", unfollowed := true, recurses := true, apart := false, narrowed := true }
def RowWrongUptoSaid : Prop := rowWrongUptoRow.holds Tryz.pinned (OpenSpec.upto rowWrongSpec)

/-- 'ramekinlaw11.RowPayloads', WHERE WHAT IT READS IS OF BULK AT MOST 1048576: true; the input reads as it did. -/
def rowPayloadsUptoRow : OpenClaim := { program := "ytjdikhelabibnaagreat", sum := "0136d9eb766400a42e43f18eb8e580e8110f35b3322f565da211293c78bcc03b", func := "ramekin/ramekinlaw11.RowPayloads", spec := "rowPayloads", unfollowed := true, recurses := true, apart := false, narrowed := true }
def RowPayloadsUptoSaid : Prop := rowPayloadsUptoRow.holds Tryz.pinned (OpenSpec.upto rowPayloadsSpec)

/-- 'ramekinlaw11.RowPlace', WHERE WHAT IT READS IS OF BULK AT MOST 1048576: true; the input reads as it did. -/
def rowPlaceUptoRow : OpenClaim := { program := "ytjdikhelabibnaagreat", sum := "0136d9eb766400a42e43f18eb8e580e8110f35b3322f565da211293c78bcc03b", func := "ramekin/ramekinlaw11.RowPlace", spec := "rowPlace", unfollowed := true, recurses := true, apart := false, narrowed := true }
def RowPlaceUptoSaid : Prop := rowPlaceUptoRow.holds Tryz.pinned (OpenSpec.upto rowPlaceSpec)

end Rows
end Go.Proofs.YtjdikhelabibnaaGreat
