/-
  No cell of these rows narrows 'for every input' (looked for: loops, veiled, ifaces, maps, wideKeys, modest, calm, conditions, laid).
  DERIVED. THE GIVEN ROWS OF THIS SEAT. 6 by the template 'for every input the law returns true; each argument reads behind the call as it read before'; 0 by the template 'total and deterministic' (their statements: YtnondiaefpdlpaaTotals.lean).
  GIVEN WITH THE SEED: the statements are not yours to turn. If you find one false, say at which input.
  Laid BY PROGRAM, IN A SANDBOX (cutbox-rows.mjs): the forced cells as the released guide's own fill.sh prints them over the translation 2882a35bfa0e1014… (all of the seat's roots in one cut). By AI agents, Wed Nov 11 2026. No macro, syntax, notation, axiom, sorry.
-/
import Derived.Test.YtnondiaefpdlpaaChecked
import GoSem.Claim
import GoSem.ClaimJoined
import GoSem.ClaimMapViews
import Derived.JoinedTies
import Derived.KernelRfl
namespace Go.Proofs.Ytnondiaefpdlpaa
/- THE CELL 'sum', in the pinned program and in every row, IS THE sha256 OF THE DUMP (.gsa) THAT YtnondiaefpdlpaaProg.lean LOADS. Nothing in Lean hashes anything: it is a label: what it is worth is what the hold of that sum in a sandbox is worth. -/
noncomputable def Try.pinned : Pinned := { name := "ytnondiaefpdlpaa", sum := "2882a35bfa0e1014a7e823a6344d5829b52aa815a1027738ae8c0dba08fe399e", checked := Try.checked }
namespace Rows
def none {H : Type} : Left H := { results := [], args := [] }

/-- 'ramekinlaw7.NandPlays': WHATEVER THE INPUT: true; the input reads as it did. -/
def nandPlaysSpec : ChangeSpec := { name := "nandPlays", fn := fun _ => fun
  | [d1, d2, d3] => { results := [.lit (.bool true)], args := [d1, d2, d3] }
  | _ => none }
def nandPlaysRow : OpenClaim := { program := "ytnondiaefpdlpaa", sum := "2882a35bfa0e1014a7e823a6344d5829b52aa815a1027738ae8c0dba08fe399e", func := "ramekin/ramekinlaw7.NandPlays", spec := "nandPlays", inPlace := ["internal/bytealg.MakeNoZero"], unfollowed := true, recurses := true, apart := false }
def NandPlaysSaid : Prop := nandPlaysRow.holds Try.pinned (OpenSpec.ofChange nandPlaysSpec)

/-- ITS FALSE NEIGHBOUR: 'it returns false'. Refute it at one input. -/
def nandPlaysWrong : ChangeSpec := { name := "nandPlays", fn := fun _ => fun
  | [d1, d2, d3] => { results := [.lit (.bool false)], args := [d1, d2, d3] }
  | _ => none }
def NandPlaysWrongFalsely : Prop := nandPlaysRow.holds Try.pinned (OpenSpec.ofChange nandPlaysWrong)

/-- 'ramekinlaw7.NandMakes': WHATEVER THE INPUT: true; the input reads as it did. -/
def nandMakesSpec : ChangeSpec := { name := "nandMakes", fn := fun _ => fun
  | [d1, d2, d3, d4] => { results := [.lit (.bool true)], args := [d1, d2, d3, d4] }
  | _ => none }
def nandMakesRow : OpenClaim := { program := "ytnondiaefpdlpaa", sum := "2882a35bfa0e1014a7e823a6344d5829b52aa815a1027738ae8c0dba08fe399e", func := "ramekin/ramekinlaw7.NandMakes", spec := "nandMakes", inPlace := ["internal/bytealg.MakeNoZero"], unfollowed := true, recurses := true, apart := false }
def NandMakesSaid : Prop := nandMakesRow.holds Try.pinned (OpenSpec.ofChange nandMakesSpec)

/-- ITS FALSE NEIGHBOUR: 'it returns false'. Refute it at one input. -/
def nandMakesWrong : ChangeSpec := { name := "nandMakes", fn := fun _ => fun
  | [d1, d2, d3, d4] => { results := [.lit (.bool false)], args := [d1, d2, d3, d4] }
  | _ => none }
def NandMakesWrongFalsely : Prop := nandMakesRow.holds Try.pinned (OpenSpec.ofChange nandMakesWrong)

/-- 'ramekinlaw7.NandOrder': WHATEVER THE INPUT: true; the input reads as it did. -/
def nandOrderSpec : ChangeSpec := { name := "nandOrder", fn := fun _ => fun
  | [d1, d2] => { results := [.lit (.bool true)], args := [d1, d2] }
  | _ => none }
def nandOrderRow : OpenClaim := { program := "ytnondiaefpdlpaa", sum := "2882a35bfa0e1014a7e823a6344d5829b52aa815a1027738ae8c0dba08fe399e", func := "ramekin/ramekinlaw7.NandOrder", spec := "nandOrder", inPlace := ["internal/bytealg.MakeNoZero"], unfollowed := true, recurses := true, apart := false }
def NandOrderSaid : Prop := nandOrderRow.holds Try.pinned (OpenSpec.ofChange nandOrderSpec)

/-- ITS FALSE NEIGHBOUR: 'it returns false'. Refute it at one input. -/
def nandOrderWrong : ChangeSpec := { name := "nandOrder", fn := fun _ => fun
  | [d1, d2] => { results := [.lit (.bool false)], args := [d1, d2] }
  | _ => none }
def NandOrderWrongFalsely : Prop := nandOrderRow.holds Try.pinned (OpenSpec.ofChange nandOrderWrong)

/-- 'ramekinlaw7.NandTorn': WHATEVER THE INPUT: true; the input reads as it did. -/
def nandTornSpec : ChangeSpec := { name := "nandTorn", fn := fun _ => fun
  | [d1, d2, d3] => { results := [.lit (.bool true)], args := [d1, d2, d3] }
  | _ => none }
def nandTornRow : OpenClaim := { program := "ytnondiaefpdlpaa", sum := "2882a35bfa0e1014a7e823a6344d5829b52aa815a1027738ae8c0dba08fe399e", func := "ramekin/ramekinlaw7.NandTorn", spec := "nandTorn", inPlace := ["internal/bytealg.MakeNoZero"], unfollowed := true, recurses := true, apart := false }
def NandTornSaid : Prop := nandTornRow.holds Try.pinned (OpenSpec.ofChange nandTornSpec)

/-- ITS FALSE NEIGHBOUR: 'it returns false'. Refute it at one input. -/
def nandTornWrong : ChangeSpec := { name := "nandTorn", fn := fun _ => fun
  | [d1, d2, d3] => { results := [.lit (.bool false)], args := [d1, d2, d3] }
  | _ => none }
def NandTornWrongFalsely : Prop := nandTornRow.holds Try.pinned (OpenSpec.ofChange nandTornWrong)

/-- 'ramekinlaw7.NandErase': WHATEVER THE INPUT: true; the input reads as it did. -/
def nandEraseSpec : ChangeSpec := { name := "nandErase", fn := fun _ => fun
  | [d1, d2, d3] => { results := [.lit (.bool true)], args := [d1, d2, d3] }
  | _ => none }
def nandEraseRow : OpenClaim := { program := "ytnondiaefpdlpaa", sum := "2882a35bfa0e1014a7e823a6344d5829b52aa815a1027738ae8c0dba08fe399e", func := "ramekin/ramekinlaw7.NandErase", spec := "nandErase", inPlace := ["internal/bytealg.MakeNoZero"], unfollowed := true, recurses := true, apart := false }
def NandEraseSaid : Prop := nandEraseRow.holds Try.pinned (OpenSpec.ofChange nandEraseSpec)

/-- ITS FALSE NEIGHBOUR: 'it returns false'. Refute it at one input. -/
def nandEraseWrong : ChangeSpec := { name := "nandErase", fn := fun _ => fun
  | [d1, d2, d3] => { results := [.lit (.bool false)], args := [d1, d2, d3] }
  | _ => none }
def NandEraseWrongFalsely : Prop := nandEraseRow.holds Try.pinned (OpenSpec.ofChange nandEraseWrong)

/-- 'ramekinlaw7.NandBad': WHATEVER THE INPUT: true; the input reads as it did. -/
def nandBadSpec : ChangeSpec := { name := "nandBad", fn := fun _ => fun
  | [d1, d2, d3, d4] => { results := [.lit (.bool true)], args := [d1, d2, d3, d4] }
  | _ => none }
def nandBadRow : OpenClaim := { program := "ytnondiaefpdlpaa", sum := "2882a35bfa0e1014a7e823a6344d5829b52aa815a1027738ae8c0dba08fe399e", func := "ramekin/ramekinlaw7.NandBad", spec := "nandBad", inPlace := ["internal/bytealg.MakeNoZero"], unfollowed := true, recurses := true, apart := false }
def NandBadSaid : Prop := nandBadRow.holds Try.pinned (OpenSpec.ofChange nandBadSpec)

/-- ITS FALSE NEIGHBOUR: 'it returns false'. Refute it at one input. -/
def nandBadWrong : ChangeSpec := { name := "nandBad", fn := fun _ => fun
  | [d1, d2, d3, d4] => { results := [.lit (.bool false)], args := [d1, d2, d3, d4] }
  | _ => none }
def NandBadWrongFalsely : Prop := nandBadRow.holds Try.pinned (OpenSpec.ofChange nandBadWrong)

/- THE SECOND FORM. 'bulk': how many values and letters a reading holds, each counted each time it is reached (what is shared counts as often as it is met; a slice's spare places count too). A statement '..UptoSaid' is the law's where the arguments, and the package variables that the reading takes, are together of bulk at most 1048576: NARROWER than '..Said'. Prove '..Said' where nothing that the law and all that it calls make is longer than what came in: it says more and counts as full. Else prove '..UptoSaid'. A law counts once. -/
mutual
def uptoBulk {H : Type} : DataW H → Nat
  | .lit (.string bytes) => bytes.length + 1
  | .lit _ => 1
  | .nil => 1
  | .ptr d => uptoBulk d + 1
  | .slice elems spare => uptoBulkAll elems + uptoBulkAll spare + 1
  | .agg parts => uptoBulkAll parts + 1
  | .iface _ d => uptoBulk d + 1
  | .map entries => uptoBulkEntries entries + 1
  | .held _ => 1
def uptoBulkAll {H : Type} : List (DataW H) → Nat
  | [] => 0
  | d :: r => uptoBulk d + uptoBulkAll r
def uptoBulkEntries {H : Type} : List (Lit × DataW H) → Nat
  | [] => 0
  | x :: r => uptoBulkEntry x + uptoBulkEntries r
def uptoBulkEntry {H : Type} : Lit × DataW H → Nat
  | (.string bytes, d) => bytes.length + uptoBulk d + 1
  | (_, d) => uptoBulk d + 1
 end
def uptoSmall : (H : Type) → List (DataW H) → Bool := fun _ ds => decide (uptoBulkAll ds ≤ 1048576)
def OpenSpec.upto (s : _root_.Go.ChangeSpec) : _root_.Go.OpenSpec := { _root_.Go.OpenSpec.ofChange s with cond := some uptoSmall }

/-- 'ramekinlaw7.NandPlays', WHERE WHAT IT READS IS OF BULK AT MOST 1048576: true; the input reads as it did. -/
def nandPlaysUptoRow : OpenClaim := { program := "ytnondiaefpdlpaa", sum := "2882a35bfa0e1014a7e823a6344d5829b52aa815a1027738ae8c0dba08fe399e", func := "ramekin/ramekinlaw7.NandPlays", spec := "nandPlays", inPlace := ["internal/bytealg.MakeNoZero"], unfollowed := true, recurses := true, apart := false, narrowed := true }
def NandPlaysUptoSaid : Prop := nandPlaysUptoRow.holds Try.pinned (OpenSpec.upto nandPlaysSpec)

/-- 'ramekinlaw7.NandMakes', WHERE WHAT IT READS IS OF BULK AT MOST 1048576: true; the input reads as it did. -/
def nandMakesUptoRow : OpenClaim := { program := "ytnondiaefpdlpaa", sum := "2882a35bfa0e1014a7e823a6344d5829b52aa815a1027738ae8c0dba08fe399e", func := "ramekin/ramekinlaw7.NandMakes", spec := "nandMakes", inPlace := ["internal/bytealg.MakeNoZero"], unfollowed := true, recurses := true, apart := false, narrowed := true }
def NandMakesUptoSaid : Prop := nandMakesUptoRow.holds Try.pinned (OpenSpec.upto nandMakesSpec)

/-- 'ramekinlaw7.NandOrder', WHERE WHAT IT READS IS OF BULK AT MOST 1048576: true; the input reads as it did. -/
def nandOrderUptoRow : OpenClaim := { program := "ytnondiaefpdlpaa", sum := "2882a35bfa0e1014a7e823a6344d5829b52aa815a1027738ae8c0dba08fe399e", func := "ramekin/ramekinlaw7.NandOrder", spec := "nandOrder", inPlace := ["internal/bytealg.MakeNoZero"], unfollowed := true, recurses := true, apart := false, narrowed := true }
def NandOrderUptoSaid : Prop := nandOrderUptoRow.holds Try.pinned (OpenSpec.upto nandOrderSpec)

/-- 'ramekinlaw7.NandTorn', WHERE WHAT IT READS IS OF BULK AT MOST 1048576: true; the input reads as it did. -/
def nandTornUptoRow : OpenClaim := { program := "ytnondiaefpdlpaa", sum := "2882a35bfa0e1014a7e823a6344d5829b52aa815a1027738ae8c0dba08fe399e", func := "ramekin/ramekinlaw7.NandTorn", spec := "nandTorn", inPlace := ["internal/bytealg.MakeNoZero"], unfollowed := true, recurses := true, apart := false, narrowed := true }
def NandTornUptoSaid : Prop := nandTornUptoRow.holds Try.pinned (OpenSpec.upto nandTornSpec)

/-- 'ramekinlaw7.NandErase', WHERE WHAT IT READS IS OF BULK AT MOST 1048576: true; the input reads as it did. -/
def nandEraseUptoRow : OpenClaim := { program := "ytnondiaefpdlpaa", sum := "2882a35bfa0e1014a7e823a6344d5829b52aa815a1027738ae8c0dba08fe399e", func := "ramekin/ramekinlaw7.NandErase", spec := "nandErase", inPlace := ["internal/bytealg.MakeNoZero"], unfollowed := true, recurses := true, apart := false, narrowed := true }
def NandEraseUptoSaid : Prop := nandEraseUptoRow.holds Try.pinned (OpenSpec.upto nandEraseSpec)

/-- 'ramekinlaw7.NandBad', WHERE WHAT IT READS IS OF BULK AT MOST 1048576: true; the input reads as it did. -/
def nandBadUptoRow : OpenClaim := { program := "ytnondiaefpdlpaa", sum := "2882a35bfa0e1014a7e823a6344d5829b52aa815a1027738ae8c0dba08fe399e", func := "ramekin/ramekinlaw7.NandBad", spec := "nandBad", inPlace := ["internal/bytealg.MakeNoZero"], unfollowed := true, recurses := true, apart := false, narrowed := true }
def NandBadUptoSaid : Prop := nandBadUptoRow.holds Try.pinned (OpenSpec.upto nandBadSpec)

end Rows
end Go.Proofs.Ytnondiaefpdlpaa
