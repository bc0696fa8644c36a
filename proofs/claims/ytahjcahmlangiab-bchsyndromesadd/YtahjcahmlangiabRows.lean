/-
  No cell of these rows narrows 'for every input' (looked for: loops, veiled, ifaces, maps, wideKeys, modest, calm, conditions, laid).
  DERIVED. THE GIVEN ROWS OF THIS SEAT. 4 by the template 'for every input the law returns true; each argument reads behind the call as it read before'; 0 by the template 'total and deterministic' (their statements: YtahjcahmlangiabTotals.lean).
  GIVEN WITH THE SEED: the statements are not yours to turn. If you find one false, say at which input.
  Laid BY PROGRAM, IN A SANDBOX (cutbox-rows.mjs): the forced cells as the released guide's own fill.sh prints them over the translation 2edd0a18472db876… (all of the seat's roots in one cut). By AI agents, Wed Nov 11 2026. No macro, syntax, notation, axiom, sorry.
-/
import Derived.Test.YtahjcahmlangiabChecked
import GoSem.Claim
import GoSem.ClaimJoined
import GoSem.ClaimMapViews
import Derived.JoinedTies
import Derived.KernelRfl
namespace Go.Proofs.Ytahjcahmlangiab
/- THE CELL 'sum', in the pinned program and in every row, IS THE sha256 OF THE DUMP (.gsa) THAT YtahjcahmlangiabProg.lean LOADS. Nothing in Lean hashes anything: it is a label: what it is worth is what the hold of that sum in a sandbox is worth. -/
noncomputable def Try.pinned : Pinned := { name := "ytahjcahmlangiab", sum := "2edd0a18472db876d1328ec307ba9dcd4492b7abd7a548c3034e74eadd9c8731", checked := Try.checked }
namespace Rows
def none {H : Type} : Left H := { results := [], args := [] }

/-- 'ramekinlaw4.BchOne': WHATEVER THE INPUT: true; the input reads as it did. -/
def bchOneSpec : ChangeSpec := { name := "bchOne", fn := fun _ => fun
  | [d1, d2] => { results := [.lit (.bool true)], args := [d1, d2] }
  | _ => none }
def bchOneRow : OpenClaim := { program := "ytahjcahmlangiab", sum := "2edd0a18472db876d1328ec307ba9dcd4492b7abd7a548c3034e74eadd9c8731", func := "ramekin/ramekinlaw4.BchOne", spec := "bchOne", unfollowed := true, recurses := true, apart := false }
def BchOneSaid : Prop := bchOneRow.holds Try.pinned (OpenSpec.ofChange bchOneSpec)

/-- ITS FALSE NEIGHBOUR: 'it returns false'. Refute it at one input. -/
def bchOneWrong : ChangeSpec := { name := "bchOne", fn := fun _ => fun
  | [d1, d2] => { results := [.lit (.bool false)], args := [d1, d2] }
  | _ => none }
def BchOneWrongFalsely : Prop := bchOneRow.holds Try.pinned (OpenSpec.ofChange bchOneWrong)

/-- 'ramekinlaw4.BchSyndromesAdd': WHATEVER THE INPUT: true; the input reads as it did. -/
def bchSyndromesAddSpec : ChangeSpec := { name := "bchSyndromesAdd", fn := fun _ => fun
  | [d1, d2] => { results := [.lit (.bool true)], args := [d1, d2] }
  | _ => none }
def bchSyndromesAddRow : OpenClaim := { program := "ytahjcahmlangiab", sum := "2edd0a18472db876d1328ec307ba9dcd4492b7abd7a548c3034e74eadd9c8731", func := "ramekin/ramekinlaw4.BchSyndromesAdd", spec := "bchSyndromesAdd", unfollowed := true, recurses := true, apart := false }
def BchSyndromesAddSaid : Prop := bchSyndromesAddRow.holds Try.pinned (OpenSpec.ofChange bchSyndromesAddSpec)

/-- ITS FALSE NEIGHBOUR: 'it returns false'. Refute it at one input. -/
def bchSyndromesAddWrong : ChangeSpec := { name := "bchSyndromesAdd", fn := fun _ => fun
  | [d1, d2] => { results := [.lit (.bool false)], args := [d1, d2] }
  | _ => none }
def BchSyndromesAddWrongFalsely : Prop := bchSyndromesAddRow.holds Try.pinned (OpenSpec.ofChange bchSyndromesAddWrong)

/-- 'ramekinlaw4.BchNear': WHATEVER THE INPUT: true; the input reads as it did. -/
def bchNearSpec : ChangeSpec := { name := "bchNear", fn := fun _ => fun
  | [d1, d2] => { results := [.lit (.bool true)], args := [d1, d2] }
  | _ => none }
def bchNearRow : OpenClaim := { program := "ytahjcahmlangiab", sum := "2edd0a18472db876d1328ec307ba9dcd4492b7abd7a548c3034e74eadd9c8731", func := "ramekin/ramekinlaw4.BchNear", spec := "bchNear", unfollowed := true, recurses := true, apart := false }
def BchNearSaid : Prop := bchNearRow.holds Try.pinned (OpenSpec.ofChange bchNearSpec)

/-- ITS FALSE NEIGHBOUR: 'it returns false'. Refute it at one input. -/
def bchNearWrong : ChangeSpec := { name := "bchNear", fn := fun _ => fun
  | [d1, d2] => { results := [.lit (.bool false)], args := [d1, d2] }
  | _ => none }
def BchNearWrongFalsely : Prop := bchNearRow.holds Try.pinned (OpenSpec.ofChange bchNearWrong)

/-- 'ramekinlaw4.BchSizes': WHATEVER THE INPUT: true; the input reads as it did. -/
def bchSizesSpec : ChangeSpec := { name := "bchSizes", fn := fun _ => fun
  | [d1, d2] => { results := [.lit (.bool true)], args := [d1, d2] }
  | _ => none }
def bchSizesRow : OpenClaim := { program := "ytahjcahmlangiab", sum := "2edd0a18472db876d1328ec307ba9dcd4492b7abd7a548c3034e74eadd9c8731", func := "ramekin/ramekinlaw4.BchSizes", spec := "bchSizes", unfollowed := true, recurses := true, apart := false }
def BchSizesSaid : Prop := bchSizesRow.holds Try.pinned (OpenSpec.ofChange bchSizesSpec)

/-- ITS FALSE NEIGHBOUR: 'it returns false'. Refute it at one input. -/
def bchSizesWrong : ChangeSpec := { name := "bchSizes", fn := fun _ => fun
  | [d1, d2] => { results := [.lit (.bool false)], args := [d1, d2] }
  | _ => none }
def BchSizesWrongFalsely : Prop := bchSizesRow.holds Try.pinned (OpenSpec.ofChange bchSizesWrong)

/- THE SECOND FORM. 'bulk': how many values and letters a reading holds, each counted each time it is reached (what is shared counts as often as it is met; a slice's spare places count too). A statement '..UptoSaid' is the law's where the arguments, and the package variables that the reading takes, are together of bulk at most 1048576: NARROWER than '..Said'. Prove '..Said' where nothing that the law and all that it calls make is longer than what came in: it says more and counts as full. Else prove '..UptoSaid'. A law counts once. -/
mutual
def uptoBulk {H : Type} : DataW H → Nat
  | .lit (.string bytes) => bytes.length + 1
  | .lit _ => 1
  | .nil => 1
  | .ptr d => uptoBulk d + 1
  | .slice elems spare => uptoBulkAll elems + uptoBulkAll spare + 1
  | .agg parts => uptoBulkAll parts + 1
  | .iface _ d => uptoBulk d + 1
  | .map entries => uptoBulkEntries entries + 1
  | .held _ => 1
def uptoBulkAll {H : Type} : List (DataW H) → Nat
  | [] => 0
  | d :: r => uptoBulk d + uptoBulkAll r
def uptoBulkEntries {H : Type} : List (Lit × DataW H) → Nat
  | [] => 0
  | x :: r => uptoBulkEntry x + uptoBulkEntries r
def uptoBulkEntry {H : Type} : Lit × DataW H → Nat
  | (.string bytes, d) => bytes.length + uptoBulk d + 1
  | (_, d) => uptoBulk d + 1
 end
def uptoSmall : (H : Type) → List (DataW H) → Bool := fun _ ds => decide (uptoBulkAll ds ≤ 1048576)
def OpenSpec.upto (s : _root_.Go.ChangeSpec) : _root_.Go.OpenSpec := { _root_.Go.OpenSpec.ofChange s with cond := some uptoSmall }

/-- 'ramekinlaw4.BchOne', WHERE WHAT IT READS IS OF BULK AT MOST 1048576: true; the input reads as it did. -/
def bchOneUptoRow : OpenClaim := { program := "ytahjcahmlangiab", sum := "2edd0a18472db876d1328ec307ba9dcd4492b7abd7a548c3034e74eadd9c8731", func := "ramekin/ramekinlaw4.BchOne", spec := "bchOne", unfollowed := true, recurses := true, apart := false, narrowed := true }
def BchOneUptoSaid : Prop := bchOneUptoRow.holds Try.pinned (OpenSpec.upto bchOneSpec)

/-- 'ramekinlaw4.BchSyndromesAdd', WHERE WHAT IT READS IS OF BULK AT MOST 1048576: true; the input reads as it did. -/
def bchSyndromesAddUptoRow : OpenClaim := { program := "ytahjcahmlangiab", sum := "2edd0a18472db876d1328ec307ba9dcd4492b7abd7a548c3034e74eadd9c8731", func := "ramekin/ramekinlaw4.BchSyndromesAdd", spec := "bchSyndromesAdd", unfollowed := true, recurses := true, apart := false, narrowed := true }
def BchSyndromesAddUptoSaid : Prop := bchSyndromesAddUptoRow.holds Try.pinned (OpenSpec.upto bchSyndromesAddSpec)

/-- 'ramekinlaw4.BchNear', WHERE WHAT IT READS IS OF BULK AT MOST 1048576: true; the input reads as it did. -/
def bchNearUptoRow : OpenClaim := { program := "ytahjcahmlangiab", sum := "2edd0a18472db876d1328ec307ba9dcd4492b7abd7a548c3034e74eadd9c8731", func := "ramekin/ramekinlaw4.BchNear", spec := "bchNear", unfollowed := true, recurses := true, apart := false, narrowed := true }
def BchNearUptoSaid : Prop := bchNearUptoRow.holds Try.pinned (OpenSpec.upto bchNearSpec)

/-- 'ramekinlaw4.BchSizes', WHERE WHAT IT READS IS OF BULK AT MOST 1048576: true; the input reads as it did. -/
def bchSizesUptoRow : OpenClaim := { program := "ytahjcahmlangiab", sum := "2edd0a18472db876d1328ec307ba9dcd4492b7abd7a548c3034e74eadd9c8731", func := "ramekin/ramekinlaw4.BchSizes", spec := "bchSizes", unfollowed := true, recurses := true, apart := false, narrowed := true }
def BchSizesUptoSaid : Prop := bchSizesUptoRow.holds Try.pinned (OpenSpec.upto bchSizesSpec)

end Rows
end Go.Proofs.Ytahjcahmlangiab
