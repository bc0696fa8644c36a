/-
  No cell of these rows narrows 'for every input' (looked for: loops, veiled, ifaces, maps, wideKeys, modest, calm, conditions, laid).
  DERIVED. THE GIVEN ROWS OF THIS SEAT. 2 by the template 'for every input the law returns true; each argument reads behind the call as it read before'; 0 by the template 'total and deterministic' (their statements: YtdlbkgehgbacmabTotals.lean).
  GIVEN WITH THE SEED: the statements are not yours to turn. If you find one false, say at which input.
  Laid BY PROGRAM, IN A SANDBOX (cutbox-rows.mjs): the forced cells as the released guide's own fill.sh prints them over the translation 0e0ffb303b24f874… (all of the seat's roots in one cut). By AI agents, Wed Nov 11 2026. No macro, syntax, notation, axiom, sorry.
-/
import Derived.Test.YtdlbkgehgbacmabChecked
import GoSem.Claim
import GoSem.ClaimJoined
import GoSem.ClaimMapViews
import Derived.JoinedTies
import Derived.KernelRfl
namespace Go.Proofs.Ytdlbkgehgbacmab
/- THE CELL 'sum', in the pinned program and in every row, IS THE sha256 OF THE DUMP (.gsa) THAT YtdlbkgehgbacmabProg.lean LOADS. Nothing in Lean hashes anything: it is a label: what it is worth is what the hold of that sum in a sandbox is worth. -/
noncomputable def Try.pinned : Pinned := { name := "ytdlbkgehgbacmab", sum := "0e0ffb303b24f87450ae6ff5ec12740915ca5a27260ccd00b0c8bcd223e9fbf4", checked := Try.checked }
namespace Rows
def none {H : Type} : Left H := { results := [], args := [] }

/-- 'ramekinlaw5.RsAlone': WHATEVER THE INPUT: true; the input reads as it did. -/
def rsAloneSpec : ChangeSpec := { name := "rsAlone", fn := fun _ => fun
  | [d1, d2, d3, d4] => { results := [.lit (.bool true)], args := [d1, d2, d3, d4] }
  | _ => none }
def rsAloneRow : OpenClaim := { program := "ytdlbkgehgbacmab", sum := "0e0ffb303b24f87450ae6ff5ec12740915ca5a27260ccd00b0c8bcd223e9fbf4", func := "ramekin/ramekinlaw5.RsAlone", spec := "rsAlone", unfollowed := true, recurses := true, apart := false }
def RsAloneSaid : Prop := rsAloneRow.holds Try.pinned (OpenSpec.ofChange rsAloneSpec)

/-- ITS FALSE NEIGHBOUR: 'it returns false'. Refute it at one input. -/
def rsAloneWrong : ChangeSpec := { name := "rsAlone", fn := fun _ => fun
  | [d1, d2, d3, d4] => { results := [.lit (.bool false)], args := [d1, d2, d3, d4] }
  | _ => none }
def RsAloneWrongFalsely : Prop := rsAloneRow.holds Try.pinned (OpenSpec.ofChange rsAloneWrong)

/-- 'ramekinlaw5.RsBounds': WHATEVER THE INPUT: true; the input reads as it did. -/
def rsBoundsSpec : ChangeSpec := { name := "rsBounds", fn := fun _ => fun
  | [d1, d2, d3] => { results := [.lit (.bool true)], args := [d1, d2, d3] }
  | _ => none }
def rsBoundsRow : OpenClaim := { program := "ytdlbkgehgbacmab", sum := "0e0ffb303b24f87450ae6ff5ec12740915ca5a27260ccd00b0c8bcd223e9fbf4", func := "ramekin/ramekinlaw5.RsBounds", spec := "rsBounds", unfollowed := true, recurses := true, apart := false }
def RsBoundsSaid : Prop := rsBoundsRow.holds Try.pinned (OpenSpec.ofChange rsBoundsSpec)

/-- ITS FALSE NEIGHBOUR: 'it returns false'. Refute it at one input. -/
def rsBoundsWrong : ChangeSpec := { name := "rsBounds", fn := fun _ => fun
  | [d1, d2, d3] => { results := [.lit (.bool false)], args := [d1, d2, d3] }
  | _ => none }
def RsBoundsWrongFalsely : Prop := rsBoundsRow.holds Try.pinned (OpenSpec.ofChange rsBoundsWrong)

/- THE SECOND FORM. 'bulk': how many values and letters a reading holds, each counted each time it is reached (what is shared counts as often as it is met; a slice's spare places count too). A statement '..UptoSaid' is the law's where the arguments, and the package variables that the reading takes, are together of bulk at most 1048576: NARROWER than '..Said'. Prove '..Said' where nothing that the law and all that it calls make is longer than what came in: it says more and counts as full. Else prove '..UptoSaid'. A law counts once. -/
mutual
def uptoBulk {H : Type} : DataW H → Nat
  | .lit (.string bytes) => bytes.length + 1
  | .lit _ => 1
  | .nil => 1
  | .ptr d => uptoBulk d + 1
  | .slice elems spare => uptoBulkAll elems + uptoBulkAll spare + 1
  | .agg parts => uptoBulkAll parts + 1
  | .iface _ d => uptoBulk d + 1
  | .map entries => uptoBulkEntries entries + 1
  | .held _ => 1
def uptoBulkAll {H : Type} : List (DataW H) → Nat
  | [] => 0
  | d :: r => uptoBulk d + uptoBulkAll r
def uptoBulkEntries {H : Type} : List (Lit × DataW H) → Nat
  | [] => 0
  | x :: r => uptoBulkEntry x + uptoBulkEntries r
def uptoBulkEntry {H : Type} : Lit × DataW H → Nat
  | (.string bytes, d) => bytes.length + uptoBulk d + 1
  | (_, d) => uptoBulk d + 1
 end
def uptoSmall : (H : Type) → List (DataW H) → Bool := fun _ ds => decide (uptoBulkAll ds ≤ 1048576)
def OpenSpec.upto (s : _root_.Go.ChangeSpec) : _root_.Go.OpenSpec := { _root_.Go.OpenSpec.ofChange s with cond := some uptoSmall }

/-- 'ramekinlaw5.RsAlone', WHERE WHAT IT READS IS OF BULK AT MOST 1048576: true; the input reads as it did. -/
def rsAloneUptoRow : OpenClaim := { program := "ytdlbkgehgbacmab", sum := "0e0ffb303b24f87450ae6ff5ec12740915ca5a27260ccd00b0c8bcd223e9fbf4", func := "ramekin/ramekinlaw5.RsAlone", spec := "rsAlone", unfollowed := true, recurses := true, apart := false, narrowed := true }
def RsAloneUptoSaid : Prop := rsAloneUptoRow.holds Try.pinned (OpenSpec.upto rsAloneSpec)

/-- 'ramekinlaw5.RsBounds', WHERE WHAT IT READS IS OF BULK AT MOST 1048576: true; the input reads as it did. -/
def rsBoundsUptoRow : OpenClaim := { program := "ytdlbkgehgbacmab", sum := "0e0ffb303b24f87450ae6ff5ec12740915ca5a27260ccd00b0c8bcd223e9fbf4", func := "ramekin/ramekinlaw5.RsBounds", spec := "rsBounds", unfollowed := true, recurses := true, apart := false, narrowed := true }
def RsBoundsUptoSaid : Prop := rsBoundsUptoRow.holds Try.pinned (OpenSpec.upto rsBoundsSpec)

end Rows
end Go.Proofs.Ytdlbkgehgbacmab
