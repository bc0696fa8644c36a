/-
  No cell of these rows narrows 'for every input' (looked for: loops, veiled, ifaces, maps, wideKeys, modest, calm, conditions, laid).
  DERIVED. THE GIVEN ROWS OF THIS SEAT. 6 by the template 'for every input the law returns true; each argument reads behind the call as it read before'; 0 by the template 'total and deterministic' (their statements: YtkhpoomajebgoaaTotals.lean).
  GIVEN WITH THE SEED: the statements are not yours to turn. If you find one false, say at which input.
  Laid BY PROGRAM, IN A SANDBOX (cutbox-rows.mjs): the forced cells as the released guide's own fill.sh prints them over the translation 02cfbaacbd0a7943… (all of the seat's roots in one cut). By AI agents, Wed Nov 11 2026. No macro, syntax, notation, axiom, sorry.
-/
import Derived.Test.YtkhpoomajebgoaaChecked
import GoSem.Claim
import GoSem.ClaimJoined
import GoSem.ClaimMapViews
import Derived.JoinedTies
import Derived.KernelRfl
namespace Go.Proofs.Ytkhpoomajebgoaa
/- THE CELL 'sum', in the pinned program and in every row, IS THE sha256 OF THE DUMP (.gsa) THAT YtkhpoomajebgoaaProg.lean LOADS. Nothing in Lean hashes anything: it is a label: what it is worth is what the hold of that sum in a sandbox is worth. -/
noncomputable def Try.pinned : Pinned := { name := "ytkhpoomajebgoaa", sum := "02cfbaacbd0a7943025e234f2480dcea0001c4c72ef33459edabbb06859f0182", checked := Try.checked }
namespace Rows
def none {H : Type} : Left H := { results := [], args := [] }

/-- 'ramekinlaw8.PageWrites': WHATEVER THE INPUT: true; the input reads as it did. -/
def pageWritesSpec : ChangeSpec := { name := "pageWrites", fn := fun _ => fun
  | [d1, d2, d3] => { results := [.lit (.bool true)], args := [d1, d2, d3] }
  | _ => none }
def pageWritesRow : OpenClaim := { program := "ytkhpoomajebgoaa", sum := "02cfbaacbd0a7943025e234f2480dcea0001c4c72ef33459edabbb06859f0182", func := "ramekin/ramekinlaw8.PageWrites", spec := "pageWrites", unfollowed := true, recurses := true, apart := false }
def PageWritesSaid : Prop := pageWritesRow.holds Try.pinned (OpenSpec.ofChange pageWritesSpec)

/-- ITS FALSE NEIGHBOUR: 'it returns false'. Refute it at one input. -/
def pageWritesWrong : ChangeSpec := { name := "pageWrites", fn := fun _ => fun
  | [d1, d2, d3] => { results := [.lit (.bool false)], args := [d1, d2, d3] }
  | _ => none }
def PageWritesWrongFalsely : Prop := pageWritesRow.holds Try.pinned (OpenSpec.ofChange pageWritesWrong)

/-- 'ramekinlaw8.PageMends': WHATEVER THE INPUT: true; the input reads as it did. -/
def pageMendsSpec : ChangeSpec := { name := "pageMends", fn := fun _ => fun
  | [d1, d2, d3, d4] => { results := [.lit (.bool true)], args := [d1, d2, d3, d4] }
  | _ => none }
def pageMendsRow : OpenClaim := { program := "ytkhpoomajebgoaa", sum := "02cfbaacbd0a7943025e234f2480dcea0001c4c72ef33459edabbb06859f0182", func := "ramekin/ramekinlaw8.PageMends", spec := "pageMends", unfollowed := true, recurses := true, apart := false }
def PageMendsSaid : Prop := pageMendsRow.holds Try.pinned (OpenSpec.ofChange pageMendsSpec)

/-- ITS FALSE NEIGHBOUR: 'it returns false'. Refute it at one input. -/
def pageMendsWrong : ChangeSpec := { name := "pageMends", fn := fun _ => fun
  | [d1, d2, d3, d4] => { results := [.lit (.bool false)], args := [d1, d2, d3, d4] }
  | _ => none }
def PageMendsWrongFalsely : Prop := pageMendsRow.holds Try.pinned (OpenSpec.ofChange pageMendsWrong)

/-- 'ramekinlaw8.PageBlank': WHATEVER THE INPUT: true; the input reads as it did. -/
def pageBlankSpec : ChangeSpec := { name := "pageBlank", fn := fun _ => fun
  | [d1, d2] => { results := [.lit (.bool true)], args := [d1, d2] }
  | _ => none }
def pageBlankRow : OpenClaim := { program := "ytkhpoomajebgoaa", sum := "02cfbaacbd0a7943025e234f2480dcea0001c4c72ef33459edabbb06859f0182", func := "ramekin/ramekinlaw8.PageBlank", spec := "pageBlank", unfollowed := true, recurses := true, apart := false }
def PageBlankSaid : Prop := pageBlankRow.holds Try.pinned (OpenSpec.ofChange pageBlankSpec)

/-- ITS FALSE NEIGHBOUR: 'it returns false'. Refute it at one input. -/
def pageBlankWrong : ChangeSpec := { name := "pageBlank", fn := fun _ => fun
  | [d1, d2] => { results := [.lit (.bool false)], args := [d1, d2] }
  | _ => none }
def PageBlankWrongFalsely : Prop := pageBlankRow.holds Try.pinned (OpenSpec.ofChange pageBlankWrong)

/-- 'ramekinlaw8.PageHalves': WHATEVER THE INPUT: true; the input reads as it did. -/
def pageHalvesSpec : ChangeSpec := { name := "pageHalves", fn := fun _ => fun
  | [d1, d2, d3, d4] => { results := [.lit (.bool true)], args := [d1, d2, d3, d4] }
  | _ => none }
def pageHalvesRow : OpenClaim := { program := "ytkhpoomajebgoaa", sum := "02cfbaacbd0a7943025e234f2480dcea0001c4c72ef33459edabbb06859f0182", func := "ramekin/ramekinlaw8.PageHalves", spec := "pageHalves", unfollowed := true, recurses := true, apart := false }
def PageHalvesSaid : Prop := pageHalvesRow.holds Try.pinned (OpenSpec.ofChange pageHalvesSpec)

/-- ITS FALSE NEIGHBOUR: 'it returns false'. Refute it at one input. -/
def pageHalvesWrong : ChangeSpec := { name := "pageHalves", fn := fun _ => fun
  | [d1, d2, d3, d4] => { results := [.lit (.bool false)], args := [d1, d2, d3, d4] }
  | _ => none }
def PageHalvesWrongFalsely : Prop := pageHalvesRow.holds Try.pinned (OpenSpec.ofChange pageHalvesWrong)

/-- 'ramekinlaw8.PageMarker': WHATEVER THE INPUT: true; the input reads as it did. -/
def pageMarkerSpec : ChangeSpec := { name := "pageMarker", fn := fun _ => fun
  | [d1, d2] => { results := [.lit (.bool true)], args := [d1, d2] }
  | _ => none }
def pageMarkerRow : OpenClaim := { program := "ytkhpoomajebgoaa", sum := "02cfbaacbd0a7943025e234f2480dcea0001c4c72ef33459edabbb06859f0182", func := "ramekin/ramekinlaw8.PageMarker", spec := "pageMarker", unfollowed := true, recurses := true, apart := false }
def PageMarkerSaid : Prop := pageMarkerRow.holds Try.pinned (OpenSpec.ofChange pageMarkerSpec)

/-- ITS FALSE NEIGHBOUR: 'it returns false'. Refute it at one input. -/
def pageMarkerWrong : ChangeSpec := { name := "pageMarker", fn := fun _ => fun
  | [d1, d2] => { results := [.lit (.bool false)], args := [d1, d2] }
  | _ => none }
def PageMarkerWrongFalsely : Prop := pageMarkerRow.holds Try.pinned (OpenSpec.ofChange pageMarkerWrong)

/-- 'ramekinlaw8.PageSizes': WHATEVER THE INPUT: true; the input reads as it did. -/
def pageSizesSpec : ChangeSpec := { name := "pageSizes", fn := fun _ => fun
  | [d1, d2] => { results := [.lit (.bool true)], args := [d1, d2] }
  | _ => none }
def pageSizesRow : OpenClaim := { program := "ytkhpoomajebgoaa", sum := "02cfbaacbd0a7943025e234f2480dcea0001c4c72ef33459edabbb06859f0182", func := "ramekin/ramekinlaw8.PageSizes", spec := "pageSizes", unfollowed := true, recurses := true, apart := false }
def PageSizesSaid : Prop := pageSizesRow.holds Try.pinned (OpenSpec.ofChange pageSizesSpec)

/-- ITS FALSE NEIGHBOUR: 'it returns false'. Refute it at one input. -/
def pageSizesWrong : ChangeSpec := { name := "pageSizes", fn := fun _ => fun
  | [d1, d2] => { results := [.lit (.bool false)], args := [d1, d2] }
  | _ => none }
def PageSizesWrongFalsely : Prop := pageSizesRow.holds Try.pinned (OpenSpec.ofChange pageSizesWrong)

/- THE SECOND FORM. 'bulk': how many values and letters a reading holds, each counted each time it is reached (what is shared counts as often as it is met; a slice's spare places count too). A statement '..UptoSaid' is the law's where the arguments, and the package variables that the reading takes, are together of bulk at most 1048576: NARROWER than '..Said'. Prove '..Said' where nothing that the law and all that it calls make is longer than what came in: it says more and counts as full. Else prove '..UptoSaid'. A law counts once. -/
mutual
def uptoBulk {H : Type} : DataW H → Nat
  | .lit (.string bytes) => bytes.length + 1
  | .lit _ => 1
  | .nil => 1
  | .ptr d => uptoBulk d + 1
  | .slice elems spare => uptoBulkAll elems + uptoBulkAll spare + 1
  | .agg parts => uptoBulkAll parts + 1
  | .iface _ d => uptoBulk d + 1
  | .map entries => uptoBulkEntries entries + 1
  | .held _ => 1
def uptoBulkAll {H : Type} : List (DataW H) → Nat
  | [] => 0
  | d :: r => uptoBulk d + uptoBulkAll r
def uptoBulkEntries {H : Type} : List (Lit × DataW H) → Nat
  | [] => 0
  | x :: r => uptoBulkEntry x + uptoBulkEntries r
def uptoBulkEntry {H : Type} : Lit × DataW H → Nat
  | (.string bytes, d) => bytes.length + uptoBulk d + 1
  | (_, d) => uptoBulk d + 1
 end
def uptoSmall : (H : Type) → List (DataW H) → Bool := fun _ ds => decide (uptoBulkAll ds ≤ 1048576)
def OpenSpec.upto (s : _root_.Go.ChangeSpec) : _root_.Go.OpenSpec := { _root_.Go.OpenSpec.ofChange s with cond := some uptoSmall }

/-- 'ramekinlaw8.PageWrites', WHERE WHAT IT READS IS OF BULK AT MOST 1048576: true; the input reads as it did. -/
def pageWritesUptoRow : OpenClaim := { program := "ytkhpoomajebgoaa", sum := "02cfbaacbd0a7943025e234f2480dcea0001c4c72ef33459edabbb06859f0182", func := "ramekin/ramekinlaw8.PageWrites", spec := "pageWrites", unfollowed := true, recurses := true, apart := false, narrowed := true }
def PageWritesUptoSaid : Prop := pageWritesUptoRow.holds Try.pinned (OpenSpec.upto pageWritesSpec)

/-- 'ramekinlaw8.PageMends', WHERE WHAT IT READS IS OF BULK AT MOST 1048576: true; the input reads as it did. -/
def pageMendsUptoRow : OpenClaim := { program := "ytkhpoomajebgoaa", sum := "02cfbaacbd0a7943025e234f2480dcea0001c4c72ef33459edabbb06859f0182", func := "ramekin/ramekinlaw8.PageMends", spec := "pageMends", unfollowed := true, recurses := true, apart := false, narrowed := true }
def PageMendsUptoSaid : Prop := pageMendsUptoRow.holds Try.pinned (OpenSpec.upto pageMendsSpec)

/-- 'ramekinlaw8.PageBlank', WHERE WHAT IT READS IS OF BULK AT MOST 1048576: true; the input reads as it did. -/
def pageBlankUptoRow : OpenClaim := { program := "ytkhpoomajebgoaa", sum := "02cfbaacbd0a7943025e234f2480dcea0001c4c72ef33459edabbb06859f0182", func := "ramekin/ramekinlaw8.PageBlank", spec := "pageBlank", unfollowed := true, recurses := true, apart := false, narrowed := true }
def PageBlankUptoSaid : Prop := pageBlankUptoRow.holds Try.pinned (OpenSpec.upto pageBlankSpec)

/-- 'ramekinlaw8.PageHalves', WHERE WHAT IT READS IS OF BULK AT MOST 1048576: true; the input reads as it did. -/
def pageHalvesUptoRow : OpenClaim := { program := "ytkhpoomajebgoaa", sum := "02cfbaacbd0a7943025e234f2480dcea0001c4c72ef33459edabbb06859f0182", func := "ramekin/ramekinlaw8.PageHalves", spec := "pageHalves", unfollowed := true, recurses := true, apart := false, narrowed := true }
def PageHalvesUptoSaid : Prop := pageHalvesUptoRow.holds Try.pinned (OpenSpec.upto pageHalvesSpec)

/-- 'ramekinlaw8.PageMarker', WHERE WHAT IT READS IS OF BULK AT MOST 1048576: true; the input reads as it did. -/
def pageMarkerUptoRow : OpenClaim := { program := "ytkhpoomajebgoaa", sum := "02cfbaacbd0a7943025e234f2480dcea0001c4c72ef33459edabbb06859f0182", func := "ramekin/ramekinlaw8.PageMarker", spec := "pageMarker", unfollowed := true, recurses := true, apart := false, narrowed := true }
def PageMarkerUptoSaid : Prop := pageMarkerUptoRow.holds Try.pinned (OpenSpec.upto pageMarkerSpec)

/-- 'ramekinlaw8.PageSizes', WHERE WHAT IT READS IS OF BULK AT MOST 1048576: true; the input reads as it did. -/
def pageSizesUptoRow : OpenClaim := { program := "ytkhpoomajebgoaa", sum := "02cfbaacbd0a7943025e234f2480dcea0001c4c72ef33459edabbb06859f0182", func := "ramekin/ramekinlaw8.PageSizes", spec := "pageSizes", unfollowed := true, recurses := true, apart := false, narrowed := true }
def PageSizesUptoSaid : Prop := pageSizesUptoRow.holds Try.pinned (OpenSpec.upto pageSizesSpec)

end Rows
end Go.Proofs.Ytkhpoomajebgoaa
