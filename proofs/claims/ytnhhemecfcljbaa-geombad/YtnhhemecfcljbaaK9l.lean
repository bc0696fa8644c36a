/-
  The laws' own known (ramekinlaw9).
-/
import Derived.Test.YtnhhemecfcljbaaK9d
namespace Go.Proofs.Ytnhhemecfcljbaa
open Go.RowKit Go.Shelf

set_option maxRecDepth 100000 in
set_option maxHeartbeats 4000000 in
theorem known9_any (w : World) : Calls Try.prog 8 #[] w fun e w' => e = .returned (.bool true) ∧ Below w.heap.size w w' := by
  obtain ⟨W, hW, hG, hb⟩ := GeoAt.new w 6 8 4
  have HB := hide hb
  have HG := hide hG
  have c0 := hG.c0
  have c1 := hG.c1
  have c2 := hG.c2
  have e1 : chk9 6 8 4 = 0 := by decide
  have e2 : sec9 6 8 4 8 = 8 := by decide
  have e3 : slo9 6 8 4 = 4 := by decide
  have E1 := hide e1
  have E2 := hide e2
  have E3 := hide e3
  clear hb hG e1 e2 e3
  go_enter Try.func8, Try.ntmps8
  go_wp2_with fail
  clear c0 c1 c2
  refine (gcheck_any 6 8 4 _).mono ?_
  rintro e w2 ⟨rfl, hk⟩
  rw [unhide E1]
  replace HG := hide ((unhide HG).below hk)
  replace HB := hide ((unhide HB).trans (hk.mono (unhide HB).size))
  have c0 := (unhide HG).c0
  have c1 := (unhide HG).c1
  have c2 := (unhide HG).c2
  clear hk
  go_wp2_with fail
  clear c0 c1 c2
  refine (gsectors_any 6 8 4 8 _).mono ?_
  rintro e w3 ⟨rfl, hk⟩
  rw [unhide E2]
  replace HG := hide ((unhide HG).below hk)
  replace HB := hide ((unhide HB).trans (hk.mono (unhide HB).size))
  have c0 := (unhide HG).c0
  have c1 := (unhide HG).c1
  have c2 := (unhide HG).c2
  clear hk
  go_wp2_with fail
  clear c0 c1 c2
  refine (gslots_any 6 8 4 _).mono ?_
  rintro e w4 ⟨rfl, hk⟩
  rw [unhide E3]
  replace HB := hide ((unhide HB).trans (hk.mono (unhide HB).size))
  clear hk
  go_wp2_with fail
  go_ret
  exact ⟨rfl, unhide HB⟩

end Go.Proofs.Ytnhhemecfcljbaa
