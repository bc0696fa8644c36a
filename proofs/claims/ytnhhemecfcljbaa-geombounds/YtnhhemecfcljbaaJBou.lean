/-
  The walk of GeomBounds.
-/
import Derived.Test.YtnhhemecfcljbaaK9l
import Derived.Test.YtnhhemecfcljbaaK9j
import Derived.Test.YtnhhemecfcljbaaJSec
namespace Go.Proofs.Ytnhhemecfcljbaa
open Go.RowKit Go.Shelf

theorem GeoAt.set0 {w : World} {g : Nat} {D B P : Int} (h : GeoAt w g D B P) (x : Int) : GeoAt (w.setCell ⟨g, 0, none⟩ (.int .i64 x)) g x B P := ⟨heap_setCell_same w g 0 _ _ _ h.blk⟩
theorem GeoAt.set1 {w : World} {g : Nat} {D B P : Int} (h : GeoAt w g D B P) (x : Int) : GeoAt (w.setCell ⟨g, 1, none⟩ (.int .i64 x)) g D x P := ⟨heap_setCell_same w g 1 _ _ _ h.blk⟩
theorem GeoAt.set2 {w : World} {g : Nat} {D B P : Int} (h : GeoAt w g D B P) (x : Int) : GeoAt (w.setCell ⟨g, 2, none⟩ (.int .i64 x)) g D B x := ⟨heap_setCell_same w g 2 _ _ _ h.blk⟩
theorem GeoAt.free {w : World} {g : Nat} {D B P : Int} (h : GeoAt w g D B P) (j : Nat) : w.frozen? ⟨g, j, none⟩ = false := free_blk h.blk
theorem supG_not {D B P : Int} {bad : List (Int × Int)} (h : ¬ okG D B P) : supG D B P bad = [] := if_neg h
theorem gdL_nil (d : Int) (B : Nat) : (gdL d B []).length = B := by
  have h : gdL d B [] = List.range B := by unfold gdL; simp
  rw [h, List.length_range]
theorem supG_none {D B P : Int} (h : okG D B P) : ((supG D B P []).length : Int) = B := by
  rw [supG, if_pos h, sup9_len]
  have hB : 0 ≤ B := by have := h.2.1.1; omega
  have e : sn9 D.toNat B.toNat [] = B.toNat := by
    rcases sn9_ex D.toNat B.toNat [] with h1 | ⟨d, _, h1⟩
    · exact h1
    · rw [gdL_nil] at h1; exact h1.symm
  rw [e]
  omega

set_option maxRecDepth 100000 in
set_option maxHeartbeats 16000000 in
theorem gbou_above (a c : Int) (w : World) : Calls Try.prog 5 #[.int .i64 a, .bool true, .int .i64 c] w fun x w' => x = .returned (.bool true) ∧ Below w.heap.size w w' := by
  obtain ⟨F, hF, f1, f2⟩ := mod9 c 1000 (by omega)
  have HF := hide hF
  obtain ⟨K, hK⟩ : ∃ K, 1 + F = K := ⟨_, rfl⟩
  have hKw : IntKind.i64.wrap (1 + F) = K := by rw [hK]; exact IntWalk.i64_in _ ⟨by omega, by omega⟩
  have hk1 : 1 ≤ K := by omega
  have hk2 : K ≤ 1000 := by omega
  clear hF hK
  obtain ⟨A, hA, a1, a2⟩ := mod9 a 6 (by omega)
  have HA := hide hA
  clear hA
  go_enter Try.func5, Try.ntmps5
  go_wp2_with fail
  refine (known9_any _).mono ?_
  rintro e w1 ⟨rfl, hk⟩
  have HT := hide hk
  clear hk
  go_wp2_with fail
  refine (within9_any c 1000 _ (by omega) (by omega)).mono ?_
  rintro e w2 ⟨rfl, hw2⟩
  subst hw2
  rw [unhide HF]
  clear HF
  have hw0 := (unhide HT).size
  obtain ⟨W, hW, hG, hb⟩ := GeoAt.new w2 7 10 6
  replace HT := hide ((unhide HT).trans (hb.mono (unhide HT).size))
  have HG := hide hG
  clear hG hb
  go_wp2_with fail
  refine (within9_any a 6 _ (by omega) (by omega)).mono ?_
  rintro e w3 ⟨rfl, hw3⟩
  rw [unhide HA]
  subst hw3
  clear hW HA
  rcases (show A = 0 ∨ A = 1 ∨ A = 2 ∨ A = 3 ∨ A = 4 ∨ A = 5 by omega) with rfl | rfl | rfl | rfl | rfl | rfl
  · have hno : ¬ okG (8 + K) (10) (6) := fun h => by unfold okG at h; omega
    have HG2 := hide ((unhide HG).set0 (8 + K))
    have HT2 := hide ((unhide HT).setCell (p := ⟨w2.heap.size, 0, none⟩) hw0 (.int .i64 (8 + K)))
    have fz := (unhide HG).free 0
    have e0 := (unhide HG).c0
    have d0 := (unhide HG2).c0
    have d1 := (unhide HG2).c1
    have d2 := (unhide HG2).c2
    clear HG HT
    go_wp2_with fail
    clear d0 d1 d2 e0 fz
    generalize w3.setCell ⟨w2.heap.size, 0, none⟩ (.int .i64 (8 + K)) = w4 at HG2 HT2 ⊢
    refine (gcheck_any (8 + K) (10) (6) _).mono ?_
    rintro e w5 ⟨rfl, hk⟩
    replace HG2 := hide ((unhide HG2).below hk)
    replace HT2 := hide ((unhide HT2).trans (hk.mono (unhide HT2).size))
    clear hk
    rw [chk9_not hno]
    have d0 := (unhide HG2).c0
    have d1 := (unhide HG2).c1
    have d2 := (unhide HG2).c2
    go_wp2_with fail
    clear d0 d1 d2
    refine (gsupers_any (8 + K) (10) (6) [] none 0 0 0 _ (PArg.nil _)).mono ?_
    rintro e w6 ⟨v6, rfl, hO, hk⟩
    replace HG2 := hide ((unhide HG2).below hk)
    replace HT2 := hide ((unhide HT2).trans (hk.mono (unhide HT2).size))
    clear hk
    rw [supG_not hno] at hO
    obtain ⟨o6, c6, hv6⟩ := hO.sl
    rw [List.length_nil] at hv6
    subst hv6
    clear hO
    have d0 := (unhide HG2).c0
    have d1 := (unhide HG2).c1
    have d2 := (unhide HG2).c2
    go_wp2_with fail
    clear d0 d1 d2
    refine (gsectors_any (8 + K) (10) (6) 8 _).mono ?_
    rintro e w7 ⟨rfl, hk⟩
    replace HG2 := hide ((unhide HG2).below hk)
    replace HT2 := hide ((unhide HT2).trans (hk.mono (unhide HT2).size))
    clear hk
    rw [show sec9 (8 + K) (10) (6) 8 = 0 from if_neg (fun h => hno h.1)]
    have d0 := (unhide HG2).c0
    have d1 := (unhide HG2).c1
    have d2 := (unhide HG2).c2
    go_wp2_with fail
    clear d0 d1 d2
    refine (gslots_any (8 + K) (10) (6) _).mono ?_
    rintro e w8 ⟨rfl, hk⟩
    replace HG2 := hide ((unhide HG2).below hk)
    replace HT2 := hide ((unhide HT2).trans (hk.mono (unhide HT2).size))
    clear hk
    rw [show slo9 (8 + K) (10) (6) = 0 from if_neg hno]
    clear HG2
    go_wp2_with fail
    go_ret
    exact ⟨rfl, unhide HT2⟩
  · have hno : ¬ okG (6 - K) (10) (6) := fun h => by unfold okG at h; omega
    have HG2 := hide ((unhide HG).set0 (6 - K))
    have HT2 := hide ((unhide HT).setCell (p := ⟨w2.heap.size, 0, none⟩) hw0 (.int .i64 (6 - K)))
    have fz := (unhide HG).free 0
    have e0 := (unhide HG).c0
    have d0 := (unhide HG2).c0
    have d1 := (unhide HG2).c1
    have d2 := (unhide HG2).c2
    clear HG HT
    go_wp2_with fail
    clear d0 d1 d2 e0 fz
    generalize w3.setCell ⟨w2.heap.size, 0, none⟩ (.int .i64 (6 - K)) = w4 at HG2 HT2 ⊢
    refine (gcheck_any (6 - K) (10) (6) _).mono ?_
    rintro e w5 ⟨rfl, hk⟩
    replace HG2 := hide ((unhide HG2).below hk)
    replace HT2 := hide ((unhide HT2).trans (hk.mono (unhide HT2).size))
    clear hk
    rw [chk9_not hno]
    have d0 := (unhide HG2).c0
    have d1 := (unhide HG2).c1
    have d2 := (unhide HG2).c2
    go_wp2_with fail
    clear d0 d1 d2
    refine (gsupers_any (6 - K) (10) (6) [] none 0 0 0 _ (PArg.nil _)).mono ?_
    rintro e w6 ⟨v6, rfl, hO, hk⟩
    replace HG2 := hide ((unhide HG2).below hk)
    replace HT2 := hide ((unhide HT2).trans (hk.mono (unhide HT2).size))
    clear hk
    rw [supG_not hno] at hO
    obtain ⟨o6, c6, hv6⟩ := hO.sl
    rw [List.length_nil] at hv6
    subst hv6
    clear hO
    have d0 := (unhide HG2).c0
    have d1 := (unhide HG2).c1
    have d2 := (unhide HG2).c2
    go_wp2_with fail
    clear d0 d1 d2
    refine (gsectors_any (6 - K) (10) (6) 8 _).mono ?_
    rintro e w7 ⟨rfl, hk⟩
    replace HG2 := hide ((unhide HG2).below hk)
    replace HT2 := hide ((unhide HT2).trans (hk.mono (unhide HT2).size))
    clear hk
    rw [show sec9 (6 - K) (10) (6) 8 = 0 from if_neg (fun h => hno h.1)]
    have d0 := (unhide HG2).c0
    have d1 := (unhide HG2).c1
    have d2 := (unhide HG2).c2
    go_wp2_with fail
    clear d0 d1 d2
    refine (gslots_any (6 - K) (10) (6) _).mono ?_
    rintro e w8 ⟨rfl, hk⟩
    replace HG2 := hide ((unhide HG2).below hk)
    replace HT2 := hide ((unhide HT2).trans (hk.mono (unhide HT2).size))
    clear hk
    rw [show slo9 (6 - K) (10) (6) = 0 from if_neg hno]
    clear HG2
    go_wp2_with fail
    go_ret
    exact ⟨rfl, unhide HT2⟩
  · have hno : ¬ okG (7) (12 + K) (6) := fun h => by unfold okG at h; omega
    have HG2 := hide ((unhide HG).set1 (12 + K))
    have HT2 := hide ((unhide HT).setCell (p := ⟨w2.heap.size, 1, none⟩) hw0 (.int .i64 (12 + K)))
    have fz := (unhide HG).free 1
    have e1 := (unhide HG).c1
    have d0 := (unhide HG2).c0
    have d1 := (unhide HG2).c1
    have d2 := (unhide HG2).c2
    clear HG HT
    go_wp2_with fail
    clear d0 d1 d2 e1 fz
    generalize w3.setCell ⟨w2.heap.size, 1, none⟩ (.int .i64 (12 + K)) = w4 at HG2 HT2 ⊢
    refine (gcheck_any (7) (12 + K) (6) _).mono ?_
    rintro e w5 ⟨rfl, hk⟩
    replace HG2 := hide ((unhide HG2).below hk)
    replace HT2 := hide ((unhide HT2).trans (hk.mono (unhide HT2).size))
    clear hk
    rw [chk9_not hno]
    have d0 := (unhide HG2).c0
    have d1 := (unhide HG2).c1
    have d2 := (unhide HG2).c2
    go_wp2_with fail
    clear d0 d1 d2
    refine (gsupers_any (7) (12 + K) (6) [] none 0 0 0 _ (PArg.nil _)).mono ?_
    rintro e w6 ⟨v6, rfl, hO, hk⟩
    replace HG2 := hide ((unhide HG2).below hk)
    replace HT2 := hide ((unhide HT2).trans (hk.mono (unhide HT2).size))
    clear hk
    rw [supG_not hno] at hO
    obtain ⟨o6, c6, hv6⟩ := hO.sl
    rw [List.length_nil] at hv6
    subst hv6
    clear hO
    have d0 := (unhide HG2).c0
    have d1 := (unhide HG2).c1
    have d2 := (unhide HG2).c2
    go_wp2_with fail
    clear d0 d1 d2
    refine (gsectors_any (7) (12 + K) (6) 8 _).mono ?_
    rintro e w7 ⟨rfl, hk⟩
    replace HG2 := hide ((unhide HG2).below hk)
    replace HT2 := hide ((unhide HT2).trans (hk.mono (unhide HT2).size))
    clear hk
    rw [show sec9 (7) (12 + K) (6) 8 = 0 from if_neg (fun h => hno h.1)]
    have d0 := (unhide HG2).c0
    have d1 := (unhide HG2).c1
    have d2 := (unhide HG2).c2
    go_wp2_with fail
    clear d0 d1 d2
    refine (gslots_any (7) (12 + K) (6) _).mono ?_
    rintro e w8 ⟨rfl, hk⟩
    replace HG2 := hide ((unhide HG2).below hk)
    replace HT2 := hide ((unhide HT2).trans (hk.mono (unhide HT2).size))
    clear hk
    rw [show slo9 (7) (12 + K) (6) = 0 from if_neg hno]
    clear HG2
    go_wp2_with fail
    go_ret
    exact ⟨rfl, unhide HT2⟩
  · have hno : ¬ okG (7) (8 - K) (6) := fun h => by unfold okG at h; omega
    have HG2 := hide ((unhide HG).set1 (8 - K))
    have HT2 := hide ((unhide HT).setCell (p := ⟨w2.heap.size, 1, none⟩) hw0 (.int .i64 (8 - K)))
    have fz := (unhide HG).free 1
    have e1 := (unhide HG).c1
    have d0 := (unhide HG2).c0
    have d1 := (unhide HG2).c1
    have d2 := (unhide HG2).c2
    clear HG HT
    go_wp2_with fail
    clear d0 d1 d2 e1 fz
    generalize w3.setCell ⟨w2.heap.size, 1, none⟩ (.int .i64 (8 - K)) = w4 at HG2 HT2 ⊢
    refine (gcheck_any (7) (8 - K) (6) _).mono ?_
    rintro e w5 ⟨rfl, hk⟩
    replace HG2 := hide ((unhide HG2).below hk)
    replace HT2 := hide ((unhide HT2).trans (hk.mono (unhide HT2).size))
    clear hk
    rw [chk9_not hno]
    have d0 := (unhide HG2).c0
    have d1 := (unhide HG2).c1
    have d2 := (unhide HG2).c2
    go_wp2_with fail
    clear d0 d1 d2
    refine (gsupers_any (7) (8 - K) (6) [] none 0 0 0 _ (PArg.nil _)).mono ?_
    rintro e w6 ⟨v6, rfl, hO, hk⟩
    replace HG2 := hide ((unhide HG2).below hk)
    replace HT2 := hide ((unhide HT2).trans (hk.mono (unhide HT2).size))
    clear hk
    rw [supG_not hno] at hO
    obtain ⟨o6, c6, hv6⟩ := hO.sl
    rw [List.length_nil] at hv6
    subst hv6
    clear hO
    have d0 := (unhide HG2).c0
    have d1 := (unhide HG2).c1
    have d2 := (unhide HG2).c2
    go_wp2_with fail
    clear d0 d1 d2
    refine (gsectors_any (7) (8 - K) (6) 8 _).mono ?_
    rintro e w7 ⟨rfl, hk⟩
    replace HG2 := hide ((unhide HG2).below hk)
    replace HT2 := hide ((unhide HT2).trans (hk.mono (unhide HT2).size))
    clear hk
    rw [show sec9 (7) (8 - K) (6) 8 = 0 from if_neg (fun h => hno h.1)]
    have d0 := (unhide HG2).c0
    have d1 := (unhide HG2).c1
    have d2 := (unhide HG2).c2
    go_wp2_with fail
    clear d0 d1 d2
    refine (gslots_any (7) (8 - K) (6) _).mono ?_
    rintro e w8 ⟨rfl, hk⟩
    replace HG2 := hide ((unhide HG2).below hk)
    replace HT2 := hide ((unhide HT2).trans (hk.mono (unhide HT2).size))
    clear hk
    rw [show slo9 (7) (8 - K) (6) = 0 from if_neg hno]
    clear HG2
    go_wp2_with fail
    go_ret
    exact ⟨rfl, unhide HT2⟩
  · have hno : ¬ okG (7) (10) (8 + K) := fun h => by unfold okG at h; omega
    have HG2 := hide ((unhide HG).set2 (8 + K))
    have HT2 := hide ((unhide HT).setCell (p := ⟨w2.heap.size, 2, none⟩) hw0 (.int .i64 (8 + K)))
    have fz := (unhide HG).free 2
    have e2 := (unhide HG).c2
    have d0 := (unhide HG2).c0
    have d1 := (unhide HG2).c1
    have d2 := (unhide HG2).c2
    clear HG HT
    go_wp2_with fail
    clear d0 d1 d2 e2 fz
    generalize w3.setCell ⟨w2.heap.size, 2, none⟩ (.int .i64 (8 + K)) = w4 at HG2 HT2 ⊢
    refine (gcheck_any (7) (10) (8 + K) _).mono ?_
    rintro e w5 ⟨rfl, hk⟩
    replace HG2 := hide ((unhide HG2).below hk)
    replace HT2 := hide ((unhide HT2).trans (hk.mono (unhide HT2).size))
    clear hk
    rw [chk9_not hno]
    have d0 := (unhide HG2).c0
    have d1 := (unhide HG2).c1
    have d2 := (unhide HG2).c2
    go_wp2_with fail
    clear d0 d1 d2
    refine (gsupers_any (7) (10) (8 + K) [] none 0 0 0 _ (PArg.nil _)).mono ?_
    rintro e w6 ⟨v6, rfl, hO, hk⟩
    replace HG2 := hide ((unhide HG2).below hk)
    replace HT2 := hide ((unhide HT2).trans (hk.mono (unhide HT2).size))
    clear hk
    rw [supG_not hno] at hO
    obtain ⟨o6, c6, hv6⟩ := hO.sl
    rw [List.length_nil] at hv6
    subst hv6
    clear hO
    have d0 := (unhide HG2).c0
    have d1 := (unhide HG2).c1
    have d2 := (unhide HG2).c2
    go_wp2_with fail
    clear d0 d1 d2
    refine (gsectors_any (7) (10) (8 + K) 8 _).mono ?_
    rintro e w7 ⟨rfl, hk⟩
    replace HG2 := hide ((unhide HG2).below hk)
    replace HT2 := hide ((unhide HT2).trans (hk.mono (unhide HT2).size))
    clear hk
    rw [show sec9 (7) (10) (8 + K) 8 = 0 from if_neg (fun h => hno h.1)]
    have d0 := (unhide HG2).c0
    have d1 := (unhide HG2).c1
    have d2 := (unhide HG2).c2
    go_wp2_with fail
    clear d0 d1 d2
    refine (gslots_any (7) (10) (8 + K) _).mono ?_
    rintro e w8 ⟨rfl, hk⟩
    replace HG2 := hide ((unhide HG2).below hk)
    replace HT2 := hide ((unhide HT2).trans (hk.mono (unhide HT2).size))
    clear hk
    rw [show slo9 (7) (10) (8 + K) = 0 from if_neg hno]
    clear HG2
    go_wp2_with fail
    go_ret
    exact ⟨rfl, unhide HT2⟩
  · have hno : ¬ okG (7) (10) (4 - K) := fun h => by unfold okG at h; omega
    have HG2 := hide ((unhide HG).set2 (4 - K))
    have HT2 := hide ((unhide HT).setCell (p := ⟨w2.heap.size, 2, none⟩) hw0 (.int .i64 (4 - K)))
    have fz := (unhide HG).free 2
    have e2 := (unhide HG).c2
    have d0 := (unhide HG2).c0
    have d1 := (unhide HG2).c1
    have d2 := (unhide HG2).c2
    clear HG HT
    go_wp2_with fail
    clear d0 d1 d2 e2 fz
    generalize w3.setCell ⟨w2.heap.size, 2, none⟩ (.int .i64 (4 - K)) = w4 at HG2 HT2 ⊢
    refine (gcheck_any (7) (10) (4 - K) _).mono ?_
    rintro e w5 ⟨rfl, hk⟩
    replace HG2 := hide ((unhide HG2).below hk)
    replace HT2 := hide ((unhide HT2).trans (hk.mono (unhide HT2).size))
    clear hk
    rw [chk9_not hno]
    have d0 := (unhide HG2).c0
    have d1 := (unhide HG2).c1
    have d2 := (unhide HG2).c2
    go_wp2_with fail
    clear d0 d1 d2
    refine (gsupers_any (7) (10) (4 - K) [] none 0 0 0 _ (PArg.nil _)).mono ?_
    rintro e w6 ⟨v6, rfl, hO, hk⟩
    replace HG2 := hide ((unhide HG2).below hk)
    replace HT2 := hide ((unhide HT2).trans (hk.mono (unhide HT2).size))
    clear hk
    rw [supG_not hno] at hO
    obtain ⟨o6, c6, hv6⟩ := hO.sl
    rw [List.length_nil] at hv6
    subst hv6
    clear hO
    have d0 := (unhide HG2).c0
    have d1 := (unhide HG2).c1
    have d2 := (unhide HG2).c2
    go_wp2_with fail
    clear d0 d1 d2
    refine (gsectors_any (7) (10) (4 - K) 8 _).mono ?_
    rintro e w7 ⟨rfl, hk⟩
    replace HG2 := hide ((unhide HG2).below hk)
    replace HT2 := hide ((unhide HT2).trans (hk.mono (unhide HT2).size))
    clear hk
    rw [show sec9 (7) (10) (4 - K) 8 = 0 from if_neg (fun h => hno h.1)]
    have d0 := (unhide HG2).c0
    have d1 := (unhide HG2).c1
    have d2 := (unhide HG2).c2
    go_wp2_with fail
    clear d0 d1 d2
    refine (gslots_any (7) (10) (4 - K) _).mono ?_
    rintro e w8 ⟨rfl, hk⟩
    replace HG2 := hide ((unhide HG2).below hk)
    replace HT2 := hide ((unhide HT2).trans (hk.mono (unhide HT2).size))
    clear hk
    rw [show slo9 (7) (10) (4 - K) = 0 from if_neg hno]
    clear HG2
    go_wp2_with fail
    go_ret
    exact ⟨rfl, unhide HT2⟩

set_option maxRecDepth 100000 in
set_option maxHeartbeats 16000000 in
theorem gbou_not (a c : Int) (w : World) : Calls Try.prog 5 #[.int .i64 a, .bool false, .int .i64 c] w fun x w' => x = .returned (.bool true) ∧ Below w.heap.size w w' := by
  obtain ⟨A, hA, a1, a2⟩ := mod9 a 6 (by omega)
  have HA := hide hA
  clear hA
  go_enter Try.func5, Try.ntmps5
  go_wp2_with fail
  refine (known9_any _).mono ?_
  rintro e w1 ⟨rfl, hk⟩
  have HT := hide hk
  clear hk
  have hw0 := (unhide HT).size
  obtain ⟨W, hW, hG, hb⟩ := GeoAt.new w1 7 10 6
  replace HT := hide ((unhide HT).trans (hb.mono (unhide HT).size))
  have HG := hide hG
  clear hG hb
  go_wp2_with fail
  refine (within9_any a 6 _ (by omega) (by omega)).mono ?_
  rintro e w3 ⟨rfl, hw3⟩
  rw [unhide HA]
  subst hw3
  clear hW HA
  rcases (show A = 0 ∨ A = 1 ∨ A = 2 ∨ A = 3 ∨ A = 4 ∨ A = 5 by omega) with rfl | rfl | rfl | rfl | rfl | rfl
  · have hok : okG (8) (10) (6) := by decide
    have HG2 := hide ((unhide HG).set0 (8))
    have HT2 := hide ((unhide HT).setCell (p := ⟨w1.heap.size, 0, none⟩) hw0 (.int .i64 (8)))
    have fz := (unhide HG).free 0
    have e0 := (unhide HG).c0
    have d0 := (unhide HG2).c0
    have d1 := (unhide HG2).c1
    have d2 := (unhide HG2).c2
    clear HG HT
    go_wp2_with fail
    clear d0 d1 d2 e0 fz
    generalize w3.setCell ⟨w1.heap.size, 0, none⟩ (.int .i64 (8)) = w4 at HG2 HT2 ⊢
    replace HT2 := hide ((unhide HT2).drew)
    replace HG2 := hide ((unhide HG2).below (Below.refl _ _).drew)
    refine wp_region_noPanic ?_
    refine wp_region_held_drew (S := fun W => Below w4.drew.heap.size w4.drew W) (by kernel_rfl) (Below.refl _ _) (fun hHeld => ?_)
    have HH := hide hHeld
    clear hHeld
    generalize w4.drew = w5 at HT2 HG2 HH ⊢
    refine takeL (i := 0) (v := .agg #[.int .i64 (8), .int .i64 (10), .int .i64 (6)]) rfl (by kernel_rfl) (by kernel_rfl) (by kernel_rfl) (fun _ _ _ h => h) (Or.inl ⟨by rfl, fun W1 hSW => run_load_agg9 rfl rfl (((unhide HG2).below hSW).load)⟩) (unhide HH) ?_
    (try simp only [Act.put, List.setIfInBounds_toArray, List.set_cons_zero, List.set_cons_succ])
    refine wpAnyH_ready (rs := [1]) (by kernel_rfl) (by simp) ?_
    refine consL rfl (fun K hK => ?_) AllReadyH.nil
    go_simp
    refine (gcheck_any (8) (10) (6) _).mono ?_
    rintro e w6 ⟨rfl, hk⟩
    replace HG2 := hide ((unhide HG2).below hk)
    replace HT2 := hide ((unhide HT2).trans (hk.mono (unhide HT2).size))
    rw [chk9_ok hok]
    go_wp2_with fail
    refine hK.out _ _ hk (fun hHeld => ?_)
    clear hK K HH hHeld
    (try simp only [Act.put, List.setIfInBounds_toArray, List.set_cons_zero, List.set_cons_succ])
    refine stronger (S' := fun W => Below w6.heap.size w6 W) (fun W h => hk.trans (h.mono hk.size)) _ _ _ _ ?_
    have HH : Hid (Below w6.heap.size w6 w6) := Below.refl _ _
    clear hk
    refine takeL (i := 2) (v := ?_) rfl (by kernel_rfl) (by kernel_rfl) (by kernel_rfl) (fun _ _ _ h => h) (Or.inl ⟨by rfl, ?_⟩) (unhide HH) ?_
    rotate_left 1
    · intro W hSW; go_simp; all_goals (with_reducible rfl)
    (try simp only [Act.put, List.setIfInBounds_toArray, List.set_cons_zero, List.set_cons_succ])
    refine takeL (i := 3) (v := ?_) rfl (by kernel_rfl) (by kernel_rfl) (by kernel_rfl) (fun _ _ _ h => h) (Or.inl ⟨by rfl, ?_⟩) (unhide HH) ?_
    rotate_left 1
    · intro W hSW; go_simp; all_goals (with_reducible rfl)
    (try simp only [Act.put, List.setIfInBounds_toArray, List.set_cons_zero, List.set_cons_succ])
    refine takeL (i := 4) (v := .agg #[.int .i64 (8), .int .i64 (10), .int .i64 (6)]) rfl (by kernel_rfl) (by kernel_rfl) (by kernel_rfl) (fun _ _ _ h => h) (Or.inl ⟨by rfl, fun W1 hSW => run_load_agg9 rfl rfl (((unhide HG2).below hSW).load)⟩) (unhide HH) ?_
    (try simp only [Act.put, List.setIfInBounds_toArray, List.set_cons_zero, List.set_cons_succ])
    refine takeL (i := 7) (v := ?_) rfl (by kernel_rfl) (by kernel_rfl) (by kernel_rfl) (fun _ _ _ h => h) (Or.inl ⟨by rfl, ?_⟩) (unhide HH) ?_
    rotate_left 1
    · intro W hSW; go_simp; all_goals (with_reducible rfl)
    (try simp only [Act.put, List.setIfInBounds_toArray, List.set_cons_zero, List.set_cons_succ])
    refine takeL (i := 8) (v := ?_) rfl (by kernel_rfl) (by kernel_rfl) (by kernel_rfl) (fun _ _ _ h => h) (Or.inl ⟨by rfl, ?_⟩) (unhide HH) ?_
    rotate_left 1
    · intro W1 hSW; have hc := ((unhide HG2).below hSW).c1; clear hSW; go_simp; all_goals (with_reducible rfl)
    (try simp only [Act.put, List.setIfInBounds_toArray, List.set_cons_zero, List.set_cons_succ])
    refine wpAnyH_ready (rs := [5]) (by kernel_rfl) (by simp) ?_
    refine consL rfl (fun K hK => ?_) AllReadyH.nil
    go_simp
    refine (gsupers_any (8) (10) (6) [] none 0 0 0 _ (PArg.nil _)).mono ?_
    rintro e w7 ⟨v6, rfl, hO, hk⟩
    replace HG2 := hide ((unhide HG2).below hk)
    replace HT2 := hide ((unhide HT2).trans (hk.mono (unhide HT2).size))
    have hsl := supG_none hok
    obtain ⟨o6, c6, hv6⟩ := hO.sl
    subst hv6
    obtain ⟨sl, hsn⟩ : ∃ n, (supG (8) (10) (6) []).length = n := ⟨_, rfl⟩
    rw [hsn] at hsl ⊢
    obtain rfl : sl = 10 := by omega
    clear hsl hsn hO
    go_wp2_with fail
    refine hK.out _ _ hk (fun hHeld => ?_)
    clear hK K HH hHeld
    (try simp only [Act.put, List.setIfInBounds_toArray, List.set_cons_zero, List.set_cons_succ])
    refine stronger (S' := fun W => Below w7.heap.size w7 W) (fun W h => hk.trans (h.mono hk.size)) _ _ _ _ ?_
    have HH : Hid (Below w7.heap.size w7 w7) := Below.refl _ _
    clear hk
    refine takeL (i := 6) (v := ?_) rfl (by kernel_rfl) (by kernel_rfl) (by kernel_rfl) (fun _ _ _ h => h) (Or.inl ⟨by rfl, ?_⟩) (unhide HH) ?_
    rotate_left 1
    · intro W hSW; go_simp; all_goals (with_reducible rfl)
    (try simp only [Act.put, List.setIfInBounds_toArray, List.set_cons_zero, List.set_cons_succ])
    refine takeL (i := 9) (v := ?_) rfl (by kernel_rfl) (by kernel_rfl) (by kernel_rfl) (fun _ _ _ h => h) (Or.inl ⟨by rfl, ?_⟩) (unhide HH) ?_
    rotate_left 1
    · intro W hSW; go_simp; all_goals (with_reducible rfl)
    (try simp only [Act.put, List.setIfInBounds_toArray, List.set_cons_zero, List.set_cons_succ])
    refine takeL (i := 10) (v := ?_) rfl (by kernel_rfl) (by kernel_rfl) (by kernel_rfl) (fun _ _ _ h => h) (Or.inl ⟨by rfl, ?_⟩) (unhide HH) ?_
    rotate_left 1
    · intro W hSW; go_simp; all_goals (with_reducible rfl)
    (try simp only [Act.put, List.setIfInBounds_toArray, List.set_cons_zero, List.set_cons_succ])
    refine takeL (i := 11) (v := ?_) rfl (by kernel_rfl) (by kernel_rfl) (by kernel_rfl) (fun _ _ _ h => h) (Or.inl ⟨by rfl, ?_⟩) (unhide HH) ?_
    rotate_left 1
    · intro W hSW; go_simp; all_goals (with_reducible rfl)
    (try simp only [Act.put, List.setIfInBounds_toArray, List.set_cons_zero, List.set_cons_succ])
    refine takeL (i := 12) (v := .agg #[.int .i64 (8), .int .i64 (10), .int .i64 (6)]) rfl (by kernel_rfl) (by kernel_rfl) (by kernel_rfl) (fun _ _ _ h => h) (Or.inl ⟨by rfl, fun W1 hSW => run_load_agg9 rfl rfl (((unhide HG2).below hSW).load)⟩) (unhide HH) ?_
    (try simp only [Act.put, List.setIfInBounds_toArray, List.set_cons_zero, List.set_cons_succ])
    refine takeL (i := 14) (v := ?_) rfl (by kernel_rfl) (by kernel_rfl) (by kernel_rfl) (fun _ _ _ h => h) (Or.inl ⟨by rfl, ?_⟩) (unhide HH) ?_
    rotate_left 1
    · intro W hSW; go_simp; all_goals (with_reducible rfl)
    (try simp only [Act.put, List.setIfInBounds_toArray, List.set_cons_zero, List.set_cons_succ])
    refine takeL (i := 15) (v := ?_) rfl (by kernel_rfl) (by kernel_rfl) (by kernel_rfl) (fun _ _ _ h => h) (Or.inl ⟨by rfl, ?_⟩) (unhide HH) ?_
    rotate_left 1
    · intro W1 hSW; have hc := ((unhide HG2).below hSW).c0; clear hSW; go_simp; all_goals (with_reducible rfl)
    (try simp only [Act.put, List.setIfInBounds_toArray, List.set_cons_zero, List.set_cons_succ])
    refine takeL (i := 16) (v := ?_) rfl (by kernel_rfl) (by kernel_rfl) (by kernel_rfl) (fun _ _ _ h => h) (Or.inl ⟨by rfl, ?_⟩) (unhide HH) ?_
    rotate_left 1
    · intro W hSW; go_simp; all_goals (with_reducible rfl)
    (try simp only [Act.put, List.setIfInBounds_toArray, List.set_cons_zero, List.set_cons_succ])
    refine wpAnyH_ready (rs := [13]) (by kernel_rfl) (by simp) ?_
    refine consL rfl (fun K hK => ?_) AllReadyH.nil
    go_simp
    refine (gslots_any (8) (10) (6) _).mono ?_
    rintro e w8 ⟨rfl, hk⟩
    replace HG2 := hide ((unhide HG2).below hk)
    replace HT2 := hide ((unhide HT2).trans (hk.mono (unhide HT2).size))
    rw [show slo9 (8) (10) (6) = 6 from by rw [slo9, if_pos hok]; rfl]
    go_wp2_with fail
    refine hK.out _ _ hk (fun hHeld => ?_)
    clear hK K HH hHeld
    (try simp only [Act.put, List.setIfInBounds_toArray, List.set_cons_zero, List.set_cons_succ])
    refine stronger (S' := fun W => Below w8.heap.size w8 W) (fun W h => hk.trans (h.mono hk.size)) _ _ _ _ ?_
    have HH : Hid (Below w8.heap.size w8 w8) := Below.refl _ _
    clear hk
    refine takeL (i := 17) (v := ?_) rfl (by kernel_rfl) (by kernel_rfl) (by kernel_rfl) (fun _ _ _ h => h) (Or.inl ⟨by rfl, ?_⟩) (unhide HH) ?_
    rotate_left 1
    · intro W hSW; go_simp; all_goals (with_reducible rfl)
    (try simp only [Act.put, List.setIfInBounds_toArray, List.set_cons_zero, List.set_cons_succ])
    refine takeL (i := 18) (v := ?_) rfl (by kernel_rfl) (by kernel_rfl) (by kernel_rfl) (fun _ _ _ h => h) (Or.inl ⟨by rfl, ?_⟩) (unhide HH) ?_
    rotate_left 1
    · intro W hSW; go_simp; all_goals (with_reducible rfl)
    (try simp only [Act.put, List.setIfInBounds_toArray, List.set_cons_zero, List.set_cons_succ])
    refine takeL (i := 19) (v := ?_) rfl (by kernel_rfl) (by kernel_rfl) (by kernel_rfl) (fun _ _ _ h => h) (Or.inl ⟨by rfl, ?_⟩) (unhide HH) ?_
    rotate_left 1
    · intro W hSW; go_simp; all_goals (with_reducible rfl)
    (try simp only [Act.put, List.setIfInBounds_toArray, List.set_cons_zero, List.set_cons_succ])
    refine wpAnyH_done (by kernel_rfl) ?_ _
    refine NoPanic.normal ?_
    go_wp2
    go_ret
    exact ⟨rfl, unhide HT2⟩
  · have hok : okG (6) (10) (6) := by decide
    have HG2 := hide ((unhide HG).set0 (6))
    have HT2 := hide ((unhide HT).setCell (p := ⟨w1.heap.size, 0, none⟩) hw0 (.int .i64 (6)))
    have fz := (unhide HG).free 0
    have e0 := (unhide HG).c0
    have d0 := (unhide HG2).c0
    have d1 := (unhide HG2).c1
    have d2 := (unhide HG2).c2
    clear HG HT
    go_wp2_with fail
    clear d0 d1 d2 e0 fz
    generalize w3.setCell ⟨w1.heap.size, 0, none⟩ (.int .i64 (6)) = w4 at HG2 HT2 ⊢
    replace HT2 := hide ((unhide HT2).drew)
    replace HG2 := hide ((unhide HG2).below (Below.refl _ _).drew)
    refine wp_region_noPanic ?_
    refine wp_region_held_drew (S := fun W => Below w4.drew.heap.size w4.drew W) (by kernel_rfl) (Below.refl _ _) (fun hHeld => ?_)
    have HH := hide hHeld
    clear hHeld
    generalize w4.drew = w5 at HT2 HG2 HH ⊢
    refine takeL (i := 0) (v := .agg #[.int .i64 (6), .int .i64 (10), .int .i64 (6)]) rfl (by kernel_rfl) (by kernel_rfl) (by kernel_rfl) (fun _ _ _ h => h) (Or.inl ⟨by rfl, fun W1 hSW => run_load_agg9 rfl rfl (((unhide HG2).below hSW).load)⟩) (unhide HH) ?_
    (try simp only [Act.put, List.setIfInBounds_toArray, List.set_cons_zero, List.set_cons_succ])
    refine wpAnyH_ready (rs := [1]) (by kernel_rfl) (by simp) ?_
    refine consL rfl (fun K hK => ?_) AllReadyH.nil
    go_simp
    refine (gcheck_any (6) (10) (6) _).mono ?_
    rintro e w6 ⟨rfl, hk⟩
    replace HG2 := hide ((unhide HG2).below hk)
    replace HT2 := hide ((unhide HT2).trans (hk.mono (unhide HT2).size))
    rw [chk9_ok hok]
    go_wp2_with fail
    refine hK.out _ _ hk (fun hHeld => ?_)
    clear hK K HH hHeld
    (try simp only [Act.put, List.setIfInBounds_toArray, List.set_cons_zero, List.set_cons_succ])
    refine stronger (S' := fun W => Below w6.heap.size w6 W) (fun W h => hk.trans (h.mono hk.size)) _ _ _ _ ?_
    have HH : Hid (Below w6.heap.size w6 w6) := Below.refl _ _
    clear hk
    refine takeL (i := 2) (v := ?_) rfl (by kernel_rfl) (by kernel_rfl) (by kernel_rfl) (fun _ _ _ h => h) (Or.inl ⟨by rfl, ?_⟩) (unhide HH) ?_
    rotate_left 1
    · intro W hSW; go_simp; all_goals (with_reducible rfl)
    (try simp only [Act.put, List.setIfInBounds_toArray, List.set_cons_zero, List.set_cons_succ])
    refine takeL (i := 3) (v := ?_) rfl (by kernel_rfl) (by kernel_rfl) (by kernel_rfl) (fun _ _ _ h => h) (Or.inl ⟨by rfl, ?_⟩) (unhide HH) ?_
    rotate_left 1
    · intro W hSW; go_simp; all_goals (with_reducible rfl)
    (try simp only [Act.put, List.setIfInBounds_toArray, List.set_cons_zero, List.set_cons_succ])
    refine takeL (i := 4) (v := .agg #[.int .i64 (6), .int .i64 (10), .int .i64 (6)]) rfl (by kernel_rfl) (by kernel_rfl) (by kernel_rfl) (fun _ _ _ h => h) (Or.inl ⟨by rfl, fun W1 hSW => run_load_agg9 rfl rfl (((unhide HG2).below hSW).load)⟩) (unhide HH) ?_
    (try simp only [Act.put, List.setIfInBounds_toArray, List.set_cons_zero, List.set_cons_succ])
    refine takeL (i := 7) (v := ?_) rfl (by kernel_rfl) (by kernel_rfl) (by kernel_rfl) (fun _ _ _ h => h) (Or.inl ⟨by rfl, ?_⟩) (unhide HH) ?_
    rotate_left 1
    · intro W hSW; go_simp; all_goals (with_reducible rfl)
    (try simp only [Act.put, List.setIfInBounds_toArray, List.set_cons_zero, List.set_cons_succ])
    refine takeL (i := 8) (v := ?_) rfl (by kernel_rfl) (by kernel_rfl) (by kernel_rfl) (fun _ _ _ h => h) (Or.inl ⟨by rfl, ?_⟩) (unhide HH) ?_
    rotate_left 1
    · intro W1 hSW; have hc := ((unhide HG2).below hSW).c1; clear hSW; go_simp; all_goals (with_reducible rfl)
    (try simp only [Act.put, List.setIfInBounds_toArray, List.set_cons_zero, List.set_cons_succ])
    refine wpAnyH_ready (rs := [5]) (by kernel_rfl) (by simp) ?_
    refine consL rfl (fun K hK => ?_) AllReadyH.nil
    go_simp
    refine (gsupers_any (6) (10) (6) [] none 0 0 0 _ (PArg.nil _)).mono ?_
    rintro e w7 ⟨v6, rfl, hO, hk⟩
    replace HG2 := hide ((unhide HG2).below hk)
    replace HT2 := hide ((unhide HT2).trans (hk.mono (unhide HT2).size))
    have hsl := supG_none hok
    obtain ⟨o6, c6, hv6⟩ := hO.sl
    subst hv6
    obtain ⟨sl, hsn⟩ : ∃ n, (supG (6) (10) (6) []).length = n := ⟨_, rfl⟩
    rw [hsn] at hsl ⊢
    obtain rfl : sl = 10 := by omega
    clear hsl hsn hO
    go_wp2_with fail
    refine hK.out _ _ hk (fun hHeld => ?_)
    clear hK K HH hHeld
    (try simp only [Act.put, List.setIfInBounds_toArray, List.set_cons_zero, List.set_cons_succ])
    refine stronger (S' := fun W => Below w7.heap.size w7 W) (fun W h => hk.trans (h.mono hk.size)) _ _ _ _ ?_
    have HH : Hid (Below w7.heap.size w7 w7) := Below.refl _ _
    clear hk
    refine takeL (i := 6) (v := ?_) rfl (by kernel_rfl) (by kernel_rfl) (by kernel_rfl) (fun _ _ _ h => h) (Or.inl ⟨by rfl, ?_⟩) (unhide HH) ?_
    rotate_left 1
    · intro W hSW; go_simp; all_goals (with_reducible rfl)
    (try simp only [Act.put, List.setIfInBounds_toArray, List.set_cons_zero, List.set_cons_succ])
    refine takeL (i := 9) (v := ?_) rfl (by kernel_rfl) (by kernel_rfl) (by kernel_rfl) (fun _ _ _ h => h) (Or.inl ⟨by rfl, ?_⟩) (unhide HH) ?_
    rotate_left 1
    · intro W hSW; go_simp; all_goals (with_reducible rfl)
    (try simp only [Act.put, List.setIfInBounds_toArray, List.set_cons_zero, List.set_cons_succ])
    refine takeL (i := 10) (v := ?_) rfl (by kernel_rfl) (by kernel_rfl) (by kernel_rfl) (fun _ _ _ h => h) (Or.inl ⟨by rfl, ?_⟩) (unhide HH) ?_
    rotate_left 1
    · intro W hSW; go_simp; all_goals (with_reducible rfl)
    (try simp only [Act.put, List.setIfInBounds_toArray, List.set_cons_zero, List.set_cons_succ])
    refine takeL (i := 11) (v := ?_) rfl (by kernel_rfl) (by kernel_rfl) (by kernel_rfl) (fun _ _ _ h => h) (Or.inl ⟨by rfl, ?_⟩) (unhide HH) ?_
    rotate_left 1
    · intro W hSW; go_simp; all_goals (with_reducible rfl)
    (try simp only [Act.put, List.setIfInBounds_toArray, List.set_cons_zero, List.set_cons_succ])
    refine takeL (i := 12) (v := .agg #[.int .i64 (6), .int .i64 (10), .int .i64 (6)]) rfl (by kernel_rfl) (by kernel_rfl) (by kernel_rfl) (fun _ _ _ h => h) (Or.inl ⟨by rfl, fun W1 hSW => run_load_agg9 rfl rfl (((unhide HG2).below hSW).load)⟩) (unhide HH) ?_
    (try simp only [Act.put, List.setIfInBounds_toArray, List.set_cons_zero, List.set_cons_succ])
    refine takeL (i := 14) (v := ?_) rfl (by kernel_rfl) (by kernel_rfl) (by kernel_rfl) (fun _ _ _ h => h) (Or.inl ⟨by rfl, ?_⟩) (unhide HH) ?_
    rotate_left 1
    · intro W hSW; go_simp; all_goals (with_reducible rfl)
    (try simp only [Act.put, List.setIfInBounds_toArray, List.set_cons_zero, List.set_cons_succ])
    refine takeL (i := 15) (v := ?_) rfl (by kernel_rfl) (by kernel_rfl) (by kernel_rfl) (fun _ _ _ h => h) (Or.inl ⟨by rfl, ?_⟩) (unhide HH) ?_
    rotate_left 1
    · intro W1 hSW; have hc := ((unhide HG2).below hSW).c0; clear hSW; go_simp; all_goals (with_reducible rfl)
    (try simp only [Act.put, List.setIfInBounds_toArray, List.set_cons_zero, List.set_cons_succ])
    refine takeL (i := 16) (v := ?_) rfl (by kernel_rfl) (by kernel_rfl) (by kernel_rfl) (fun _ _ _ h => h) (Or.inl ⟨by rfl, ?_⟩) (unhide HH) ?_
    rotate_left 1
    · intro W hSW; go_simp; all_goals (with_reducible rfl)
    (try simp only [Act.put, List.setIfInBounds_toArray, List.set_cons_zero, List.set_cons_succ])
    refine wpAnyH_ready (rs := [13]) (by kernel_rfl) (by simp) ?_
    refine consL rfl (fun K hK => ?_) AllReadyH.nil
    go_simp
    refine (gslots_any (6) (10) (6) _).mono ?_
    rintro e w8 ⟨rfl, hk⟩
    replace HG2 := hide ((unhide HG2).below hk)
    replace HT2 := hide ((unhide HT2).trans (hk.mono (unhide HT2).size))
    rw [show slo9 (6) (10) (6) = 4 from by rw [slo9, if_pos hok]; rfl]
    go_wp2_with fail
    refine hK.out _ _ hk (fun hHeld => ?_)
    clear hK K HH hHeld
    (try simp only [Act.put, List.setIfInBounds_toArray, List.set_cons_zero, List.set_cons_succ])
    refine stronger (S' := fun W => Below w8.heap.size w8 W) (fun W h => hk.trans (h.mono hk.size)) _ _ _ _ ?_
    have HH : Hid (Below w8.heap.size w8 w8) := Below.refl _ _
    clear hk
    refine takeL (i := 17) (v := ?_) rfl (by kernel_rfl) (by kernel_rfl) (by kernel_rfl) (fun _ _ _ h => h) (Or.inl ⟨by rfl, ?_⟩) (unhide HH) ?_
    rotate_left 1
    · intro W hSW; go_simp; all_goals (with_reducible rfl)
    (try simp only [Act.put, List.setIfInBounds_toArray, List.set_cons_zero, List.set_cons_succ])
    refine takeL (i := 18) (v := ?_) rfl (by kernel_rfl) (by kernel_rfl) (by kernel_rfl) (fun _ _ _ h => h) (Or.inl ⟨by rfl, ?_⟩) (unhide HH) ?_
    rotate_left 1
    · intro W hSW; go_simp; all_goals (with_reducible rfl)
    (try simp only [Act.put, List.setIfInBounds_toArray, List.set_cons_zero, List.set_cons_succ])
    refine takeL (i := 19) (v := ?_) rfl (by kernel_rfl) (by kernel_rfl) (by kernel_rfl) (fun _ _ _ h => h) (Or.inl ⟨by rfl, ?_⟩) (unhide HH) ?_
    rotate_left 1
    · intro W hSW; go_simp; all_goals (with_reducible rfl)
    (try simp only [Act.put, List.setIfInBounds_toArray, List.set_cons_zero, List.set_cons_succ])
    refine wpAnyH_done (by kernel_rfl) ?_ _
    refine NoPanic.normal ?_
    go_wp2
    go_ret
    exact ⟨rfl, unhide HT2⟩
  · have hok : okG (7) (12) (6) := by decide
    have HG2 := hide ((unhide HG).set1 (12))
    have HT2 := hide ((unhide HT).setCell (p := ⟨w1.heap.size, 1, none⟩) hw0 (.int .i64 (12)))
    have fz := (unhide HG).free 1
    have e1 := (unhide HG).c1
    have d0 := (unhide HG2).c0
    have d1 := (unhide HG2).c1
    have d2 := (unhide HG2).c2
    clear HG HT
    go_wp2_with fail
    clear d0 d1 d2 e1 fz
    generalize w3.setCell ⟨w1.heap.size, 1, none⟩ (.int .i64 (12)) = w4 at HG2 HT2 ⊢
    replace HT2 := hide ((unhide HT2).drew)
    replace HG2 := hide ((unhide HG2).below (Below.refl _ _).drew)
    refine wp_region_noPanic ?_
    refine wp_region_held_drew (S := fun W => Below w4.drew.heap.size w4.drew W) (by kernel_rfl) (Below.refl _ _) (fun hHeld => ?_)
    have HH := hide hHeld
    clear hHeld
    generalize w4.drew = w5 at HT2 HG2 HH ⊢
    refine takeL (i := 0) (v := .agg #[.int .i64 (7), .int .i64 (12), .int .i64 (6)]) rfl (by kernel_rfl) (by kernel_rfl) (by kernel_rfl) (fun _ _ _ h => h) (Or.inl ⟨by rfl, fun W1 hSW => run_load_agg9 rfl rfl (((unhide HG2).below hSW).load)⟩) (unhide HH) ?_
    (try simp only [Act.put, List.setIfInBounds_toArray, List.set_cons_zero, List.set_cons_succ])
    refine wpAnyH_ready (rs := [1]) (by kernel_rfl) (by simp) ?_
    refine consL rfl (fun K hK => ?_) AllReadyH.nil
    go_simp
    refine (gcheck_any (7) (12) (6) _).mono ?_
    rintro e w6 ⟨rfl, hk⟩
    replace HG2 := hide ((unhide HG2).below hk)
    replace HT2 := hide ((unhide HT2).trans (hk.mono (unhide HT2).size))
    rw [chk9_ok hok]
    go_wp2_with fail
    refine hK.out _ _ hk (fun hHeld => ?_)
    clear hK K HH hHeld
    (try simp only [Act.put, List.setIfInBounds_toArray, List.set_cons_zero, List.set_cons_succ])
    refine stronger (S' := fun W => Below w6.heap.size w6 W) (fun W h => hk.trans (h.mono hk.size)) _ _ _ _ ?_
    have HH : Hid (Below w6.heap.size w6 w6) := Below.refl _ _
    clear hk
    refine takeL (i := 2) (v := ?_) rfl (by kernel_rfl) (by kernel_rfl) (by kernel_rfl) (fun _ _ _ h => h) (Or.inl ⟨by rfl, ?_⟩) (unhide HH) ?_
    rotate_left 1
    · intro W hSW; go_simp; all_goals (with_reducible rfl)
    (try simp only [Act.put, List.setIfInBounds_toArray, List.set_cons_zero, List.set_cons_succ])
    refine takeL (i := 3) (v := ?_) rfl (by kernel_rfl) (by kernel_rfl) (by kernel_rfl) (fun _ _ _ h => h) (Or.inl ⟨by rfl, ?_⟩) (unhide HH) ?_
    rotate_left 1
    · intro W hSW; go_simp; all_goals (with_reducible rfl)
    (try simp only [Act.put, List.setIfInBounds_toArray, List.set_cons_zero, List.set_cons_succ])
    refine takeL (i := 4) (v := .agg #[.int .i64 (7), .int .i64 (12), .int .i64 (6)]) rfl (by kernel_rfl) (by kernel_rfl) (by kernel_rfl) (fun _ _ _ h => h) (Or.inl ⟨by rfl, fun W1 hSW => run_load_agg9 rfl rfl (((unhide HG2).below hSW).load)⟩) (unhide HH) ?_
    (try simp only [Act.put, List.setIfInBounds_toArray, List.set_cons_zero, List.set_cons_succ])
    refine takeL (i := 7) (v := ?_) rfl (by kernel_rfl) (by kernel_rfl) (by kernel_rfl) (fun _ _ _ h => h) (Or.inl ⟨by rfl, ?_⟩) (unhide HH) ?_
    rotate_left 1
    · intro W hSW; go_simp; all_goals (with_reducible rfl)
    (try simp only [Act.put, List.setIfInBounds_toArray, List.set_cons_zero, List.set_cons_succ])
    refine takeL (i := 8) (v := ?_) rfl (by kernel_rfl) (by kernel_rfl) (by kernel_rfl) (fun _ _ _ h => h) (Or.inl ⟨by rfl, ?_⟩) (unhide HH) ?_
    rotate_left 1
    · intro W1 hSW; have hc := ((unhide HG2).below hSW).c1; clear hSW; go_simp; all_goals (with_reducible rfl)
    (try simp only [Act.put, List.setIfInBounds_toArray, List.set_cons_zero, List.set_cons_succ])
    refine wpAnyH_ready (rs := [5]) (by kernel_rfl) (by simp) ?_
    refine consL rfl (fun K hK => ?_) AllReadyH.nil
    go_simp
    refine (gsupers_any (7) (12) (6) [] none 0 0 0 _ (PArg.nil _)).mono ?_
    rintro e w7 ⟨v6, rfl, hO, hk⟩
    replace HG2 := hide ((unhide HG2).below hk)
    replace HT2 := hide ((unhide HT2).trans (hk.mono (unhide HT2).size))
    have hsl := supG_none hok
    obtain ⟨o6, c6, hv6⟩ := hO.sl
    subst hv6
    obtain ⟨sl, hsn⟩ : ∃ n, (supG (7) (12) (6) []).length = n := ⟨_, rfl⟩
    rw [hsn] at hsl ⊢
    obtain rfl : sl = 12 := by omega
    clear hsl hsn hO
    go_wp2_with fail
    refine hK.out _ _ hk (fun hHeld => ?_)
    clear hK K HH hHeld
    (try simp only [Act.put, List.setIfInBounds_toArray, List.set_cons_zero, List.set_cons_succ])
    refine stronger (S' := fun W => Below w7.heap.size w7 W) (fun W h => hk.trans (h.mono hk.size)) _ _ _ _ ?_
    have HH : Hid (Below w7.heap.size w7 w7) := Below.refl _ _
    clear hk
    refine takeL (i := 6) (v := ?_) rfl (by kernel_rfl) (by kernel_rfl) (by kernel_rfl) (fun _ _ _ h => h) (Or.inl ⟨by rfl, ?_⟩) (unhide HH) ?_
    rotate_left 1
    · intro W hSW; go_simp; all_goals (with_reducible rfl)
    (try simp only [Act.put, List.setIfInBounds_toArray, List.set_cons_zero, List.set_cons_succ])
    refine takeL (i := 9) (v := ?_) rfl (by kernel_rfl) (by kernel_rfl) (by kernel_rfl) (fun _ _ _ h => h) (Or.inl ⟨by rfl, ?_⟩) (unhide HH) ?_
    rotate_left 1
    · intro W hSW; go_simp; all_goals (with_reducible rfl)
    (try simp only [Act.put, List.setIfInBounds_toArray, List.set_cons_zero, List.set_cons_succ])
    refine takeL (i := 10) (v := ?_) rfl (by kernel_rfl) (by kernel_rfl) (by kernel_rfl) (fun _ _ _ h => h) (Or.inl ⟨by rfl, ?_⟩) (unhide HH) ?_
    rotate_left 1
    · intro W hSW; go_simp; all_goals (with_reducible rfl)
    (try simp only [Act.put, List.setIfInBounds_toArray, List.set_cons_zero, List.set_cons_succ])
    refine takeL (i := 11) (v := ?_) rfl (by kernel_rfl) (by kernel_rfl) (by kernel_rfl) (fun _ _ _ h => h) (Or.inl ⟨by rfl, ?_⟩) (unhide HH) ?_
    rotate_left 1
    · intro W hSW; go_simp; all_goals (with_reducible rfl)
    (try simp only [Act.put, List.setIfInBounds_toArray, List.set_cons_zero, List.set_cons_succ])
    refine takeL (i := 12) (v := .agg #[.int .i64 (7), .int .i64 (12), .int .i64 (6)]) rfl (by kernel_rfl) (by kernel_rfl) (by kernel_rfl) (fun _ _ _ h => h) (Or.inl ⟨by rfl, fun W1 hSW => run_load_agg9 rfl rfl (((unhide HG2).below hSW).load)⟩) (unhide HH) ?_
    (try simp only [Act.put, List.setIfInBounds_toArray, List.set_cons_zero, List.set_cons_succ])
    refine takeL (i := 14) (v := ?_) rfl (by kernel_rfl) (by kernel_rfl) (by kernel_rfl) (fun _ _ _ h => h) (Or.inl ⟨by rfl, ?_⟩) (unhide HH) ?_
    rotate_left 1
    · intro W hSW; go_simp; all_goals (with_reducible rfl)
    (try simp only [Act.put, List.setIfInBounds_toArray, List.set_cons_zero, List.set_cons_succ])
    refine takeL (i := 15) (v := ?_) rfl (by kernel_rfl) (by kernel_rfl) (by kernel_rfl) (fun _ _ _ h => h) (Or.inl ⟨by rfl, ?_⟩) (unhide HH) ?_
    rotate_left 1
    · intro W1 hSW; have hc := ((unhide HG2).below hSW).c0; clear hSW; go_simp; all_goals (with_reducible rfl)
    (try simp only [Act.put, List.setIfInBounds_toArray, List.set_cons_zero, List.set_cons_succ])
    refine takeL (i := 16) (v := ?_) rfl (by kernel_rfl) (by kernel_rfl) (by kernel_rfl) (fun _ _ _ h => h) (Or.inl ⟨by rfl, ?_⟩) (unhide HH) ?_
    rotate_left 1
    · intro W hSW; go_simp; all_goals (with_reducible rfl)
    (try simp only [Act.put, List.setIfInBounds_toArray, List.set_cons_zero, List.set_cons_succ])
    refine wpAnyH_ready (rs := [13]) (by kernel_rfl) (by simp) ?_
    refine consL rfl (fun K hK => ?_) AllReadyH.nil
    go_simp
    refine (gslots_any (7) (12) (6) _).mono ?_
    rintro e w8 ⟨rfl, hk⟩
    replace HG2 := hide ((unhide HG2).below hk)
    replace HT2 := hide ((unhide HT2).trans (hk.mono (unhide HT2).size))
    rw [show slo9 (7) (12) (6) = 5 from by rw [slo9, if_pos hok]; rfl]
    go_wp2_with fail
    refine hK.out _ _ hk (fun hHeld => ?_)
    clear hK K HH hHeld
    (try simp only [Act.put, List.setIfInBounds_toArray, List.set_cons_zero, List.set_cons_succ])
    refine stronger (S' := fun W => Below w8.heap.size w8 W) (fun W h => hk.trans (h.mono hk.size)) _ _ _ _ ?_
    have HH : Hid (Below w8.heap.size w8 w8) := Below.refl _ _
    clear hk
    refine takeL (i := 17) (v := ?_) rfl (by kernel_rfl) (by kernel_rfl) (by kernel_rfl) (fun _ _ _ h => h) (Or.inl ⟨by rfl, ?_⟩) (unhide HH) ?_
    rotate_left 1
    · intro W hSW; go_simp; all_goals (with_reducible rfl)
    (try simp only [Act.put, List.setIfInBounds_toArray, List.set_cons_zero, List.set_cons_succ])
    refine takeL (i := 18) (v := ?_) rfl (by kernel_rfl) (by kernel_rfl) (by kernel_rfl) (fun _ _ _ h => h) (Or.inl ⟨by rfl, ?_⟩) (unhide HH) ?_
    rotate_left 1
    · intro W hSW; go_simp; all_goals (with_reducible rfl)
    (try simp only [Act.put, List.setIfInBounds_toArray, List.set_cons_zero, List.set_cons_succ])
    refine takeL (i := 19) (v := ?_) rfl (by kernel_rfl) (by kernel_rfl) (by kernel_rfl) (fun _ _ _ h => h) (Or.inl ⟨by rfl, ?_⟩) (unhide HH) ?_
    rotate_left 1
    · intro W hSW; go_simp; all_goals (with_reducible rfl)
    (try simp only [Act.put, List.setIfInBounds_toArray, List.set_cons_zero, List.set_cons_succ])
    refine wpAnyH_done (by kernel_rfl) ?_ _
    refine NoPanic.normal ?_
    go_wp2
    go_ret
    exact ⟨rfl, unhide HT2⟩
  · have hok : okG (7) (8) (6) := by decide
    have HG2 := hide ((unhide HG).set1 (8))
    have HT2 := hide ((unhide HT).setCell (p := ⟨w1.heap.size, 1, none⟩) hw0 (.int .i64 (8)))
    have fz := (unhide HG).free 1
    have e1 := (unhide HG).c1
    have d0 := (unhide HG2).c0
    have d1 := (unhide HG2).c1
    have d2 := (unhide HG2).c2
    clear HG HT
    go_wp2_with fail
    clear d0 d1 d2 e1 fz
    generalize w3.setCell ⟨w1.heap.size, 1, none⟩ (.int .i64 (8)) = w4 at HG2 HT2 ⊢
    replace HT2 := hide ((unhide HT2).drew)
    replace HG2 := hide ((unhide HG2).below (Below.refl _ _).drew)
    refine wp_region_noPanic ?_
    refine wp_region_held_drew (S := fun W => Below w4.drew.heap.size w4.drew W) (by kernel_rfl) (Below.refl _ _) (fun hHeld => ?_)
    have HH := hide hHeld
    clear hHeld
    generalize w4.drew = w5 at HT2 HG2 HH ⊢
    refine takeL (i := 0) (v := .agg #[.int .i64 (7), .int .i64 (8), .int .i64 (6)]) rfl (by kernel_rfl) (by kernel_rfl) (by kernel_rfl) (fun _ _ _ h => h) (Or.inl ⟨by rfl, fun W1 hSW => run_load_agg9 rfl rfl (((unhide HG2).below hSW).load)⟩) (unhide HH) ?_
    (try simp only [Act.put, List.setIfInBounds_toArray, List.set_cons_zero, List.set_cons_succ])
    refine wpAnyH_ready (rs := [1]) (by kernel_rfl) (by simp) ?_
    refine consL rfl (fun K hK => ?_) AllReadyH.nil
    go_simp
    refine (gcheck_any (7) (8) (6) _).mono ?_
    rintro e w6 ⟨rfl, hk⟩
    replace HG2 := hide ((unhide HG2).below hk)
    replace HT2 := hide ((unhide HT2).trans (hk.mono (unhide HT2).size))
    rw [chk9_ok hok]
    go_wp2_with fail
    refine hK.out _ _ hk (fun hHeld => ?_)
    clear hK K HH hHeld
    (try simp only [Act.put, List.setIfInBounds_toArray, List.set_cons_zero, List.set_cons_succ])
    refine stronger (S' := fun W => Below w6.heap.size w6 W) (fun W h => hk.trans (h.mono hk.size)) _ _ _ _ ?_
    have HH : Hid (Below w6.heap.size w6 w6) := Below.refl _ _
    clear hk
    refine takeL (i := 2) (v := ?_) rfl (by kernel_rfl) (by kernel_rfl) (by kernel_rfl) (fun _ _ _ h => h) (Or.inl ⟨by rfl, ?_⟩) (unhide HH) ?_
    rotate_left 1
    · intro W hSW; go_simp; all_goals (with_reducible rfl)
    (try simp only [Act.put, List.setIfInBounds_toArray, List.set_cons_zero, List.set_cons_succ])
    refine takeL (i := 3) (v := ?_) rfl (by kernel_rfl) (by kernel_rfl) (by kernel_rfl) (fun _ _ _ h => h) (Or.inl ⟨by rfl, ?_⟩) (unhide HH) ?_
    rotate_left 1
    · intro W hSW; go_simp; all_goals (with_reducible rfl)
    (try simp only [Act.put, List.setIfInBounds_toArray, List.set_cons_zero, List.set_cons_succ])
    refine takeL (i := 4) (v := .agg #[.int .i64 (7), .int .i64 (8), .int .i64 (6)]) rfl (by kernel_rfl) (by kernel_rfl) (by kernel_rfl) (fun _ _ _ h => h) (Or.inl ⟨by rfl, fun W1 hSW => run_load_agg9 rfl rfl (((unhide HG2).below hSW).load)⟩) (unhide HH) ?_
    (try simp only [Act.put, List.setIfInBounds_toArray, List.set_cons_zero, List.set_cons_succ])
    refine takeL (i := 7) (v := ?_) rfl (by kernel_rfl) (by kernel_rfl) (by kernel_rfl) (fun _ _ _ h => h) (Or.inl ⟨by rfl, ?_⟩) (unhide HH) ?_
    rotate_left 1
    · intro W hSW; go_simp; all_goals (with_reducible rfl)
    (try simp only [Act.put, List.setIfInBounds_toArray, List.set_cons_zero, List.set_cons_succ])
    refine takeL (i := 8) (v := ?_) rfl (by kernel_rfl) (by kernel_rfl) (by kernel_rfl) (fun _ _ _ h => h) (Or.inl ⟨by rfl, ?_⟩) (unhide HH) ?_
    rotate_left 1
    · intro W1 hSW; have hc := ((unhide HG2).below hSW).c1; clear hSW; go_simp; all_goals (with_reducible rfl)
    (try simp only [Act.put, List.setIfInBounds_toArray, List.set_cons_zero, List.set_cons_succ])
    refine wpAnyH_ready (rs := [5]) (by kernel_rfl) (by simp) ?_
    refine consL rfl (fun K hK => ?_) AllReadyH.nil
    go_simp
    refine (gsupers_any (7) (8) (6) [] none 0 0 0 _ (PArg.nil _)).mono ?_
    rintro e w7 ⟨v6, rfl, hO, hk⟩
    replace HG2 := hide ((unhide HG2).below hk)
    replace HT2 := hide ((unhide HT2).trans (hk.mono (unhide HT2).size))
    have hsl := supG_none hok
    obtain ⟨o6, c6, hv6⟩ := hO.sl
    subst hv6
    obtain ⟨sl, hsn⟩ : ∃ n, (supG (7) (8) (6) []).length = n := ⟨_, rfl⟩
    rw [hsn] at hsl ⊢
    obtain rfl : sl = 8 := by omega
    clear hsl hsn hO
    go_wp2_with fail
    refine hK.out _ _ hk (fun hHeld => ?_)
    clear hK K HH hHeld
    (try simp only [Act.put, List.setIfInBounds_toArray, List.set_cons_zero, List.set_cons_succ])
    refine stronger (S' := fun W => Below w7.heap.size w7 W) (fun W h => hk.trans (h.mono hk.size)) _ _ _ _ ?_
    have HH : Hid (Below w7.heap.size w7 w7) := Below.refl _ _
    clear hk
    refine takeL (i := 6) (v := ?_) rfl (by kernel_rfl) (by kernel_rfl) (by kernel_rfl) (fun _ _ _ h => h) (Or.inl ⟨by rfl, ?_⟩) (unhide HH) ?_
    rotate_left 1
    · intro W hSW; go_simp; all_goals (with_reducible rfl)
    (try simp only [Act.put, List.setIfInBounds_toArray, List.set_cons_zero, List.set_cons_succ])
    refine takeL (i := 9) (v := ?_) rfl (by kernel_rfl) (by kernel_rfl) (by kernel_rfl) (fun _ _ _ h => h) (Or.inl ⟨by rfl, ?_⟩) (unhide HH) ?_
    rotate_left 1
    · intro W hSW; go_simp; all_goals (with_reducible rfl)
    (try simp only [Act.put, List.setIfInBounds_toArray, List.set_cons_zero, List.set_cons_succ])
    refine takeL (i := 10) (v := ?_) rfl (by kernel_rfl) (by kernel_rfl) (by kernel_rfl) (fun _ _ _ h => h) (Or.inl ⟨by rfl, ?_⟩) (unhide HH) ?_
    rotate_left 1
    · intro W hSW; go_simp; all_goals (with_reducible rfl)
    (try simp only [Act.put, List.setIfInBounds_toArray, List.set_cons_zero, List.set_cons_succ])
    refine takeL (i := 11) (v := ?_) rfl (by kernel_rfl) (by kernel_rfl) (by kernel_rfl) (fun _ _ _ h => h) (Or.inl ⟨by rfl, ?_⟩) (unhide HH) ?_
    rotate_left 1
    · intro W hSW; go_simp; all_goals (with_reducible rfl)
    (try simp only [Act.put, List.setIfInBounds_toArray, List.set_cons_zero, List.set_cons_succ])
    refine takeL (i := 12) (v := .agg #[.int .i64 (7), .int .i64 (8), .int .i64 (6)]) rfl (by kernel_rfl) (by kernel_rfl) (by kernel_rfl) (fun _ _ _ h => h) (Or.inl ⟨by rfl, fun W1 hSW => run_load_agg9 rfl rfl (((unhide HG2).below hSW).load)⟩) (unhide HH) ?_
    (try simp only [Act.put, List.setIfInBounds_toArray, List.set_cons_zero, List.set_cons_succ])
    refine takeL (i := 14) (v := ?_) rfl (by kernel_rfl) (by kernel_rfl) (by kernel_rfl) (fun _ _ _ h => h) (Or.inl ⟨by rfl, ?_⟩) (unhide HH) ?_
    rotate_left 1
    · intro W hSW; go_simp; all_goals (with_reducible rfl)
    (try simp only [Act.put, List.setIfInBounds_toArray, List.set_cons_zero, List.set_cons_succ])
    refine takeL (i := 15) (v := ?_) rfl (by kernel_rfl) (by kernel_rfl) (by kernel_rfl) (fun _ _ _ h => h) (Or.inl ⟨by rfl, ?_⟩) (unhide HH) ?_
    rotate_left 1
    · intro W1 hSW; have hc := ((unhide HG2).below hSW).c0; clear hSW; go_simp; all_goals (with_reducible rfl)
    (try simp only [Act.put, List.setIfInBounds_toArray, List.set_cons_zero, List.set_cons_succ])
    refine takeL (i := 16) (v := ?_) rfl (by kernel_rfl) (by kernel_rfl) (by kernel_rfl) (fun _ _ _ h => h) (Or.inl ⟨by rfl, ?_⟩) (unhide HH) ?_
    rotate_left 1
    · intro W hSW; go_simp; all_goals (with_reducible rfl)
    (try simp only [Act.put, List.setIfInBounds_toArray, List.set_cons_zero, List.set_cons_succ])
    refine wpAnyH_ready (rs := [13]) (by kernel_rfl) (by simp) ?_
    refine consL rfl (fun K hK => ?_) AllReadyH.nil
    go_simp
    refine (gslots_any (7) (8) (6) _).mono ?_
    rintro e w8 ⟨rfl, hk⟩
    replace HG2 := hide ((unhide HG2).below hk)
    replace HT2 := hide ((unhide HT2).trans (hk.mono (unhide HT2).size))
    rw [show slo9 (7) (8) (6) = 5 from by rw [slo9, if_pos hok]; rfl]
    go_wp2_with fail
    refine hK.out _ _ hk (fun hHeld => ?_)
    clear hK K HH hHeld
    (try simp only [Act.put, List.setIfInBounds_toArray, List.set_cons_zero, List.set_cons_succ])
    refine stronger (S' := fun W => Below w8.heap.size w8 W) (fun W h => hk.trans (h.mono hk.size)) _ _ _ _ ?_
    have HH : Hid (Below w8.heap.size w8 w8) := Below.refl _ _
    clear hk
    refine takeL (i := 17) (v := ?_) rfl (by kernel_rfl) (by kernel_rfl) (by kernel_rfl) (fun _ _ _ h => h) (Or.inl ⟨by rfl, ?_⟩) (unhide HH) ?_
    rotate_left 1
    · intro W hSW; go_simp; all_goals (with_reducible rfl)
    (try simp only [Act.put, List.setIfInBounds_toArray, List.set_cons_zero, List.set_cons_succ])
    refine takeL (i := 18) (v := ?_) rfl (by kernel_rfl) (by kernel_rfl) (by kernel_rfl) (fun _ _ _ h => h) (Or.inl ⟨by rfl, ?_⟩) (unhide HH) ?_
    rotate_left 1
    · intro W hSW; go_simp; all_goals (with_reducible rfl)
    (try simp only [Act.put, List.setIfInBounds_toArray, List.set_cons_zero, List.set_cons_succ])
    refine takeL (i := 19) (v := ?_) rfl (by kernel_rfl) (by kernel_rfl) (by kernel_rfl) (fun _ _ _ h => h) (Or.inl ⟨by rfl, ?_⟩) (unhide HH) ?_
    rotate_left 1
    · intro W hSW; go_simp; all_goals (with_reducible rfl)
    (try simp only [Act.put, List.setIfInBounds_toArray, List.set_cons_zero, List.set_cons_succ])
    refine wpAnyH_done (by kernel_rfl) ?_ _
    refine NoPanic.normal ?_
    go_wp2
    go_ret
    exact ⟨rfl, unhide HT2⟩
  · have hok : okG (7) (10) (8) := by decide
    have HG2 := hide ((unhide HG).set2 (8))
    have HT2 := hide ((unhide HT).setCell (p := ⟨w1.heap.size, 2, none⟩) hw0 (.int .i64 (8)))
    have fz := (unhide HG).free 2
    have e2 := (unhide HG).c2
    have d0 := (unhide HG2).c0
    have d1 := (unhide HG2).c1
    have d2 := (unhide HG2).c2
    clear HG HT
    go_wp2_with fail
    clear d0 d1 d2 e2 fz
    generalize w3.setCell ⟨w1.heap.size, 2, none⟩ (.int .i64 (8)) = w4 at HG2 HT2 ⊢
    replace HT2 := hide ((unhide HT2).drew)
    replace HG2 := hide ((unhide HG2).below (Below.refl _ _).drew)
    refine wp_region_noPanic ?_
    refine wp_region_held_drew (S := fun W => Below w4.drew.heap.size w4.drew W) (by kernel_rfl) (Below.refl _ _) (fun hHeld => ?_)
    have HH := hide hHeld
    clear hHeld
    generalize w4.drew = w5 at HT2 HG2 HH ⊢
    refine takeL (i := 0) (v := .agg #[.int .i64 (7), .int .i64 (10), .int .i64 (8)]) rfl (by kernel_rfl) (by kernel_rfl) (by kernel_rfl) (fun _ _ _ h => h) (Or.inl ⟨by rfl, fun W1 hSW => run_load_agg9 rfl rfl (((unhide HG2).below hSW).load)⟩) (unhide HH) ?_
    (try simp only [Act.put, List.setIfInBounds_toArray, List.set_cons_zero, List.set_cons_succ])
    refine wpAnyH_ready (rs := [1]) (by kernel_rfl) (by simp) ?_
    refine consL rfl (fun K hK => ?_) AllReadyH.nil
    go_simp
    refine (gcheck_any (7) (10) (8) _).mono ?_
    rintro e w6 ⟨rfl, hk⟩
    replace HG2 := hide ((unhide HG2).below hk)
    replace HT2 := hide ((unhide HT2).trans (hk.mono (unhide HT2).size))
    rw [chk9_ok hok]
    go_wp2_with fail
    refine hK.out _ _ hk (fun hHeld => ?_)
    clear hK K HH hHeld
    (try simp only [Act.put, List.setIfInBounds_toArray, List.set_cons_zero, List.set_cons_succ])
    refine stronger (S' := fun W => Below w6.heap.size w6 W) (fun W h => hk.trans (h.mono hk.size)) _ _ _ _ ?_
    have HH : Hid (Below w6.heap.size w6 w6) := Below.refl _ _
    clear hk
    refine takeL (i := 2) (v := ?_) rfl (by kernel_rfl) (by kernel_rfl) (by kernel_rfl) (fun _ _ _ h => h) (Or.inl ⟨by rfl, ?_⟩) (unhide HH) ?_
    rotate_left 1
    · intro W hSW; go_simp; all_goals (with_reducible rfl)
    (try simp only [Act.put, List.setIfInBounds_toArray, List.set_cons_zero, List.set_cons_succ])
    refine takeL (i := 3) (v := ?_) rfl (by kernel_rfl) (by kernel_rfl) (by kernel_rfl) (fun _ _ _ h => h) (Or.inl ⟨by rfl, ?_⟩) (unhide HH) ?_
    rotate_left 1
    · intro W hSW; go_simp; all_goals (with_reducible rfl)
    (try simp only [Act.put, List.setIfInBounds_toArray, List.set_cons_zero, List.set_cons_succ])
    refine takeL (i := 4) (v := .agg #[.int .i64 (7), .int .i64 (10), .int .i64 (8)]) rfl (by kernel_rfl) (by kernel_rfl) (by kernel_rfl) (fun _ _ _ h => h) (Or.inl ⟨by rfl, fun W1 hSW => run_load_agg9 rfl rfl (((unhide HG2).below hSW).load)⟩) (unhide HH) ?_
    (try simp only [Act.put, List.setIfInBounds_toArray, List.set_cons_zero, List.set_cons_succ])
    refine takeL (i := 7) (v := ?_) rfl (by kernel_rfl) (by kernel_rfl) (by kernel_rfl) (fun _ _ _ h => h) (Or.inl ⟨by rfl, ?_⟩) (unhide HH) ?_
    rotate_left 1
    · intro W hSW; go_simp; all_goals (with_reducible rfl)
    (try simp only [Act.put, List.setIfInBounds_toArray, List.set_cons_zero, List.set_cons_succ])
    refine takeL (i := 8) (v := ?_) rfl (by kernel_rfl) (by kernel_rfl) (by kernel_rfl) (fun _ _ _ h => h) (Or.inl ⟨by rfl, ?_⟩) (unhide HH) ?_
    rotate_left 1
    · intro W1 hSW; have hc := ((unhide HG2).below hSW).c1; clear hSW; go_simp; all_goals (with_reducible rfl)
    (try simp only [Act.put, List.setIfInBounds_toArray, List.set_cons_zero, List.set_cons_succ])
    refine wpAnyH_ready (rs := [5]) (by kernel_rfl) (by simp) ?_
    refine consL rfl (fun K hK => ?_) AllReadyH.nil
    go_simp
    refine (gsupers_any (7) (10) (8) [] none 0 0 0 _ (PArg.nil _)).mono ?_
    rintro e w7 ⟨v6, rfl, hO, hk⟩
    replace HG2 := hide ((unhide HG2).below hk)
    replace HT2 := hide ((unhide HT2).trans (hk.mono (unhide HT2).size))
    have hsl := supG_none hok
    obtain ⟨o6, c6, hv6⟩ := hO.sl
    subst hv6
    obtain ⟨sl, hsn⟩ : ∃ n, (supG (7) (10) (8) []).length = n := ⟨_, rfl⟩
    rw [hsn] at hsl ⊢
    obtain rfl : sl = 10 := by omega
    clear hsl hsn hO
    go_wp2_with fail
    refine hK.out _ _ hk (fun hHeld => ?_)
    clear hK K HH hHeld
    (try simp only [Act.put, List.setIfInBounds_toArray, List.set_cons_zero, List.set_cons_succ])
    refine stronger (S' := fun W => Below w7.heap.size w7 W) (fun W h => hk.trans (h.mono hk.size)) _ _ _ _ ?_
    have HH : Hid (Below w7.heap.size w7 w7) := Below.refl _ _
    clear hk
    refine takeL (i := 6) (v := ?_) rfl (by kernel_rfl) (by kernel_rfl) (by kernel_rfl) (fun _ _ _ h => h) (Or.inl ⟨by rfl, ?_⟩) (unhide HH) ?_
    rotate_left 1
    · intro W hSW; go_simp; all_goals (with_reducible rfl)
    (try simp only [Act.put, List.setIfInBounds_toArray, List.set_cons_zero, List.set_cons_succ])
    refine takeL (i := 9) (v := ?_) rfl (by kernel_rfl) (by kernel_rfl) (by kernel_rfl) (fun _ _ _ h => h) (Or.inl ⟨by rfl, ?_⟩) (unhide HH) ?_
    rotate_left 1
    · intro W hSW; go_simp; all_goals (with_reducible rfl)
    (try simp only [Act.put, List.setIfInBounds_toArray, List.set_cons_zero, List.set_cons_succ])
    refine takeL (i := 10) (v := ?_) rfl (by kernel_rfl) (by kernel_rfl) (by kernel_rfl) (fun _ _ _ h => h) (Or.inl ⟨by rfl, ?_⟩) (unhide HH) ?_
    rotate_left 1
    · intro W hSW; go_simp; all_goals (with_reducible rfl)
    (try simp only [Act.put, List.setIfInBounds_toArray, List.set_cons_zero, List.set_cons_succ])
    refine takeL (i := 11) (v := ?_) rfl (by kernel_rfl) (by kernel_rfl) (by kernel_rfl) (fun _ _ _ h => h) (Or.inl ⟨by rfl, ?_⟩) (unhide HH) ?_
    rotate_left 1
    · intro W hSW; go_simp; all_goals (with_reducible rfl)
    (try simp only [Act.put, List.setIfInBounds_toArray, List.set_cons_zero, List.set_cons_succ])
    refine takeL (i := 12) (v := .agg #[.int .i64 (7), .int .i64 (10), .int .i64 (8)]) rfl (by kernel_rfl) (by kernel_rfl) (by kernel_rfl) (fun _ _ _ h => h) (Or.inl ⟨by rfl, fun W1 hSW => run_load_agg9 rfl rfl (((unhide HG2).below hSW).load)⟩) (unhide HH) ?_
    (try simp only [Act.put, List.setIfInBounds_toArray, List.set_cons_zero, List.set_cons_succ])
    refine takeL (i := 14) (v := ?_) rfl (by kernel_rfl) (by kernel_rfl) (by kernel_rfl) (fun _ _ _ h => h) (Or.inl ⟨by rfl, ?_⟩) (unhide HH) ?_
    rotate_left 1
    · intro W hSW; go_simp; all_goals (with_reducible rfl)
    (try simp only [Act.put, List.setIfInBounds_toArray, List.set_cons_zero, List.set_cons_succ])
    refine takeL (i := 15) (v := ?_) rfl (by kernel_rfl) (by kernel_rfl) (by kernel_rfl) (fun _ _ _ h => h) (Or.inl ⟨by rfl, ?_⟩) (unhide HH) ?_
    rotate_left 1
    · intro W1 hSW; have hc := ((unhide HG2).below hSW).c0; clear hSW; go_simp; all_goals (with_reducible rfl)
    (try simp only [Act.put, List.setIfInBounds_toArray, List.set_cons_zero, List.set_cons_succ])
    refine takeL (i := 16) (v := ?_) rfl (by kernel_rfl) (by kernel_rfl) (by kernel_rfl) (fun _ _ _ h => h) (Or.inl ⟨by rfl, ?_⟩) (unhide HH) ?_
    rotate_left 1
    · intro W hSW; go_simp; all_goals (with_reducible rfl)
    (try simp only [Act.put, List.setIfInBounds_toArray, List.set_cons_zero, List.set_cons_succ])
    refine wpAnyH_ready (rs := [13]) (by kernel_rfl) (by simp) ?_
    refine consL rfl (fun K hK => ?_) AllReadyH.nil
    go_simp
    refine (gslots_any (7) (10) (8) _).mono ?_
    rintro e w8 ⟨rfl, hk⟩
    replace HG2 := hide ((unhide HG2).below hk)
    replace HT2 := hide ((unhide HT2).trans (hk.mono (unhide HT2).size))
    rw [show slo9 (7) (10) (8) = 5 from by rw [slo9, if_pos hok]; rfl]
    go_wp2_with fail
    refine hK.out _ _ hk (fun hHeld => ?_)
    clear hK K HH hHeld
    (try simp only [Act.put, List.setIfInBounds_toArray, List.set_cons_zero, List.set_cons_succ])
    refine stronger (S' := fun W => Below w8.heap.size w8 W) (fun W h => hk.trans (h.mono hk.size)) _ _ _ _ ?_
    have HH : Hid (Below w8.heap.size w8 w8) := Below.refl _ _
    clear hk
    refine takeL (i := 17) (v := ?_) rfl (by kernel_rfl) (by kernel_rfl) (by kernel_rfl) (fun _ _ _ h => h) (Or.inl ⟨by rfl, ?_⟩) (unhide HH) ?_
    rotate_left 1
    · intro W hSW; go_simp; all_goals (with_reducible rfl)
    (try simp only [Act.put, List.setIfInBounds_toArray, List.set_cons_zero, List.set_cons_succ])
    refine takeL (i := 18) (v := ?_) rfl (by kernel_rfl) (by kernel_rfl) (by kernel_rfl) (fun _ _ _ h => h) (Or.inl ⟨by rfl, ?_⟩) (unhide HH) ?_
    rotate_left 1
    · intro W hSW; go_simp; all_goals (with_reducible rfl)
    (try simp only [Act.put, List.setIfInBounds_toArray, List.set_cons_zero, List.set_cons_succ])
    refine takeL (i := 19) (v := ?_) rfl (by kernel_rfl) (by kernel_rfl) (by kernel_rfl) (fun _ _ _ h => h) (Or.inl ⟨by rfl, ?_⟩) (unhide HH) ?_
    rotate_left 1
    · intro W hSW; go_simp; all_goals (with_reducible rfl)
    (try simp only [Act.put, List.setIfInBounds_toArray, List.set_cons_zero, List.set_cons_succ])
    refine wpAnyH_done (by kernel_rfl) ?_ _
    refine NoPanic.normal ?_
    go_wp2
    go_ret
    exact ⟨rfl, unhide HT2⟩
  · have hok : okG (7) (10) (4) := by decide
    have HG2 := hide ((unhide HG).set2 (4))
    have HT2 := hide ((unhide HT).setCell (p := ⟨w1.heap.size, 2, none⟩) hw0 (.int .i64 (4)))
    have fz := (unhide HG).free 2
    have e2 := (unhide HG).c2
    have d0 := (unhide HG2).c0
    have d1 := (unhide HG2).c1
    have d2 := (unhide HG2).c2
    clear HG HT
    go_wp2_with fail
    clear d0 d1 d2 e2 fz
    generalize w3.setCell ⟨w1.heap.size, 2, none⟩ (.int .i64 (4)) = w4 at HG2 HT2 ⊢
    replace HT2 := hide ((unhide HT2).drew)
    replace HG2 := hide ((unhide HG2).below (Below.refl _ _).drew)
    refine wp_region_noPanic ?_
    refine wp_region_held_drew (S := fun W => Below w4.drew.heap.size w4.drew W) (by kernel_rfl) (Below.refl _ _) (fun hHeld => ?_)
    have HH := hide hHeld
    clear hHeld
    generalize w4.drew = w5 at HT2 HG2 HH ⊢
    refine takeL (i := 0) (v := .agg #[.int .i64 (7), .int .i64 (10), .int .i64 (4)]) rfl (by kernel_rfl) (by kernel_rfl) (by kernel_rfl) (fun _ _ _ h => h) (Or.inl ⟨by rfl, fun W1 hSW => run_load_agg9 rfl rfl (((unhide HG2).below hSW).load)⟩) (unhide HH) ?_
    (try simp only [Act.put, List.setIfInBounds_toArray, List.set_cons_zero, List.set_cons_succ])
    refine wpAnyH_ready (rs := [1]) (by kernel_rfl) (by simp) ?_
    refine consL rfl (fun K hK => ?_) AllReadyH.nil
    go_simp
    refine (gcheck_any (7) (10) (4) _).mono ?_
    rintro e w6 ⟨rfl, hk⟩
    replace HG2 := hide ((unhide HG2).below hk)
    replace HT2 := hide ((unhide HT2).trans (hk.mono (unhide HT2).size))
    rw [chk9_ok hok]
    go_wp2_with fail
    refine hK.out _ _ hk (fun hHeld => ?_)
    clear hK K HH hHeld
    (try simp only [Act.put, List.setIfInBounds_toArray, List.set_cons_zero, List.set_cons_succ])
    refine stronger (S' := fun W => Below w6.heap.size w6 W) (fun W h => hk.trans (h.mono hk.size)) _ _ _ _ ?_
    have HH : Hid (Below w6.heap.size w6 w6) := Below.refl _ _
    clear hk
    refine takeL (i := 2) (v := ?_) rfl (by kernel_rfl) (by kernel_rfl) (by kernel_rfl) (fun _ _ _ h => h) (Or.inl ⟨by rfl, ?_⟩) (unhide HH) ?_
    rotate_left 1
    · intro W hSW; go_simp; all_goals (with_reducible rfl)
    (try simp only [Act.put, List.setIfInBounds_toArray, List.set_cons_zero, List.set_cons_succ])
    refine takeL (i := 3) (v := ?_) rfl (by kernel_rfl) (by kernel_rfl) (by kernel_rfl) (fun _ _ _ h => h) (Or.inl ⟨by rfl, ?_⟩) (unhide HH) ?_
    rotate_left 1
    · intro W hSW; go_simp; all_goals (with_reducible rfl)
    (try simp only [Act.put, List.setIfInBounds_toArray, List.set_cons_zero, List.set_cons_succ])
    refine takeL (i := 4) (v := .agg #[.int .i64 (7), .int .i64 (10), .int .i64 (4)]) rfl (by kernel_rfl) (by kernel_rfl) (by kernel_rfl) (fun _ _ _ h => h) (Or.inl ⟨by rfl, fun W1 hSW => run_load_agg9 rfl rfl (((unhide HG2).below hSW).load)⟩) (unhide HH) ?_
    (try simp only [Act.put, List.setIfInBounds_toArray, List.set_cons_zero, List.set_cons_succ])
    refine takeL (i := 7) (v := ?_) rfl (by kernel_rfl) (by kernel_rfl) (by kernel_rfl) (fun _ _ _ h => h) (Or.inl ⟨by rfl, ?_⟩) (unhide HH) ?_
    rotate_left 1
    · intro W hSW; go_simp; all_goals (with_reducible rfl)
    (try simp only [Act.put, List.setIfInBounds_toArray, List.set_cons_zero, List.set_cons_succ])
    refine takeL (i := 8) (v := ?_) rfl (by kernel_rfl) (by kernel_rfl) (by kernel_rfl) (fun _ _ _ h => h) (Or.inl ⟨by rfl, ?_⟩) (unhide HH) ?_
    rotate_left 1
    · intro W1 hSW; have hc := ((unhide HG2).below hSW).c1; clear hSW; go_simp; all_goals (with_reducible rfl)
    (try simp only [Act.put, List.setIfInBounds_toArray, List.set_cons_zero, List.set_cons_succ])
    refine wpAnyH_ready (rs := [5]) (by kernel_rfl) (by simp) ?_
    refine consL rfl (fun K hK => ?_) AllReadyH.nil
    go_simp
    refine (gsupers_any (7) (10) (4) [] none 0 0 0 _ (PArg.nil _)).mono ?_
    rintro e w7 ⟨v6, rfl, hO, hk⟩
    replace HG2 := hide ((unhide HG2).below hk)
    replace HT2 := hide ((unhide HT2).trans (hk.mono (unhide HT2).size))
    have hsl := supG_none hok
    obtain ⟨o6, c6, hv6⟩ := hO.sl
    subst hv6
    obtain ⟨sl, hsn⟩ : ∃ n, (supG (7) (10) (4) []).length = n := ⟨_, rfl⟩
    rw [hsn] at hsl ⊢
    obtain rfl : sl = 10 := by omega
    clear hsl hsn hO
    go_wp2_with fail
    refine hK.out _ _ hk (fun hHeld => ?_)
    clear hK K HH hHeld
    (try simp only [Act.put, List.setIfInBounds_toArray, List.set_cons_zero, List.set_cons_succ])
    refine stronger (S' := fun W => Below w7.heap.size w7 W) (fun W h => hk.trans (h.mono hk.size)) _ _ _ _ ?_
    have HH : Hid (Below w7.heap.size w7 w7) := Below.refl _ _
    clear hk
    refine takeL (i := 6) (v := ?_) rfl (by kernel_rfl) (by kernel_rfl) (by kernel_rfl) (fun _ _ _ h => h) (Or.inl ⟨by rfl, ?_⟩) (unhide HH) ?_
    rotate_left 1
    · intro W hSW; go_simp; all_goals (with_reducible rfl)
    (try simp only [Act.put, List.setIfInBounds_toArray, List.set_cons_zero, List.set_cons_succ])
    refine takeL (i := 9) (v := ?_) rfl (by kernel_rfl) (by kernel_rfl) (by kernel_rfl) (fun _ _ _ h => h) (Or.inl ⟨by rfl, ?_⟩) (unhide HH) ?_
    rotate_left 1
    · intro W hSW; go_simp; all_goals (with_reducible rfl)
    (try simp only [Act.put, List.setIfInBounds_toArray, List.set_cons_zero, List.set_cons_succ])
    refine takeL (i := 10) (v := ?_) rfl (by kernel_rfl) (by kernel_rfl) (by kernel_rfl) (fun _ _ _ h => h) (Or.inl ⟨by rfl, ?_⟩) (unhide HH) ?_
    rotate_left 1
    · intro W hSW; go_simp; all_goals (with_reducible rfl)
    (try simp only [Act.put, List.setIfInBounds_toArray, List.set_cons_zero, List.set_cons_succ])
    refine takeL (i := 11) (v := ?_) rfl (by kernel_rfl) (by kernel_rfl) (by kernel_rfl) (fun _ _ _ h => h) (Or.inl ⟨by rfl, ?_⟩) (unhide HH) ?_
    rotate_left 1
    · intro W hSW; go_simp; all_goals (with_reducible rfl)
    (try simp only [Act.put, List.setIfInBounds_toArray, List.set_cons_zero, List.set_cons_succ])
    refine takeL (i := 12) (v := .agg #[.int .i64 (7), .int .i64 (10), .int .i64 (4)]) rfl (by kernel_rfl) (by kernel_rfl) (by kernel_rfl) (fun _ _ _ h => h) (Or.inl ⟨by rfl, fun W1 hSW => run_load_agg9 rfl rfl (((unhide HG2).below hSW).load)⟩) (unhide HH) ?_
    (try simp only [Act.put, List.setIfInBounds_toArray, List.set_cons_zero, List.set_cons_succ])
    refine takeL (i := 14) (v := ?_) rfl (by kernel_rfl) (by kernel_rfl) (by kernel_rfl) (fun _ _ _ h => h) (Or.inl ⟨by rfl, ?_⟩) (unhide HH) ?_
    rotate_left 1
    · intro W hSW; go_simp; all_goals (with_reducible rfl)
    (try simp only [Act.put, List.setIfInBounds_toArray, List.set_cons_zero, List.set_cons_succ])
    refine takeL (i := 15) (v := ?_) rfl (by kernel_rfl) (by kernel_rfl) (by kernel_rfl) (fun _ _ _ h => h) (Or.inl ⟨by rfl, ?_⟩) (unhide HH) ?_
    rotate_left 1
    · intro W1 hSW; have hc := ((unhide HG2).below hSW).c0; clear hSW; go_simp; all_goals (with_reducible rfl)
    (try simp only [Act.put, List.setIfInBounds_toArray, List.set_cons_zero, List.set_cons_succ])
    refine takeL (i := 16) (v := ?_) rfl (by kernel_rfl) (by kernel_rfl) (by kernel_rfl) (fun _ _ _ h => h) (Or.inl ⟨by rfl, ?_⟩) (unhide HH) ?_
    rotate_left 1
    · intro W hSW; go_simp; all_goals (with_reducible rfl)
    (try simp only [Act.put, List.setIfInBounds_toArray, List.set_cons_zero, List.set_cons_succ])
    refine wpAnyH_ready (rs := [13]) (by kernel_rfl) (by simp) ?_
    refine consL rfl (fun K hK => ?_) AllReadyH.nil
    go_simp
    refine (gslots_any (7) (10) (4) _).mono ?_
    rintro e w8 ⟨rfl, hk⟩
    replace HG2 := hide ((unhide HG2).below hk)
    replace HT2 := hide ((unhide HT2).trans (hk.mono (unhide HT2).size))
    rw [show slo9 (7) (10) (4) = 5 from by rw [slo9, if_pos hok]; rfl]
    go_wp2_with fail
    refine hK.out _ _ hk (fun hHeld => ?_)
    clear hK K HH hHeld
    (try simp only [Act.put, List.setIfInBounds_toArray, List.set_cons_zero, List.set_cons_succ])
    refine stronger (S' := fun W => Below w8.heap.size w8 W) (fun W h => hk.trans (h.mono hk.size)) _ _ _ _ ?_
    have HH : Hid (Below w8.heap.size w8 w8) := Below.refl _ _
    clear hk
    refine takeL (i := 17) (v := ?_) rfl (by kernel_rfl) (by kernel_rfl) (by kernel_rfl) (fun _ _ _ h => h) (Or.inl ⟨by rfl, ?_⟩) (unhide HH) ?_
    rotate_left 1
    · intro W hSW; go_simp; all_goals (with_reducible rfl)
    (try simp only [Act.put, List.setIfInBounds_toArray, List.set_cons_zero, List.set_cons_succ])
    refine takeL (i := 18) (v := ?_) rfl (by kernel_rfl) (by kernel_rfl) (by kernel_rfl) (fun _ _ _ h => h) (Or.inl ⟨by rfl, ?_⟩) (unhide HH) ?_
    rotate_left 1
    · intro W hSW; go_simp; all_goals (with_reducible rfl)
    (try simp only [Act.put, List.setIfInBounds_toArray, List.set_cons_zero, List.set_cons_succ])
    refine takeL (i := 19) (v := ?_) rfl (by kernel_rfl) (by kernel_rfl) (by kernel_rfl) (fun _ _ _ h => h) (Or.inl ⟨by rfl, ?_⟩) (unhide HH) ?_
    rotate_left 1
    · intro W hSW; go_simp; all_goals (with_reducible rfl)
    (try simp only [Act.put, List.setIfInBounds_toArray, List.set_cons_zero, List.set_cons_succ])
    refine wpAnyH_done (by kernel_rfl) ?_ _
    refine NoPanic.normal ?_
    go_wp2
    go_ret
    exact ⟨rfl, unhide HT2⟩

theorem gbou_walk (a c : Int) (b : Bool) (w : World) : Calls Try.prog 5 #[.int .i64 a, .bool b, .int .i64 c] w fun x w' => x = .returned (.bool true) ∧ Below w.heap.size w w' := by
  cases b
  · exact gbou_not a c w
  · exact gbou_above a c w

end Go.Proofs.Ytnhhemecfcljbaa
