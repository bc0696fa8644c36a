/-
  The walk of RowEncodes.
-/
import Derived.Test.YtjdikhelabibnaaGreatMbi
namespace Go.Proofs.YtjdikhelabibnaaGreat
open Go Go.RowKit Go.Shelf

set_option maxRecDepth 100000 in
set_option maxHeartbeats 16000000 in
theorem encodes_any (a0 a1 a2 a3 : Int) (ao : Option Addr) (n c g : Nat) (L : List EV) (w : World) (hL : EArg w (.slice ao n c) g L) :
    Calls Tryz.prog 3 #[.int .i64 a0, .int .i64 a1, .int .i64 a2, .int .i64 a3, .slice ao n c] w fun e w' => e = .returned (.bool true) ∧ Below w.heap.size w w' := by
  obtain ⟨hln, hnc, hcm, -⟩ := hL.mrow
  have HL := hide hL
  have HLN := hide hln
  have hnm : (n : Int) ≤ 9223372036854775807 := by unfold maxLen at hcm; omega
  clear hL hln hnc hcm
  obtain ⟨t, ht, ht3⟩ : ∃ t : Nat, a0 % 3 = (t : Int) ∧ t < 3 := ⟨(a0 % 3).toNat, by omega, by omega⟩
  obtain ⟨A1, hA1, b1, b1'⟩ : ∃ r : Int, a1 % 99 = r ∧ 0 ≤ r ∧ r < 99 := ⟨_, rfl, by omega, by omega⟩
  obtain ⟨A2, hA2, b2, b2'⟩ : ∃ r : Int, a2 % 256 = r ∧ 0 ≤ r ∧ r < 256 := ⟨_, rfl, by omega, by omega⟩
  obtain ⟨A3, hA3, b3, b3'⟩ : ∃ r : Int, a3 % 256 = r ∧ 0 ≤ r ∧ r < 256 := ⟨_, rfl, by omega, by omega⟩
  have W0 := fun W => (show Calls Tryz.prog 10 #[.int .i64 a0, .int .i64 3] W fun e w' => e = .returned (.int .i64 (t : Int)) ∧ w' = W from (within11_any a0 3 W (by decide) (by decide)).mono (fun e w' h => by rw [← ht]; exact h))
  have W1 := fun W => (show Calls Tryz.prog 10 #[.int .i64 a1, .int .i64 99] W fun e w' => e = .returned (.int .i64 A1) ∧ w' = W from (within11_any a1 99 W (by decide) (by decide)).mono (fun e w' h => by rw [← hA1]; exact h))
  have W2 := fun W => (show Calls Tryz.prog 10 #[.int .i64 a2, .int .i64 256] W fun e w' => e = .returned (.int .i64 A2) ∧ w' = W from (within11_any a2 256 W (by decide) (by decide)).mono (fun e w' h => by rw [← hA2]; exact h))
  have W3 := fun W => (show Calls Tryz.prog 10 #[.int .i64 a3, .int .i64 256] W fun e w' => e = .returned (.int .i64 A3) ∧ w' = W from (within11_any a3 256 W (by decide) (by decide)).mono (fun e w' h => by rw [← hA3]; exact h))
  have HW0 := hide W0
  have HW1 := hide W1
  have HW2 := hide W2
  have HW3 := hide W3
  have HA := hide (show (0 ≤ A1 ∧ A1 < 99) ∧ (0 ≤ A2 ∧ A2 < 256) ∧ 0 ≤ A3 ∧ A3 < 256 from ⟨⟨b1, b1'⟩, ⟨b2, b2'⟩, b3, b3'⟩)
  clear W0 W1 W2 W3 ht hA1 hA2 hA3 b2 b2' b3 b3'
  go_enter Tryz.func3, Tryz.ntmps3
  go_wp2_with fail
  refine (known11_any w).mono ?_
  rintro e w1 ⟨rfl, hk⟩
  have HT := hide hk
  clear hk
  by_cases hlen : 12 < n
  · have hl1 : (12 : Int) < (n : Int) := by omega
    go_wp2_with fail
    go_ret
    exact ⟨rfl, unhide HT⟩
  have hl1 : (n : Int) ≤ 12 := by omega
  go_wp2_with fail
  refine (unhide HW0 _).mono ?_
  rintro e wx ⟨rfl, hwx⟩
  rw [hwx]
  clear hwx wx
  go_wp2_with fail
  refine (unhide HW1 _).mono ?_
  rintro e wx ⟨rfl, hwx⟩
  rw [hwx]
  clear hwx wx
  go_wp2_with fail
  refine (unhide HW2 _).mono ?_
  rintro e wx ⟨rfl, hwx⟩
  rw [hwx]
  clear hwx wx
  go_wp2_with fail
  refine (unhide HW3 _).mono ?_
  rintro e wx ⟨rfl, hwx⟩
  rw [hwx]
  clear hwx wx
  go_wp2_with fail
  have hsl := slots11_any ao n c g L (t + 4) (by omega) _ ((unhide HL).below (unhide HT))
  rw [show ((t + 4 : Nat) : Int) = 6 + (t : Int) - 2 by omega] at hsl
  refine hsl.mono ?_
  clear hsl
  rintro e w2 ⟨v, rfl, hO, hk⟩
  obtain ⟨sa, sn, sc, sg, hv, hE⟩ := hO.arg'
  subst hv
  replace HT := hide ((unhide HT).trans (hk.mono (unhide HT).size))
  have HE := hide hE
  clear hk hO hE
  go_wp2_with fail
  refine (enc11_any (6 + (t : Int)) (1 + A1) A2 A3 sa sn sc sg (gdSl L (t + 4)) w2 (unhide HE)).mono ?_
  rintro e w3 h
  obtain ⟨hk, aow3, mw3, kw3, Gw3, Aw3, Cw3, rfl, hR⟩ := EncR.use h
  replace HT := hide ((unhide HT).trans (hk.mono (unhide HT).size))
  have HRw3 := hide hR
  clear h hk hR
  have hokr : okRow (6 + (t : Int)) (1 + A1) A2 A3 (gdSl L (t + 4)) := ⟨⟨by omega, by omega⟩, ⟨⟨by have := (unhide HA).1; omega, by have := (unhide HA).1; omega⟩, ⟨by have := (unhide HA).2.1; omega, by have := (unhide HA).2.1; omega⟩, by have := (unhide HA).2.2; omega, by have := (unhide HA).2.2; omega⟩, by rw [gdSl_len]; omega, gdSl_okL _⟩
  rw [encE_ok hokr]
  clear hokr
  go_wp2_with fail
  refine (unhide HW1 _).mono ?_
  rintro e wx ⟨rfl, hwx⟩
  rw [hwx]
  clear hwx wx
  go_wp2_with fail
  refine (unhide HW2 _).mono ?_
  rintro e wx ⟨rfl, hwx⟩
  rw [hwx]
  clear hwx wx
  go_wp2_with fail
  refine (unhide HW3 _).mono ?_
  rintro e wx ⟨rfl, hwx⟩
  rw [hwx]
  clear hwx wx
  go_wp2_with fail
  have hsl := slots11_any ao n c g L (t + 4) (by omega) _ ((unhide HL).below (unhide HT))
  rw [show ((t + 4 : Nat) : Int) = 6 + (t : Int) - 2 by omega] at hsl
  refine hsl.mono ?_
  clear hsl
  rintro e w4 ⟨v, rfl, hO, hk⟩
  obtain ⟨sa, sn, sc, sg, hv, hE⟩ := hO.arg'
  subst hv
  replace HT := hide ((unhide HT).trans (hk.mono (unhide HT).size))
  replace HRw3 := hide ((unhide HRw3).below hk)
  have HE := hide hE
  clear hk hO hE
  go_wp2_with fail
  refine (renc11_any (6 + (t : Int)) (1 + A1) A2 A3 sa sn sc sg (gdSl L (t + 4)) w4 (unhide HE)).mono ?_
  rintro e w5 h
  obtain ⟨hk, aow5, mw5, kw5, Gw5, Aw5, Cw5, rfl, hR⟩ := EncR.use h
  replace HT := hide ((unhide HT).trans (hk.mono (unhide HT).size))
  replace HRw3 := hide ((unhide HRw3).below hk)
  have HRw5 := hide hR
  clear h hk hR
  have hokr : okRow (6 + (t : Int)) (1 + A1) A2 A3 (gdSl L (t + 4)) := ⟨⟨by omega, by omega⟩, ⟨⟨by have := (unhide HA).1; omega, by have := (unhide HA).1; omega⟩, ⟨by have := (unhide HA).2.1; omega, by have := (unhide HA).2.1; omega⟩, by have := (unhide HA).2.2; omega, by have := (unhide HA).2.2; omega⟩, by rw [gdSl_len]; omega, gdSl_okL _⟩
  rw [encE_ok hokr]
  clear hokr
  go_wp2_with fail
  have hsl := slots11_any ao n c g L (12) (by omega) _ ((unhide HL).below (unhide HT))
  refine hsl.mono ?_
  clear hsl
  rintro e w6 ⟨v, rfl, hO, hk⟩
  obtain ⟨sa, sn, sc, sg, hv, hE⟩ := hO.arg'
  subst hv
  replace HT := hide ((unhide HT).trans (hk.mono (unhide HT).size))
  replace HRw3 := hide ((unhide HRw3).below hk)
  replace HRw5 := hide ((unhide HRw5).below hk)
  have HE := hide hE
  clear hk hO hE
  go_wp2_with fail
  refine (enc11_any a0 a1 a2 a3 sa sn sc sg (gdSl L 12) w6 (unhide HE)).mono ?_
  rintro e w7 h
  obtain ⟨hk, aow7, mw7, kw7, Gw7, Aw7, Cw7, rfl, hR⟩ := EncR.use h
  replace HT := hide ((unhide HT).trans (hk.mono (unhide HT).size))
  replace HRw3 := hide ((unhide HRw3).below hk)
  replace HRw5 := hide ((unhide HRw5).below hk)
  have HRw7 := hide hR
  clear h hk hR
  obtain ⟨e2, he2⟩ : ∃ e2, encE a0 a1 a2 a3 (gdSl L 12) = e2 := ⟨_, rfl⟩
  rw [he2]
  have HEE2 := hide he2
  clear he2
  go_wp2_with fail
  have hsl := slots11_any ao n c g L (12) (by omega) _ ((unhide HL).below (unhide HT))
  refine hsl.mono ?_
  clear hsl
  rintro e w8 ⟨v, rfl, hO, hk⟩
  obtain ⟨sa, sn, sc, sg, hv, hE⟩ := hO.arg'
  subst hv
  replace HT := hide ((unhide HT).trans (hk.mono (unhide HT).size))
  replace HRw3 := hide ((unhide HRw3).below hk)
  replace HRw5 := hide ((unhide HRw5).below hk)
  replace HRw7 := hide ((unhide HRw7).below hk)
  have HE := hide hE
  clear hk hO hE
  go_wp2_with fail
  refine (renc11_any a0 a1 a2 a3 sa sn sc sg (gdSl L 12) w8 (unhide HE)).mono ?_
  rintro e w9 h
  obtain ⟨hk, aow9, mw9, kw9, Gw9, Aw9, Cw9, rfl, hR⟩ := EncR.use h
  replace HT := hide ((unhide HT).trans (hk.mono (unhide HT).size))
  replace HRw3 := hide ((unhide HRw3).below hk)
  replace HRw5 := hide ((unhide HRw5).below hk)
  replace HRw7 := hide ((unhide HRw7).below hk)
  have HRw9 := hide hR
  clear h hk hR
  rw [unhide HEE2]
  go_wp2_with fail
  refine (enc11_any (6 + (t : Int)) 5 5 5 ao n c g L w9 ((unhide HL).below (unhide HT))).mono ?_
  rintro e w10 h
  obtain ⟨hk, aow10, mw10, kw10, Gw10, Aw10, Cw10, rfl, hR⟩ := EncR.use h
  replace HT := hide ((unhide HT).trans (hk.mono (unhide HT).size))
  replace HRw3 := hide ((unhide HRw3).below hk)
  replace HRw5 := hide ((unhide HRw5).below hk)
  replace HRw7 := hide ((unhide HRw7).below hk)
  replace HRw9 := hide ((unhide HRw9).below hk)
  have HRw10 := hide hR
  clear h hk hR
  obtain ⟨e3, he3⟩ : ∃ e3, encE (6 + (t : Int)) 5 5 5 L = e3 := ⟨_, rfl⟩
  rw [he3]
  have HEE3 := hide he3
  clear he3
  go_wp2_with fail
  refine (renc11_any (6 + (t : Int)) 5 5 5 ao n c g L w10 ((unhide HL).below (unhide HT))).mono ?_
  rintro e w11 h
  obtain ⟨hk, aow11, mw11, kw11, Gw11, Aw11, Cw11, rfl, hR⟩ := EncR.use h
  replace HT := hide ((unhide HT).trans (hk.mono (unhide HT).size))
  replace HRw3 := hide ((unhide HRw3).below hk)
  replace HRw5 := hide ((unhide HRw5).below hk)
  replace HRw7 := hide ((unhide HRw7).below hk)
  replace HRw9 := hide ((unhide HRw9).below hk)
  replace HRw10 := hide ((unhide HRw10).below hk)
  have HRw11 := hide hR
  clear h hk hR
  rw [unhide HEE3]
  go_wp2_with fail
  refine (same_any11 _ _ _ _ _ _ _ _ _ _ w11 (unhide HRw3) (unhide HRw5)).mono ?_
  rintro e w12 ⟨rfl, hk⟩
  rw [decide_eq_true rfl]
  replace HT := hide ((unhide HT).trans (hk.mono (unhide HT).size))
  replace HRw3 := hide ((unhide HRw3).below hk)
  replace HRw5 := hide ((unhide HRw5).below hk)
  replace HRw7 := hide ((unhide HRw7).below hk)
  replace HRw9 := hide ((unhide HRw9).below hk)
  replace HRw10 := hide ((unhide HRw10).below hk)
  replace HRw11 := hide ((unhide HRw11).below hk)
  clear hk
  go_wp2_with fail
  refine (same_any11 _ _ _ _ _ _ _ _ _ _ w12 (unhide HRw7) (unhide HRw9)).mono ?_
  rintro e w13 ⟨rfl, hk⟩
  rw [decide_eq_true rfl]
  replace HT := hide ((unhide HT).trans (hk.mono (unhide HT).size))
  replace HRw3 := hide ((unhide HRw3).below hk)
  replace HRw5 := hide ((unhide HRw5).below hk)
  replace HRw7 := hide ((unhide HRw7).below hk)
  replace HRw9 := hide ((unhide HRw9).below hk)
  replace HRw10 := hide ((unhide HRw10).below hk)
  replace HRw11 := hide ((unhide HRw11).below hk)
  clear hk
  go_wp2_with fail
  go_ret
  exact ⟨rfl, unhide HT⟩

end Go.Proofs.YtjdikhelabibnaaGreat
