/-
  The walk of PolyEvals.
-/
import Derived.Test.YtibmfblppjcenaaLk
import Derived.Test.YtibmfblppjcenaaRe
namespace Go.Proofs.Ytibmfblppjcenaa
open Go.RowKit

set_option maxRecDepth 100000 in
set_option maxHeartbeats 8000000 in
theorem evals_walk (va vb : Value) (ga gb : Nat) (a b : List Nat) (xi : Int) (w : World) (hA : Arg w va ga a) (hB : Arg w vb gb b) (hxi : 0 ≤ xi ∧ xi ≤ 255) :
    Calls Try.prog 5 #[va, vb, .int .u8 xi] w fun x w' => x = .returned (.bool true) ∧ Below w.heap.size w w' := by
  have HA := hide hA
  have HB := hide hB
  obtain ⟨⟨ao, c, rfl, _⟩, hbs⟩ := hA
  obtain ⟨⟨bo, d, rfl, _⟩, hbs2⟩ := hB
  obtain ⟨x, rfl⟩ := Int.eq_ofNat_of_zero_le hxi.1
  have hx : x < 256 := by omega
  clear hxi
  by_cases hla : 40 < a.length
  · have hla' : (40 : Int) < (a.length : Int) := by omega
    go_enter Try.func5, Try.ntmps5
    go_wp2_with fail
    refine (known_any w).mono ?_
    rintro x w1 ⟨rfl, hk1⟩
    have HK1 := hide hk1
    clear hk1
    go_wp2
    go_ret
    exact ⟨rfl, unhide HK1⟩
  · have hla' : (a.length : Int) ≤ 40 := by omega
    by_cases hlb : 40 < b.length
    · have hlb' : (40 : Int) < (b.length : Int) := by omega
      go_enter Try.func5, Try.ntmps5
      go_wp2_with fail
      refine (known_any w).mono ?_
      rintro x w1 ⟨rfl, hk1⟩
      have HK1 := hide hk1
      clear hk1
      go_wp2
      go_ret
      exact ⟨rfl, unhide HK1⟩
    · have hlb' : (b.length : Int) ≤ 40 := by omega
      obtain ⟨s1, es1⟩ : ∃ s, trim (padd a b) = s := ⟨_, rfl⟩
      have bs1 : Bs s1 := by rw [← es1]; exact (hbs.padd hbs2).trim
      have ls1 : s1.length ≤ 80 := by
        rw [← es1]
        have := len_add a b; omega
      have Es1 := hide es1
      clear es1
      obtain ⟨s2, es2⟩ : ∃ s, trim (pmul a b) = s := ⟨_, rfl⟩
      have bs2 : Bs s2 := by rw [← es2]; exact (Bs.pmul hbs).trim
      have ls2 : s2.length ≤ 80 := by
        rw [← es2]
        have := len_mul a b; omega
      have Es2 := hide es2
      clear es2
      obtain ⟨y1, ey1⟩ : ∃ y, ev a x = y := ⟨_, rfl⟩
      obtain ⟨y2, ey2⟩ : ∃ y, ev b x = y := ⟨_, rfl⟩
      have hy1 : y1 < 256 := by rw [← ey1]; exact ev_lt hbs
      have hy2 : y2 < 256 := by rw [← ey2]; exact ev_lt hbs2
      obtain ⟨y4, ey4⟩ : ∃ y, y1 ^^^ y2 = y := ⟨_, rfl⟩
      obtain ⟨y5, ey5⟩ : ∃ y, gmul y1 y2 = y := ⟨_, rfl⟩
      have EY4 : Hid (ev s1 x = y4) := by show _ = _; rw [← unhide Es1, ev_congr hx (cf_trim _), ev_padd hbs hbs2 hx, ey1, ey2, ey4]
      have EY5 : Hid (ev s2 x = y5) := by show _ = _; rw [← unhide Es2, ev_congr hx (cf_trim _), ev_pmul hbs hbs2 hx, ey1, ey2, ey5]
      have EYM := hide ey5
      have hxor := bits_xor_u8 hy1 hy2
      rw [ey4] at hxor
      have EY1 := hide ey1
      have EY2 := hide ey2
      clear ey1 ey2 ey4 ey5
      go_enter Try.func5, Try.ntmps5
      go_wp2_with fail
      refine (known_any w).mono ?_
      rintro x w0 ⟨rfl, hk⟩
      replace HA := hide ((unhide HA).below hk)
      replace HB := hide ((unhide HB).below hk)
      have HT := hide hk
      clear hk
      go_wp2_with fail
      refine (eval_any _ _ a x _ (unhide HA) (by omega) (by omega)).mono ?_
      rintro e w1 ⟨rfl, hk⟩
      rw [unhide EY1]
      have HK1 : Hid (Below w0.heap.size w0 w1) := hk
      clear hk
      replace HT := hide ((unhide HT).trans ((unhide HK1).mono (unhide HT).size))
      replace HA := hide ((unhide HA).below (unhide HK1))
      replace HB := hide ((unhide HB).below (unhide HK1))
      go_wp2_with fail
      refine (reval_any _ _ a x _ (unhide HA) (by omega) (by omega)).mono ?_
      rintro e w2 ⟨rfl, hk⟩
      rw [unhide EY1]
      have HK2 : Hid (Below w1.heap.size w1 w2) := hk
      clear hk
      replace HT := hide ((unhide HT).trans ((unhide HK2).mono (unhide HT).size))
      replace HA := hide ((unhide HA).below (unhide HK2))
      replace HB := hide ((unhide HB).below (unhide HK2))
      go_wp2_with fail
      refine (add_any _ _ _ _ a b _ (unhide HA) (unhide HB) (by omega) (by omega)).mono ?_
      rintro e w3 ⟨v3, rfl, hF, hk⟩
      rw [unhide Es1] at hF
      have HK3 : Hid (Below w2.heap.size w2 w3) := hk
      clear hk
      replace HT := hide ((unhide HT).trans ((unhide HK3).mono (unhide HT).size))
      replace HA := hide ((unhide HA).below (unhide HK3))
      replace HB := hide ((unhide HB).below (unhide HK3))
      obtain ⟨g3, hA, hge⟩ := hF.arg bs1
      obtain ⟨⟨ao3, c3, rfl, h1, h2, h3, h4⟩, _⟩ := hA
      have HA3 : Hid (Arg w3 (.slice ao3 s1.length c3) g3 s1) := ⟨⟨ao3, c3, rfl, h1, h2, h3, h4⟩, bs1⟩
      clear h1 h2 h3 h4 hF hge
      go_wp2_with fail
      refine (eval_any _ _ s1 x _ (unhide HA3) (by omega) (by omega)).mono ?_
      rintro e w4 ⟨rfl, hk⟩
      rw [unhide EY4]
      have HK4 : Hid (Below w3.heap.size w3 w4) := hk
      clear hk
      replace HT := hide ((unhide HT).trans ((unhide HK4).mono (unhide HT).size))
      replace HA := hide ((unhide HA).below (unhide HK4))
      replace HA3 := hide ((unhide HA3).below (unhide HK4))
      replace HB := hide ((unhide HB).below (unhide HK4))
      go_wp2_with fail
      refine (eval_any _ _ a x _ (unhide HA) (by omega) (by omega)).mono ?_
      rintro e w5 ⟨rfl, hk⟩
      rw [unhide EY1]
      have HK5 : Hid (Below w4.heap.size w4 w5) := hk
      clear hk
      replace HT := hide ((unhide HT).trans ((unhide HK5).mono (unhide HT).size))
      replace HA := hide ((unhide HA).below (unhide HK5))
      replace HA3 := hide ((unhide HA3).below (unhide HK5))
      replace HB := hide ((unhide HB).below (unhide HK5))
      go_wp2_with fail
      refine (eval_any _ _ b x _ (unhide HB) (by omega) (by omega)).mono ?_
      rintro e w6 ⟨rfl, hk⟩
      rw [unhide EY2]
      have HK6 : Hid (Below w5.heap.size w5 w6) := hk
      clear hk
      replace HT := hide ((unhide HT).trans ((unhide HK6).mono (unhide HT).size))
      replace HA := hide ((unhide HA).below (unhide HK6))
      replace HA3 := hide ((unhide HA3).below (unhide HK6))
      replace HB := hide ((unhide HB).below (unhide HK6))
      go_wp2_with fail
      refine (pmul_any _ _ _ _ a b _ (unhide HA) (unhide HB) (by omega) (by omega)).mono ?_
      rintro e w7 ⟨v7, rfl, hF, hk⟩
      rw [unhide Es2] at hF
      have HK7 : Hid (Below w6.heap.size w6 w7) := hk
      clear hk
      replace HT := hide ((unhide HT).trans ((unhide HK7).mono (unhide HT).size))
      replace HA := hide ((unhide HA).below (unhide HK7))
      replace HA3 := hide ((unhide HA3).below (unhide HK7))
      replace HB := hide ((unhide HB).below (unhide HK7))
      obtain ⟨g7, hA, hge⟩ := hF.arg bs2
      obtain ⟨⟨ao7, c7, rfl, h1, h2, h3, h4⟩, _⟩ := hA
      have HA7 : Hid (Arg w7 (.slice ao7 s2.length c7) g7 s2) := ⟨⟨ao7, c7, rfl, h1, h2, h3, h4⟩, bs2⟩
      clear h1 h2 h3 h4 hF hge
      go_wp2_with fail
      refine (eval_any _ _ s2 x _ (unhide HA7) (by omega) (by omega)).mono ?_
      rintro e w8 ⟨rfl, hk⟩
      rw [unhide EY5]
      have HK8 : Hid (Below w7.heap.size w7 w8) := hk
      clear hk
      replace HT := hide ((unhide HT).trans ((unhide HK8).mono (unhide HT).size))
      replace HA := hide ((unhide HA).below (unhide HK8))
      replace HA3 := hide ((unhide HA3).below (unhide HK8))
      replace HA7 := hide ((unhide HA7).below (unhide HK8))
      replace HB := hide ((unhide HB).below (unhide HK8))
      go_wp2_with fail
      refine (eval_any _ _ a x _ (unhide HA) (by omega) (by omega)).mono ?_
      rintro e w9 ⟨rfl, hk⟩
      rw [unhide EY1]
      have HK9 : Hid (Below w8.heap.size w8 w9) := hk
      clear hk
      replace HT := hide ((unhide HT).trans ((unhide HK9).mono (unhide HT).size))
      replace HA := hide ((unhide HA).below (unhide HK9))
      replace HA3 := hide ((unhide HA3).below (unhide HK9))
      replace HA7 := hide ((unhide HA7).below (unhide HK9))
      replace HB := hide ((unhide HB).below (unhide HK9))
      go_wp2_with fail
      refine (eval_any _ _ b x _ (unhide HB) (by omega) (by omega)).mono ?_
      rintro e w10 ⟨rfl, hk⟩
      rw [unhide EY2]
      have HK10 : Hid (Below w9.heap.size w9 w10) := hk
      clear hk
      replace HT := hide ((unhide HT).trans ((unhide HK10).mono (unhide HT).size))
      replace HA := hide ((unhide HA).below (unhide HK10))
      replace HA3 := hide ((unhide HA3).below (unhide HK10))
      replace HA7 := hide ((unhide HA7).below (unhide HK10))
      replace HB := hide ((unhide HB).below (unhide HK10))
      go_wp2_with fail
      refine (rmul_any y1 y2 (by omega) (by omega) _).mono ?_
      rintro e w11 ⟨rfl, hwk⟩
      rw [unhide EYM]
      have hk : Below w10.heap.size w10 w11 := by rw [hwk]; exact Below.refl _ w10
      clear hwk
      have HK11 : Hid (Below w10.heap.size w10 w11) := hk
      clear hk
      replace HT := hide ((unhide HT).trans ((unhide HK11).mono (unhide HT).size))
      replace HA := hide ((unhide HA).below (unhide HK11))
      replace HA3 := hide ((unhide HA3).below (unhide HK11))
      replace HA7 := hide ((unhide HA7).below (unhide HK11))
      replace HB := hide ((unhide HB).below (unhide HK11))
      go_wp2
      go_ret
      exact ⟨rfl, unhide HT⟩

end Go.Proofs.Ytibmfblppjcenaa
