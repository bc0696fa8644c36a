/-
  The walk of BchNear.
-/
import Derived.Test.YtahjcahmlangiabLp
import Derived.Test.YtahjcahmlangiabHp
import Derived.Test.YtahjcahmlangiabHa
namespace Go.Proofs.Ytahjcahmlangiab
open Go.RowKit

set_option maxRecDepth 100000 in
set_option maxHeartbeats 8000000 in
theorem near_walk (va : Value) (ga : Nat) (b : List Nat) (w : World) (hA : Arg w va ga b) (ao1 : Option Addr) (g1 len1 cap1 : Nat) (zs : List Int) (hz1 : zs.length = len1) (hr1 : IRow w ao1 g1 zs) (hcp1 : len1 ≤ cap1) (hm1 : cap1 ≤ maxLen) (hbo1 : ∀ z ∈ zs, -9223372036854775808 ≤ z ∧ z ≤ 9223372036854775807) :
    Calls Try.prog 5 #[va, .slice ao1 len1 cap1] w fun x w' => x = .returned (.bool true) ∧ Below w.heap.size w w' := by
  have HA := hide hA
  have HL1 := hide hr1
  clear hr1
  obtain ⟨⟨ao, c, rfl, _⟩, _⟩ := hA
  have HT : Hid (Below w.heap.size w w) := Below.refl _ _
  go_enter Try.func5, Try.ntmps5
  go_wp2_with fail
  refine (known_any _).mono ?_
  rintro e w1 ⟨rfl, hk⟩
  replace HA := hide ((unhide HA).below hk)
  replace HL1 := hide ((unhide HL1).below hk)
  replace HT := hide ((unhide HT).trans (hk.mono (unhide HT).size))
  clear hk
  go_wp2_with fail
  refine (data_any _ _ b 24 (by omega) _ (unhide HA)).mono ?_
  rintro e w2 ⟨v2, d, rfl, hld, hbd, hF, hk⟩
  replace HA := hide ((unhide HA).below hk)
  replace HL1 := hide ((unhide HL1).below hk)
  replace HT := hide ((unhide HT).trans (hk.mono (unhide HT).size))
  obtain ⟨g2, hA, hge⟩ := hF.arg hbd
  obtain ⟨⟨ao2, c2, rfl, h1, h2, h3, h4⟩, _⟩ := hA
  have HA2 : Hid (Arg w2 (.slice ao2 24 c2) g2 (d)) := ⟨⟨ao2, c2, by rw [hld], h1, h2, h3, h4⟩, hbd⟩
  rw [show (d).length = 24 from hld]
  clear h1 h2 h3 h4 hF hge
  clear hk
  go_wp2_with fail
  refine (encode_any _ _ (d) _ (unhide HA2) hld).mono ?_
  rintro e w3 ⟨v3, rfl, hF, hk⟩
  replace HA := hide ((unhide HA).below hk)
  replace HL1 := hide ((unhide HL1).below hk)
  replace HA2 := hide ((unhide HA2).below hk)
  replace HT := hide ((unhide HT).trans (hk.mono (unhide HT).size))
  obtain ⟨g3, hA, hge⟩ := hF.arg (encF_bs hbd)
  obtain ⟨⟨ao3, c3, rfl, h1, h2, h3, h4⟩, _⟩ := hA
  have HA3 : Hid (Arg w3 (.slice ao3 28 c3) g3 (encF (d))) := ⟨⟨ao3, c3, by rw [(encF_len hld)], h1, h2, h3, h4⟩, (encF_bs hbd)⟩
  rw [show (encF (d)).length = 28 from (encF_len hld)]
  clear h1 h2 h3 h4 hF hge
  clear hk
  go_wp2_with fail
  refine (places_any ao1 g1 len1 cap1 zs hz1 (unhide HL1) hcp1 hm1 hbo1 12 (by omega)).mono ?_
  rintro e w4 ⟨v4, ps, rfl, hnd, hlt, hpl, hO, hk⟩
  replace HA := hide ((unhide HA).below hk)
  replace HL1 := hide ((unhide HL1).below hk)
  replace HA2 := hide ((unhide HA2).below hk)
  replace HA3 := hide ((unhide HA3).below hk)
  replace HT := hide ((unhide HT).trans (hk.mono (unhide HT).size))
  have HPL : Hid (Pl ps) := ⟨hnd, hlt⟩
  obtain ⟨g4, hI, _⟩ := hO.arg
  obtain ⟨ao4, c4, rfl, h1, h2, h3, h4⟩ := hI
  have HPS : Hid (IArg w4 (.slice ao4 ps.length c4) g4 ps) := ⟨ao4, c4, rfl, h1, h2, h3, h4⟩
  clear h1 h2 h3 h4 hO hnd hlt
  clear hk
  go_wp2_with fail
  refine (flip_any _ _ _ _ (encF d) ps _ (unhide HA3) (unhide HPS) (encF_len hld) (unhide HPL).lt (by omega)).mono ?_
  rintro e w5 ⟨v5, rfl, hF, hk⟩
  replace HA := hide ((unhide HA).below hk)
  replace HL1 := hide ((unhide HL1).below hk)
  replace HA2 := hide ((unhide HA2).below hk)
  replace HA3 := hide ((unhide HA3).below hk)
  replace HPS := hide ((unhide HPS).below hk)
  replace HT := hide ((unhide HT).trans (hk.mono (unhide HT).size))
  obtain ⟨fX, hfX⟩ : ∃ f, flips (encF d) ps = f := ⟨_, rfl⟩
  have hflX : fX.length = 28 := by rw [← hfX, flips_len]; exact (encF_len hld)
  have hfbX : Bs fX := by rw [← hfX]; exact flips_bs (encF_bs hbd) _
  rw [hfX] at hF
  have HFX := hide hfX
  clear hfX
  obtain ⟨g5, hA, hge⟩ := hF.arg hfbX
  obtain ⟨⟨ao5, c5, rfl, h1, h2, h3, h4⟩, _⟩ := hA
  have HA5 : Hid (Arg w5 (.slice ao5 28 c5) g5 (fX)) := ⟨⟨ao5, c5, by rw [hflX], h1, h2, h3, h4⟩, hfbX⟩
  rw [show (fX).length = 28 from hflX]
  clear h1 h2 h3 h4 hF hge
  clear hk
  go_wp2_with fail
  refine (decode_any _ _ fX _ (unhide HA5) hflX).mono ?_
  rintro e w6 ⟨hk, hres⟩
  replace HA := hide ((unhide HA).below hk)
  replace HL1 := hide ((unhide HL1).below hk)
  replace HA2 := hide ((unhide HA2).below hk)
  replace HA3 := hide ((unhide HA3).below hk)
  replace HPS := hide ((unhide HPS).below hk)
  replace HA5 := hide ((unhide HA5).below hk)
  replace HT := hide ((unhide HT).trans (hk.mono (unhide HT).size))
  clear hk
  rcases hres with ⟨hz, q, cq, rfl, hq, _⟩ | ⟨hz, rfl⟩
  · have hz' := hz
    rw [← unhide HFX] at hz
    obtain ⟨n1, n2, n3⟩ := near_facts (encF_is hbd hld) (unhide HPL) hz
    rw [unhide HFX] at n1 n2 n3
    have HM : Hid (encF ((mend fX).drop 4) = mend fX) := mend_encF hflX hfbX hz'
    have hxl : ((mend fX).drop 4).length = 24 := drop4_len (by rw [mend_len, hflX])
    have hxb : Bs ((mend fX).drop 4) := drop4_bs (mend_bs hfbX)
    obtain ⟨nf, hnf⟩ : ∃ n, (found (restF fX)).length = n := ⟨_, rfl⟩
    obtain ⟨x, hx⟩ : ∃ x, (mend fX).drop 4 = x := ⟨_, rfl⟩
    rw [hnf] at n1 n2 n3
    rw [hnf]
    rw [hx] at hq n2 n3 HM hxl hxb
    have HQ := hide hq
    clear hq hz hz' hnf hx
    by_cases hxd : x = d
    · subst hxd
      have hn := n2 rfl
      have hc1 := conv_arg (unhide HQ)
      have hc2 := conv_arg (unhide HA2)
      have hnn : ((nf : Int) == (ps.length : Int)) = true := by rw [hn]; simp
      clear n2 n3 hn
      go_wp2
      go_ret
      exact ⟨by rw [← hnn]; rfl, unhide HT⟩
    · obtain ⟨h9, h9'⟩ := n3 hxd
      have hsn := str_ne hxb hbd hxd
      have hc1 := conv_arg (unhide HQ)
      have hc2 := conv_arg (unhide HA2)
      have H9 := hide h9
      clear n2 n3 h9
      have hn1 : (nf : Int) ≤ 3 := by omega
      have hn2 : IntKind.i64.wrap (9 - (nf : Int)) = 9 - (nf : Int) := IntWalk.i64_in _ ⟨by omega, by omega⟩
      have hn3 : 9 - (nf : Int) ≤ (ps.length : Int) := by omega
      go_wp2_with fail
      clear hc1 hc2 hsn
      refine (encode_any _ _ x _ (unhide HQ) hxl).mono ?_
      rintro e w7 ⟨v7, rfl, hF, hk⟩
      rw [unhide HM] at hF
      replace HA := hide ((unhide HA).below hk)
      replace HL1 := hide ((unhide HL1).below hk)
      replace HA2 := hide ((unhide HA2).below hk)
      replace HA3 := hide ((unhide HA3).below hk)
      replace HPS := hide ((unhide HPS).below hk)
      replace HA5 := hide ((unhide HA5).below hk)
      replace HQ := hide ((unhide HQ).below hk)
      replace HT := hide ((unhide HT).trans (hk.mono (unhide HT).size))
      obtain ⟨g7, hA, hge⟩ := hF.arg (mend_bs hfbX)
      obtain ⟨⟨ao7, c7, rfl, h1, h2, h3, h4⟩, _⟩ := hA
      have HA7 : Hid (Arg w7 (.slice ao7 28 c7) g7 (mend fX)) := ⟨⟨ao7, c7, by rw [(show (mend fX).length = 28 from by rw [mend_len, hflX])], h1, h2, h3, h4⟩, (mend_bs hfbX)⟩
      rw [show (mend fX).length = 28 from (show (mend fX).length = 28 from by rw [mend_len, hflX])]
      clear h1 h2 h3 h4 hF hge
      clear hk
      go_wp2_with fail
      refine (apart_any _ _ _ _ (mend fX) (encF d) _ (unhide HA7) (unhide HA3) (by rw [mend_len, hflX]) (encF_len hld)).mono ?_
      rintro e w8 ⟨aod, cd, rfl, hk⟩
      replace HA := hide ((unhide HA).below hk)
      replace HL1 := hide ((unhide HL1).below hk)
      replace HA2 := hide ((unhide HA2).below hk)
      replace HA3 := hide ((unhide HA3).below hk)
      replace HPS := hide ((unhide HPS).below hk)
      replace HA5 := hide ((unhide HA5).below hk)
      replace HQ := hide ((unhide HQ).below hk)
      replace HA7 := hide ((unhide HA7).below hk)
      replace HT := hide ((unhide HT).trans (hk.mono (unhide HT).size))
      clear hk
      have h9 := unhide H9
      generalize (diff (mend fX) (encF d)).length = n9 at h9 ⊢
      have h9i : (9 : Int) ≤ (n9 : Int) := by omega
      go_wp2
      go_ret
      exact ⟨rfl, unhide HT⟩
  · rw [← unhide HFX] at hz
    have h3 := near_not (encF_is hbd hld) (unhide HPL) hz
    have h3' : (3 : Int) < (ps.length : Int) := by omega
    clear hz h3
    go_wp2
    go_ret
    exact ⟨rfl, unhide HT⟩

end Go.Proofs.Ytahjcahmlangiab
