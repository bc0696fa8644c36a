/-
  The walk of BchMends.
-/
import Derived.Test.YtahjcahmlangiaaLp
import Derived.Test.YtahjcahmlangiaaHp
import Derived.Test.YtahjcahmlangiaaR4e
namespace Go.Proofs.Ytahjcahmlangiaa
open Go.RowKit

set_option maxRecDepth 100000 in
set_option maxHeartbeats 8000000 in
theorem mends_walk (va : Value) (ga : Nat) (b : List Nat) (w : World) (hA : Arg w va ga b) (ao1 : Option Addr) (g1 len1 cap1 : Nat) (zs : List Int) (hz1 : zs.length = len1) (hr1 : IRow w ao1 g1 zs) (hcp1 : len1 ≤ cap1) (hm1 : cap1 ≤ maxLen) (hbo1 : ∀ z ∈ zs, -9223372036854775808 ≤ z ∧ z ≤ 9223372036854775807) :
    Calls Try.prog 5 #[va, .slice ao1 len1 cap1] w fun x w' => x = .returned (.bool true) ∧ Below w.heap.size w w' := by
  have HA := hide hA
  have HL1 := hide hr1
  clear hr1
  obtain ⟨⟨ao, c, rfl, _⟩, _⟩ := hA
  have HT : Hid (Below w.heap.size w w) := Below.refl _ _
  go_enter Try.func5, Try.ntmps5
  go_wp2_with fail
  refine (known_any _).mono ?_
  rintro e w1 ⟨rfl, hk⟩
  replace HA := hide ((unhide HA).below hk)
  replace HL1 := hide ((unhide HL1).below hk)
  replace HT := hide ((unhide HT).trans (hk.mono (unhide HT).size))
  clear hk
  go_wp2_with fail
  refine (data_any _ _ b 24 (by omega) _ (unhide HA)).mono ?_
  rintro e w2 ⟨v2, d, rfl, hld, hbd, hF, hk⟩
  replace HA := hide ((unhide HA).below hk)
  replace HL1 := hide ((unhide HL1).below hk)
  replace HT := hide ((unhide HT).trans (hk.mono (unhide HT).size))
  obtain ⟨g2, hA, hge⟩ := hF.arg hbd
  obtain ⟨⟨ao2, c2, rfl, h1, h2, h3, h4⟩, _⟩ := hA
  have HA2 : Hid (Arg w2 (.slice ao2 24 c2) g2 (d)) := ⟨⟨ao2, c2, by rw [hld], h1, h2, h3, h4⟩, hbd⟩
  rw [show (d).length = 24 from hld]
  clear h1 h2 h3 h4 hF hge
  clear hk
  go_wp2_with fail
  refine (places_any ao1 g1 len1 cap1 zs hz1 (unhide HL1) hcp1 hm1 hbo1 5 (by omega)).mono ?_
  rintro e w3 ⟨v3, ps, rfl, hnd, hlt, hpl, hO, hk⟩
  replace HA := hide ((unhide HA).below hk)
  replace HL1 := hide ((unhide HL1).below hk)
  replace HA2 := hide ((unhide HA2).below hk)
  replace HT := hide ((unhide HT).trans (hk.mono (unhide HT).size))
  have HPL : Hid (Pl ps) := ⟨hnd, hlt⟩
  obtain ⟨g3, hI, _⟩ := hO.arg
  obtain ⟨ao3, c3, rfl, h1, h2, h3, h4⟩ := hI
  have HPS : Hid (IArg w3 (.slice ao3 ps.length c3) g3 ps) := ⟨ao3, c3, rfl, h1, h2, h3, h4⟩
  clear h1 h2 h3 h4 hO hnd hlt
  clear hk
  go_wp2_with fail
  refine (rencode_any _ _ (d) _ (unhide HA2) hld).mono ?_
  rintro e w4 ⟨v4, rfl, hF, hk⟩
  replace HA := hide ((unhide HA).below hk)
  replace HL1 := hide ((unhide HL1).below hk)
  replace HA2 := hide ((unhide HA2).below hk)
  replace HPS := hide ((unhide HPS).below hk)
  replace HT := hide ((unhide HT).trans (hk.mono (unhide HT).size))
  obtain ⟨g4, hA, hge⟩ := hF.arg (encF_bs hbd)
  obtain ⟨⟨ao4, c4, rfl, h1, h2, h3, h4⟩, _⟩ := hA
  have HA4 : Hid (Arg w4 (.slice ao4 28 c4) g4 (encF (d))) := ⟨⟨ao4, c4, by rw [(encF_len hld)], h1, h2, h3, h4⟩, (encF_bs hbd)⟩
  rw [show (encF (d)).length = 28 from (encF_len hld)]
  clear h1 h2 h3 h4 hF hge
  clear hk
  go_wp2_with fail
  refine (flip_any _ _ _ _ (encF d) ps _ (unhide HA4) (unhide HPS) (encF_len hld) (unhide HPL).lt (by omega)).mono ?_
  rintro e w5 ⟨v5, rfl, hF, hk⟩
  replace HA := hide ((unhide HA).below hk)
  replace HL1 := hide ((unhide HL1).below hk)
  replace HA2 := hide ((unhide HA2).below hk)
  replace HPS := hide ((unhide HPS).below hk)
  replace HA4 := hide ((unhide HA4).below hk)
  replace HT := hide ((unhide HT).trans (hk.mono (unhide HT).size))
  obtain ⟨fX, hfX⟩ : ∃ f, flips (encF d) ps = f := ⟨_, rfl⟩
  have hflX : fX.length = 28 := by rw [← hfX, flips_len]; exact (encF_len hld)
  have hfbX : Bs fX := by rw [← hfX]; exact flips_bs (encF_bs hbd) _
  rw [hfX] at hF
  have HFX := hide hfX
  clear hfX
  obtain ⟨g5, hA, hge⟩ := hF.arg hfbX
  obtain ⟨⟨ao5, c5, rfl, h1, h2, h3, h4⟩, _⟩ := hA
  have HA5 : Hid (Arg w5 (.slice ao5 28 c5) g5 (fX)) := ⟨⟨ao5, c5, by rw [hflX], h1, h2, h3, h4⟩, hfbX⟩
  rw [show (fX).length = 28 from hflX]
  clear h1 h2 h3 h4 hF hge
  clear hk
  go_wp2_with fail
  refine (decode_any _ _ fX _ (unhide HA5) hflX).mono ?_
  rintro e w6 ⟨hk, hres⟩
  replace HA := hide ((unhide HA).below hk)
  replace HL1 := hide ((unhide HL1).below hk)
  replace HA2 := hide ((unhide HA2).below hk)
  replace HPS := hide ((unhide HPS).below hk)
  replace HA4 := hide ((unhide HA4).below hk)
  replace HA5 := hide ((unhide HA5).below hk)
  replace HT := hide ((unhide HT).trans (hk.mono (unhide HT).size))
  clear hk
  by_cases h3 : ps.length ≤ 3
  · have h3' : (ps.length : Int) ≤ 3 := by omega
    obtain ⟨n1, n2, n3⟩ := dec_data (encF_is hbd hld) (unhide HPL) h3
    rw [unhide HFX] at n1 n2 n3
    obtain ⟨q, cq, rfl, hq⟩ : ∃ q c, e = .returned (.tuple #[.slice (some ⟨q, 4, none⟩) 24 c, .int .i64 (ps.length : Nat), .bool true]) ∧ Arg w6 (.slice (some ⟨q, 4, none⟩) 24 c) q d := by
      rcases hres with ⟨_, q, c, rfl, hq, _⟩ | ⟨hz, _⟩
      · rw [n3]
        rw [n2] at hq
        exact ⟨q, c, rfl, hq⟩
      · exact absurd n1 hz
    have hc1 := conv_arg hq
    have hc2 := conv_arg (unhide HA2)
    clear hq hres n1 n2 n3
    go_wp2
    go_ret
    exact ⟨rfl, unhide HT⟩
  · have h3' : (3 : Int) < (ps.length : Int) := by omega
    have hf := dec_far (encF_is hbd hld).code (unhide HPL) (by omega) hpl
    rw [unhide HFX] at hf
    have he : e = .returned (.tuple #[.slice none 0 0, .int .i64 0, .bool false]) := by
      rcases hres with ⟨hz, _⟩ | ⟨_, he⟩
      · exact absurd hz hf
      · exact he
    subst he
    clear hres hf
    go_wp2
    go_ret
    exact ⟨rfl, unhide HT⟩

end Go.Proofs.Ytahjcahmlangiaa
