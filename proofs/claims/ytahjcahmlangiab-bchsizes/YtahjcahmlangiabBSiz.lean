/-
  The walk of BchSizes.
-/
import Derived.Test.YtahjcahmlangiabLp
import Derived.Test.YtahjcahmlangiabHd
namespace Go.Proofs.Ytahjcahmlangiab
open Go.RowKit

set_option maxRecDepth 100000 in
set_option maxHeartbeats 8000000 in
theorem sizes_walk (va : Value) (ga : Nat) (b : List Nat) (z : Int) (w : World) (hA : Arg w va ga b) :
    Calls Try.prog 6 #[va, .int .i64 z] w fun x w' => x = .returned (.bool true) ∧ Below w.heap.size w w' := by
  have HA := hide hA
  obtain ⟨⟨ao, c, rfl, _⟩, _⟩ := hA
  obtain ⟨n, hn⟩ : ∃ n : Nat, z % 60 = (n : Int) := ⟨(z % 60).toNat, by omega⟩
  have hn60 : n < 60 := by omega
  have HT : Hid (Below w.heap.size w w) := Below.refl _ _
  go_enter Try.func6, Try.ntmps6
  go_wp2_with fail
  refine (known_any _).mono ?_
  rintro e w1 ⟨rfl, hk⟩
  replace HA := hide ((unhide HA).below hk)
  replace HT := hide ((unhide HT).trans (hk.mono (unhide HT).size))
  clear hk
  go_wp2_with fail
  refine (within_any z 60 _ (by omega) (by omega)).mono ?_
  rintro e w2 ⟨rfl, hwk⟩
  rw [hwk, hn]
  clear hwk
  go_wp2_with fail
  refine (data_any _ _ b n (by omega) _ (unhide HA)).mono ?_
  rintro e w3 ⟨v3, d, rfl, hld, hbd, hF, hk⟩
  replace HA := hide ((unhide HA).below hk)
  replace HT := hide ((unhide HT).trans (hk.mono (unhide HT).size))
  obtain ⟨g3, hA, hge⟩ := hF.arg hbd
  obtain ⟨⟨ao3, c3, rfl, h1, h2, h3, h4⟩, _⟩ := hA
  have HA3 : Hid (Arg w3 (.slice ao3 n c3) g3 (d)) := ⟨⟨ao3, c3, by rw [hld], h1, h2, h3, h4⟩, hbd⟩
  rw [show (d).length = n from hld]
  clear h1 h2 h3 h4 hF hge
  clear hk
  by_cases h24 : n = 24
  · subst h24
    clear hn
    go_wp2_with fail
    refine (decode_not _ _ d _ (unhide HA3) (by omega)).mono ?_
    rintro e w4 ⟨rfl, hk⟩
    replace HA := hide ((unhide HA).below hk)
    replace HA3 := hide ((unhide HA3).below hk)
    replace HT := hide ((unhide HT).trans (hk.mono (unhide HT).size))
    clear hk
    go_wp2_with fail
    refine (encode_any _ _ (d) _ (unhide HA3) hld).mono ?_
    rintro e w5 ⟨v5, rfl, hF, hk⟩
    replace HA := hide ((unhide HA).below hk)
    replace HA3 := hide ((unhide HA3).below hk)
    replace HT := hide ((unhide HT).trans (hk.mono (unhide HT).size))
    obtain ⟨g5, hA, hge⟩ := hF.arg (encF_bs hbd)
    obtain ⟨⟨ao5, c5, rfl, h1, h2, h3, h4⟩, _⟩ := hA
    have HA5 : Hid (Arg w5 (.slice ao5 28 c5) g5 (encF (d))) := ⟨⟨ao5, c5, by rw [(encF_len hld)], h1, h2, h3, h4⟩, (encF_bs hbd)⟩
    rw [show (encF (d)).length = 28 from (encF_len hld)]
    clear h1 h2 h3 h4 hF hge
    clear hk
    go_wp2_with fail
    refine (syndromes_not _ _ d _ (unhide HA3) (by omega)).mono ?_
    rintro e w6 ⟨rfl, hwk⟩
    rw [hwk]
    clear hwk
    go_wp2
    go_ret
    exact ⟨rfl, unhide HT⟩
  · by_cases h28 : n = 28
    · subst h28
      clear hn
      go_wp2_with fail
      refine (decode_any _ _ d _ (unhide HA3) hld).mono ?_
      rintro e w4 ⟨hk, hres⟩
      replace HA := hide ((unhide HA).below hk)
      replace HA3 := hide ((unhide HA3).below hk)
      replace HT := hide ((unhide HT).trans (hk.mono (unhide HT).size))
      clear hk
      rcases hres with ⟨hz, q, cq, rfl, hq, _⟩ | ⟨hz, rfl⟩
      · clear hq
        go_wp2_with fail
        refine (encode_not _ _ d _ (unhide HA3) (by omega)).mono ?_
        rintro e w5 ⟨rfl, hwk⟩
        rw [hwk]
        clear hwk
        go_wp2_with fail
        refine (encode_not _ _ d _ (unhide HA3) (by omega)).mono ?_
        rintro e w6 ⟨rfl, hwk⟩
        rw [hwk]
        clear hwk
        go_wp2_with fail
        refine (syndromes_any _ _ d _ (unhide HA3) hld).mono ?_
        rintro e w7 ⟨v7, rfl, hF, hk⟩
        replace HA := hide ((unhide HA).below hk)
        replace HA3 := hide ((unhide HA3).below hk)
        replace HT := hide ((unhide HT).trans (hk.mono (unhide HT).size))
        obtain ⟨g7, hA, hge⟩ := hF.arg (synF_bs d)
        obtain ⟨⟨ao7, c7, rfl, h1, h2, h3, h4⟩, _⟩ := hA
        have HA7 : Hid (Arg w7 (.slice ao7 8 c7) g7 (synF d)) := ⟨⟨ao7, c7, by rw [(synF_len d)], h1, h2, h3, h4⟩, (synF_bs d)⟩
        rw [show (synF d).length = 8 from (synF_len d)]
        clear h1 h2 h3 h4 hF hge
        clear hk
        go_wp2
        go_ret
        exact ⟨rfl, unhide HT⟩
      · go_wp2_with fail
        refine (encode_not _ _ d _ (unhide HA3) (by omega)).mono ?_
        rintro e w5 ⟨rfl, hwk⟩
        rw [hwk]
        clear hwk
        go_wp2_with fail
        refine (encode_not _ _ d _ (unhide HA3) (by omega)).mono ?_
        rintro e w6 ⟨rfl, hwk⟩
        rw [hwk]
        clear hwk
        go_wp2_with fail
        refine (syndromes_any _ _ d _ (unhide HA3) hld).mono ?_
        rintro e w7 ⟨v7, rfl, hF, hk⟩
        replace HA := hide ((unhide HA).below hk)
        replace HA3 := hide ((unhide HA3).below hk)
        replace HT := hide ((unhide HT).trans (hk.mono (unhide HT).size))
        obtain ⟨g7, hA, hge⟩ := hF.arg (synF_bs d)
        obtain ⟨⟨ao7, c7, rfl, h1, h2, h3, h4⟩, _⟩ := hA
        have HA7 : Hid (Arg w7 (.slice ao7 8 c7) g7 (synF d)) := ⟨⟨ao7, c7, by rw [(synF_len d)], h1, h2, h3, h4⟩, (synF_bs d)⟩
        rw [show (synF d).length = 8 from (synF_len d)]
        clear h1 h2 h3 h4 hF hge
        clear hk
        go_wp2
        go_ret
        exact ⟨rfl, unhide HT⟩
    · have e24 : ((n : Int) == 24) = false := by rw [beq_eq_false_iff_ne]; omega
      have e28 : ((n : Int) == 28) = false := by rw [beq_eq_false_iff_ne]; omega
      clear hn
      go_wp2_with fail
      refine (decode_not _ _ d _ (unhide HA3) (by omega)).mono ?_
      rintro e w4 ⟨rfl, hk⟩
      replace HA := hide ((unhide HA).below hk)
      replace HA3 := hide ((unhide HA3).below hk)
      replace HT := hide ((unhide HT).trans (hk.mono (unhide HT).size))
      clear hk
      go_wp2_with fail
      refine (encode_not _ _ d _ (unhide HA3) (by omega)).mono ?_
      rintro e w5 ⟨rfl, hwk⟩
      rw [hwk]
      clear hwk
      go_wp2_with fail
      refine (encode_not _ _ d _ (unhide HA3) (by omega)).mono ?_
      rintro e w6 ⟨rfl, hwk⟩
      rw [hwk]
      clear hwk
      go_wp2_with fail
      refine (syndromes_not _ _ d _ (unhide HA3) (by omega)).mono ?_
      rintro e w7 ⟨rfl, hwk⟩
      rw [hwk]
      clear hwk
      go_wp2
      go_ret
      exact ⟨rfl, unhide HT⟩

end Go.Proofs.Ytahjcahmlangiab
