/-
  The walk of PageBlank.
-/
import Derived.Test.YtkhpoomajebgoaaMaz
import Derived.Test.YtkhpoomajebgoaaMaj
import Derived.Test.YtkhpoomajebgoaaMax
namespace Go.Proofs.Ytkhpoomajebgoaa
open Go.RowKit Go.Shelf

set_option maxRecDepth 100000 in
set_option maxHeartbeats 8000000 in
theorem blank_walk (va : Value) (ga : Nat) (b : List Nat) (w : World) (hA : Arg w va ga b) (ao1 : Option Addr) (g1 len1 cap1 : Nat) (zs : List Int) (hz1 : zs.length = len1) (hr1 : IRow w ao1 g1 zs) (hcp1 : len1 ≤ cap1) (hm1 : cap1 ≤ maxLen) (hbo1 : ∀ z ∈ zs, -9223372036854775808 ≤ z ∧ z ≤ 9223372036854775807) :
    Calls Try.prog 5 #[va, .slice ao1 len1 cap1] w fun x w' => x = .returned (.bool true) ∧ Below w.heap.size w w' := by
  have HA := hide hA
  have HL1 := hide hr1
  clear hr1
  obtain ⟨⟨ao, c, rfl, _⟩, _⟩ := hA
  go_enter Try.func5, Try.ntmps5
  go_wp2_with fail
  refine (known8_any _).mono ?_
  rintro e w1 ⟨rfl, hk⟩
  replace HA := hide ((unhide HA).below hk)
  replace HL1 := hide (IRow.below hk (unhide HL1))
  have HT := hide hk
  clear hk
  go_wp2_with fail
  refine (data_any _ _ b 48 (by omega) _ (unhide HA)).mono ?_
  rintro e w2 ⟨v2, d, rfl, hld, hbd, hF, hk⟩
  replace HL1 := hide (IRow.below hk (unhide HL1))
  replace HT := hide ((unhide HT).trans (hk.mono (unhide HT).size))
  obtain ⟨g2, hA, _⟩ := hF.arg hbd
  have HD := hide hA
  obtain ⟨to, tc, hv⟩ := Fr.shape hF
  rw [hld] at hv
  subst hv
  clear hF hk HA hA
  go_wp2_with fail
  refine (rpencode_any _ g2 d _ (unhide HD) hld).mono ?_
  rintro e w3 ⟨v3, rfl, hF, hk⟩
  replace HL1 := hide (IRow.below hk (unhide HL1))
  replace HT := hide ((unhide HT).trans (hk.mono (unhide HT).size))
  obtain ⟨g3, hA, _⟩ := hF.arg (pageF_bs hbd)
  have HE := hide hA
  obtain ⟨eo, ec, hv⟩ := Fr.shape hF
  rw [pageF_len hld] at hv
  subst hv
  clear hF hk HD hA
  go_wp2_with fail
  refine (places_any ao1 g1 len1 cap1 zs hz1 (unhide HL1) hcp1 hm1 hbo1 32 32 (by omega) (by omega) (by omega)).mono ?_
  rintro e w4 ⟨v4, ps, rfl, hnd, hps, hpl, hO, hk⟩
  replace HE := hide ((unhide HE).below hk)
  replace HT := hide ((unhide HT).trans (hk.mono (unhide HT).size))
  obtain ⟨po, pc, pg, rfl, hZ⟩ := hO.za (fun k h => by have := hps k h; omega)
  have HZ := hide hZ
  have HPL : Hid (Pl8 [] [] ps) := ⟨pl_nil, pl_nil, hnd, hps⟩
  clear hO hk hZ hnd hps
  go_wp2_with fail
  refine (rflip_any _ _ g3 pg (pageF d) (ints ps) _ (unhide HE) (unhide HZ) (by rw [pageF_len hld]; omega)).mono ?_
  rintro e w5 ⟨v5, rfl, hF, hk⟩
  replace HT := hide ((unhide HT).trans (hk.mono (unhide HT).size))
  have hfl : (flipZ (pageF d) (ints ps)).length = 60 := by rw [flipZ_len, pageF_len hld]
  obtain ⟨g5, hA, _⟩ := hF.arg (flipZ_bs (pageF_bs hbd) _)
  have HF := hide hA
  obtain ⟨fo, fc, hv⟩ := Fr.shape hF
  rw [hfl] at hv
  subst hv
  clear hF hk hA HE HZ hfl
  go_wp2_with fail
  refine (pdecode_any _ g5 _ _ (unhide HF)).mono ?_
  rintro e w6 ⟨v6, rfl, hF, hk⟩
  replace HT := hide ((unhide HT).trans (hk.mono (unhide HT).size))
  obtain ⟨p1, p2, _⟩ := page_turned (unhide HPL) hld hbd
  rw [show psOf [] [] ps = ps from rfl] at p1 p2
  by_cases h16 : 16 < ps.length
  · have h16' : (16 : Int) < (ps.length : Int) := by omega
    rw [p1 h16] at hF ⊢
    obtain ⟨qo, qc, hv⟩ := Fr.shape hF
    subst hv
    clear hF hk p1 p2
    go_wp2
    go_ret
    exact ⟨rfl, (unhide HT).alloc (unhide HT).size _⟩
  · have h16' : ¬ (16 : Int) < (ps.length : Int) := by omega
    rw [p2 (by omega) (by simp) (by simp)] at hF ⊢
    obtain ⟨qo, qc, hv⟩ := Fr.shape hF
    subst hv
    clear hF hk p1 p2
    go_wp2
    go_ret
    exact ⟨by rw [decide_eq_false (Int.not_lt.2 h16')]; rfl, (unhide HT).alloc (unhide HT).size _⟩
end Go.Proofs.Ytkhpoomajebgoaa
