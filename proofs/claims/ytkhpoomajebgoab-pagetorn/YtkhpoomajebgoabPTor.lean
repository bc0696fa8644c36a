/-
  The walk of PageTorn.
-/
import Derived.Test.YtkhpoomajebgoabMaz
import Derived.Test.YtkhpoomajebgoabMaj
import Derived.Test.YtkhpoomajebgoabMax
namespace Go.Proofs.Ytkhpoomajebgoab
open Go.RowKit Go.Shelf

set_option maxRecDepth 100000 in
set_option maxHeartbeats 16000000 in
theorem torn_walk (va vm : Value) (ga gm : Nat) (b mk : List Nat) (w : World) (hA : Arg w va ga b) (hM : Arg w vm gm mk) :
    Calls Try.prog 3 #[va, vm] w fun x w' => x = .returned (.bool true) ∧ Below w.heap.size w w' := by
  have HA := hide hA
  have HM := hide hM
  have hbm := hM.bs
  obtain ⟨⟨ao, c, rfl, _⟩, _⟩ := hA
  obtain ⟨⟨mo, cm, rfl, hm1, hm2, _⟩, _⟩ := hM
  obtain ⟨nm, hnm⟩ : ∃ n, mk.length = n := ⟨_, rfl⟩
  rw [hnm] at HM hm1 ⊢
  have HNM := hide hnm
  clear hnm
  have hnmm : (nm : Int) ≤ 9223372036854775807 := by unfold maxLen at hm2; omega
  have hmk : ∀ w : World, (Instr.makeSlice 22 (.int .i64 60) (.int .i64 60)).run Try.prog w = .ok (.slice (some ⟨w.heap.size, 0, none⟩) 60 60) (w.alloc (.cells (List.replicate 60 (Value.int .u8 0)).toArray 5)) := run_zeros 60 (by omega)
  have HZB := hide (fun W : World => blk_zeros 60 W)
  obtain ⟨z, hz⟩ : ∃ z, (List.replicate 60 (Value.int .u8 0)).toArray = z := ⟨_, rfl⟩
  rw [hz] at HZB
  simp only [hz] at hmk
  clear hz
  go_enter Try.func3, Try.ntmps3
  go_wp2_with fail
  refine (known8_any _).mono ?_
  rintro e w1 ⟨rfl, hk⟩
  replace HA := hide ((unhide HA).below hk)
  replace HM := hide ((unhide HM).below hk)
  have HT := hide hk
  clear hk
  by_cases h60 : 60 < nm
  · have h60' : (60 : Int) < (nm : Int) := by omega
    go_wp2_with fail
    go_ret
    exact ⟨rfl, unhide HT⟩
  have h60' : ¬ (60 : Int) < (nm : Int) := by omega
  go_wp2_with fail
  refine (data_any _ _ b 48 (by omega) _ (unhide HA)).mono ?_
  rintro e w2 ⟨v2, d, rfl, hld, hbd, hF, hk⟩
  replace HM := hide ((unhide HM).below hk)
  replace HT := hide ((unhide HT).trans (hk.mono (unhide HT).size))
  obtain ⟨gd, hD, _⟩ := hF.arg hbd
  have HD := hide hD
  obtain ⟨to, tc, hv⟩ := Fr.shape hF
  rw [hld] at hv
  subst hv
  clear hF hk HA hD
  go_wp2_with fail
  refine (rpencode_any _ gd d _ (unhide HD) hld).mono ?_
  rintro e w3 ⟨v3, rfl, hF, hk⟩
  replace HM := hide ((unhide HM).below hk)
  replace HT := hide ((unhide HT).trans (hk.mono (unhide HT).size))
  obtain ⟨gp, hP, _⟩ := hF.arg (pageF_bs hbd)
  have HP := hide hP
  obtain ⟨po, pc, hv⟩ := Fr.shape hF
  rw [pageF_len hld] at hv
  subst hv
  have HAL : Hid (Below w3.heap.size w3 (w3.alloc (.cells z 5))) := (Below.refl _ w3).alloc (Nat.le_refl _) _
  have HB0 := hide (unhide HZB w3)
  clear hF hk hP HD HZB
  go_wp2_with fail
  go_loopw [7] (fun p wr => ∃ i : Nat, p = .int .i64 (i : Int) ∧ i ≤ 60 ∧ Blk wr w3.heap.size (onesF i) ∧ Below w3.heap.size w3 wr) (fun p _ => 60 - (intOf p).toNat)
  case atStart => exact ⟨0, rfl, by omega, by rw [onesF_0]; exact unhide HB0, unhide HAL⟩
  case round =>
    obtain ⟨i, rfl, hi, hB, hk⟩ := hrel
    have HB := hide hB
    have HK := hide hk
    by_cases hlt : i < 60
    · have hi1 : (i : Int) < 60 := by omega
      have hc := hB.cell (j := i) (by rw [onesF_len]; exact hlt)
      have hf := hB.free (j := i)
      clear hB hk
      go_wp2_with fail
      go_roundw
      case rel =>
        refine ⟨i + 1, by go_num, by omega, ?_, (unhide HK).setCell (p := ⟨w3.heap.size, i, none⟩) (Nat.le_refl _) _⟩
        have h := (unhide HB).set i 255 (by rw [onesF_len]; exact hlt)
        rwa [onesF_set ⟨i, hlt⟩] at h
      case measure => simp [intOf]; omega
    · have hi2 : i = 60 := by omega
      subst hi2
      have HO : Hid (Arg wr (.slice (some ⟨w3.heap.size, 0, none⟩) 60 60) w3.heap.size (List.replicate 60 255)) := by
        have h := hB
        rw [onesF_60] at h
        have h2 := h.arg (c := 60) (ones_bs 60) (by simp) (by unfold maxLen; omega)
        rwa [List.length_replicate] at h2
      have hle : (List.replicate 60 255).length = (pageF d).length := by rw [List.length_replicate, pageF_len hld]
      have HMA := hide (mix_all hle (ones_bs 60) (pageF_bs hbd))
      have hxl : (mixL (List.replicate 60 255) (pageF d) mk).length = 60 := by rw [mixL_len hle, List.length_replicate]
      have hxb : Bs (mixL (List.replicate 60 255) (pageF d) mk) := mixL_bs mk (ones_bs 60) (pageF_bs hbd)
      replace HM := hide ((unhide HM).below hk)
      replace HP := hide ((unhide HP).below hk)
      replace HT := hide ((unhide HT).trans (hk.mono (unhide HT).size))
      clear hB hk HB HB0 HAL HK hmk hle
      go_wp2_with fail
      refine (rmix_any _ _ _ _ gp gm (List.replicate 60 255) (pageF d) mk _ (unhide HO) (unhide HP) (unhide HM) (fun _ => by rw [List.length_replicate]; omega)).mono ?_
      rintro e w4 ⟨v4, rfl, hF, hk⟩
      obtain ⟨X, hX⟩ : ∃ X, mixL (List.replicate 60 255) (pageF d) mk = X := ⟨_, rfl⟩
      rw [hX] at hF hxl hxb
      replace HO := hide ((unhide HO).below hk)
      replace HP := hide ((unhide HP).below hk)
      replace HT := hide ((unhide HT).trans (hk.mono (unhide HT).size))
      obtain ⟨gx, xc, hv, h41, h42, h43, h44⟩ := hF.blk (by intro e; rw [e] at hxl; simp at hxl)
      have hXA := h43.arg (c := xc) hxb h41 h42
      rw [hxl] at hv hXA
      subst hv
      have HX := hide hXA
      have HE4 := hide (empty_owns' w4)
      have HAL : Hid (Below w4.heap.size w4 (w4.alloc (.cells #[] 5))) := (Below.refl _ w4).alloc (Nat.le_refl _) _
      have HXR := hide (arg_row ((unhide HX).below (unhide HAL)))
      have HLX : Hid ((ints X).length = 60) := by show _ = _; rw [ints_len, hxl]
      obtain ⟨i0, hi0, hz0, hzz1, hz2⟩ := info_parts infoE
      have HI := hide hi0
      clear hF hk hX hXA h41 h42 h43 h44 hi0 HM
      go_wp2_with (at_builtin; refine wpList_append_row _ rfl _ _ 22 rfl w4.heap.size 5 i0 Try.underlying22 (unhide HI) hz0 hzz1 hz2 (.slice (some ⟨w4.heap.size, 0, none⟩) 0 0) 0 _ rfl (unhide HE4) (some ⟨gx, 0, none⟩) gx 60 xc (ints X) rfl (unhide HLX) (unhide HXR) (fun h => by cases h) (by omega) (by simp) ?_)
      intro v' w5 ho hg _
      obtain ⟨g5, cap5, rfl⟩ := ownsRow_succ (k := 59) ho
      have hF : Fr w4.heap.size w5 (.slice (some ⟨g5, 0, none⟩) 60 cap5) X := by
        have h := ho
        rw [show (ints ([] : List Nat)).map (Value.int .u8) = [] from rfl, List.nil_append] at h
        exact (owns_fr h).2
      have HK5 : Hid (Below w4.heap.size w4 w5) := (unhide HAL).grown hg (by simp) (fun k e => by cases e; exact Nat.le_refl _)
      have HC : Hid (Arg w5 (.slice (some ⟨g5, 0, none⟩) 60 cap5) g5 X) := by
        obtain ⟨q, cq, hv, h1, h2, h3, h4⟩ := hF.blk (by intro e; rw [e] at hxl; simp at hxl)
        rw [hxl] at hv
        cases hv
        have h := h3.arg (c := cap5) hxb h1 h2
        rwa [hxl] at h
      replace HO := hide ((unhide HO).below (unhide HK5))
      replace HP := hide ((unhide HP).below (unhide HK5))
      replace HX := hide ((unhide HX).below (unhide HK5))
      replace HT := hide ((unhide HT).trans ((unhide HK5).mono (unhide HT).size))
      clear ho hg hF HXR HE4 HAL HK5
      obtain ⟨st, hst⟩ : ∃ st, pageD X = st := ⟨_, rfl⟩
      have hbt : Bs st.2 := by rw [← hst]; exact pageD_bs hxb
      have HST := hide hst
      obtain ⟨s1, s2⟩ := st
      dsimp only at hbt
      clear hst
      go_wp2_with fail
      refine (pdecode_any _ g5 X _ (unhide HC)).mono ?_
      rw [unhide HST]
      rintro e w6 ⟨v6, rfl, hF, hk⟩
      dsimp only at hF ⊢
      replace HO := hide ((unhide HO).below hk)
      replace HP := hide ((unhide HP).below hk)
      replace HX := hide ((unhide HX).below hk)
      replace HT := hide ((unhide HT).trans (hk.mono (unhide HT).size))
      obtain ⟨g6, h6, _⟩ := hF.arg hbt
      have HS6 := hide h6
      obtain ⟨o6, c6, hv⟩ := Fr.shape hF
      subst hv
      clear hF hk h6 HC
      go_wp2_with fail
      refine (rpdecode_any _ gx X _ (unhide HX)).mono ?_
      rw [unhide HST]
      rintro e w7 ⟨v7, rfl, hF, hk⟩
      dsimp only at hF ⊢
      replace HO := hide ((unhide HO).below hk)
      replace HP := hide ((unhide HP).below hk)
      replace HS6 := hide ((unhide HS6).below hk)
      replace HT := hide ((unhide HT).trans (hk.mono (unhide HT).size))
      obtain ⟨g7, h7, _⟩ := hF.arg hbt
      have HS7 := hide h7
      obtain ⟨o7, c7, hv⟩ := Fr.shape hF
      subst hv
      clear hF hk h7 HX
      go_wp2_with fail
      refine (same8_any s1 s2 _ _ _ _ _ (unhide HS6) (unhide HS7)).mono ?_
      rintro e w8 ⟨rfl, hk⟩
      replace HO := hide ((unhide HO).below hk)
      replace HP := hide ((unhide HP).below hk)
      replace HT := hide ((unhide HT).trans (hk.mono (unhide HT).size))
      have H255 := hide (arg_one w8 255 (by omega))
      have HAL : Hid (Below w8.heap.size w8 (w8.alloc (.cells #[.int .u8 255] 5))) := (Below.refl _ w8).alloc (Nat.le_refl _) _
      replace HO := hide ((unhide HO).below (unhide HAL))
      replace HP := hide ((unhide HP).below (unhide HAL))
      replace HT := hide ((unhide HT).trans ((unhide HAL).mono (unhide HT).size))
      have hfs := fun st to n c w => field_st st to n c w
      clear hk HS6 HS7
      go_wp2_with fail
      refine (rmix_any _ _ _ _ gp _ (List.replicate 60 255) (pageF d) [255] _ (unhide HO) (unhide HP) (unhide H255) (fun _ => by rw [List.length_replicate]; omega)).mono ?_
      rw [unhide HMA]
      rintro e w9 ⟨v9, rfl, hF, hk⟩
      replace HO := hide ((unhide HO).below hk)
      replace HT := hide ((unhide HT).trans (hk.mono (unhide HT).size))
      obtain ⟨g9, h9, _⟩ := hF.arg (pageF_bs hbd)
      have HS9 := hide h9
      obtain ⟨o9, c9, hv⟩ := Fr.shape hF
      rw [pageF_len hld] at hv
      subst hv
      clear hF hk h9 H255 HAL HP
      go_wp2_with fail
      refine (pdecode_any _ g9 _ _ (unhide HS9)).mono ?_
      rw [page_back hld hbd]
      rintro e w10 ⟨v10, rfl, hF, hk⟩
      replace HO := hide ((unhide HO).below hk)
      replace HT := hide ((unhide HT).trans (hk.mono (unhide HT).size))
      obtain ⟨o10, c10, hv⟩ := Fr.shape hF
      subst hv
      clear hF hk HS9
      go_wp2_with fail
      refine (pdecode_any _ _ _ _ (unhide HO)).mono ?_
      rw [page_ones]
      rintro e w11 ⟨v11, rfl, hF, hk⟩
      replace HT := hide ((unhide HT).trans (hk.mono (unhide HT).size))
      obtain ⟨o11, c11, hv⟩ := Fr.shape hF
      subst hv
      clear hF hk
      go_wp2
      go_ret
      exact ⟨rfl, unhide HT⟩
end Go.Proofs.Ytkhpoomajebgoab
