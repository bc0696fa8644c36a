/-
  The walk of PageWrites.
-/
import Derived.Test.YtkhpoomajebgoaaMaz
import Derived.Test.YtkhpoomajebgoaaMba
import Derived.Test.YtkhpoomajebgoaaMaj
import Derived.Test.YtkhpoomajebgoaaMax
namespace Go.Proofs.Ytkhpoomajebgoaa
open Go.RowKit Go.Shelf

set_option maxRecDepth 100000 in
set_option maxHeartbeats 8000000 in
theorem pwrites_walk (va vr : Value) (ga gr : Nat) (b raw : List Nat) (w : World) (hA : Arg w va ga b) (hR : Arg w vr gr raw) (ao1 : Option Addr) (g1 len1 cap1 : Nat) (zs : List Int) (hz1 : zs.length = len1) (hr1 : IRow w ao1 g1 zs) (hcp1 : len1 ≤ cap1) (hm1 : cap1 ≤ maxLen) (hbo1 : ∀ z ∈ zs, -9223372036854775808 ≤ z ∧ z ≤ 9223372036854775807) :
    Calls Try.prog 3 #[va, .slice ao1 len1 cap1, vr] w fun x w' => x = .returned (.bool true) ∧ Below w.heap.size w w' := by
  have HA := hide hA
  have HR := hide hR
  have HL1 := hide hr1
  have hbr := hR.bs
  clear hr1
  obtain ⟨⟨ao, c, rfl, _⟩, _⟩ := hA
  obtain ⟨⟨ro, rc, rfl, hrc1, hrc2, _⟩, _⟩ := hR
  obtain ⟨nr, hnr⟩ : ∃ n, raw.length = n := ⟨_, rfl⟩
  rw [hnr] at HR hrc1 ⊢
  have HNR := hide hnr
  clear hnr
  have hnrm : (nr : Int) ≤ 9223372036854775807 := by unfold maxLen at hrc2; omega
  go_enter Try.func3, Try.ntmps3
  go_wp2_with fail
  refine (known8_any _).mono ?_
  rintro e w1 ⟨rfl, hk⟩
  replace HA := hide ((unhide HA).below hk)
  replace HR := hide ((unhide HR).below hk)
  replace HL1 := hide (IRow.below hk (unhide HL1))
  have HT := hide hk
  clear hk
  by_cases h80 : 80 < nr
  · have h80' : (80 : Int) < (nr : Int) := by omega
    go_wp2_with fail
    go_ret
    exact ⟨rfl, unhide HT⟩
  have h80' : ¬ (80 : Int) < (nr : Int) := by omega
  go_wp2_with fail
  refine (data_any _ _ b 48 (by omega) _ (unhide HA)).mono ?_
  rintro e w2 ⟨v2, d, rfl, hld, hbd, hF, hk⟩
  replace HR := hide ((unhide HR).below hk)
  replace HL1 := hide (IRow.below hk (unhide HL1))
  replace HT := hide ((unhide HT).trans (hk.mono (unhide HT).size))
  obtain ⟨gd, hD, _⟩ := hF.arg hbd
  have HD := hide hD
  obtain ⟨to, tc, hv⟩ := Fr.shape hF
  rw [hld] at hv
  subst hv
  clear hF hk HA hD
  go_wp2_with fail
  refine (pencode_any _ gd d _ (unhide HD) hld).mono ?_
  rintro e w3 ⟨v3, rfl, hF, hk⟩
  replace HR := hide ((unhide HR).below hk)
  replace HD := hide ((unhide HD).below hk)
  replace HL1 := hide (IRow.below hk (unhide HL1))
  replace HT := hide ((unhide HT).trans (hk.mono (unhide HT).size))
  obtain ⟨gp, hP, _⟩ := hF.arg (pageF_bs hbd)
  have HP := hide hP
  obtain ⟨po, pc, hv⟩ := Fr.shape hF
  rw [pageF_len hld] at hv
  subst hv
  clear hF hk hP
  go_wp2_with fail
  refine (rpencode_any _ gd d _ (unhide HD) hld).mono ?_
  rintro e w4 ⟨v4, rfl, hF, hk⟩
  replace HR := hide ((unhide HR).below hk)
  replace HD := hide ((unhide HD).below hk)
  replace HP := hide ((unhide HP).below hk)
  replace HL1 := hide (IRow.below hk (unhide HL1))
  replace HT := hide ((unhide HT).trans (hk.mono (unhide HT).size))
  obtain ⟨ge, hE, _⟩ := hF.arg (pageF_bs hbd)
  have HE := hide hE
  obtain ⟨eo, ec, hv⟩ := Fr.shape hF
  rw [pageF_len hld] at hv
  subst hv
  clear hF hk hE
  go_wp2_with fail
  refine (places_any ao1 g1 len1 cap1 zs hz1 (unhide HL1) hcp1 hm1 hbo1 480 12 (by omega) (by omega) (by omega)).mono ?_
  rintro e w5 ⟨v5, ps, rfl, hnd, hps, hpl, hO, hk⟩
  replace HR := hide ((unhide HR).below hk)
  replace HD := hide ((unhide HD).below hk)
  replace HP := hide ((unhide HP).below hk)
  replace HE := hide ((unhide HE).below hk)
  replace HT := hide ((unhide HT).trans (hk.mono (unhide HT).size))
  obtain ⟨qo, qc, qg, rfl, hZ⟩ := hO.za (fun k h => by have := hps k h; omega)
  have HZ := hide hZ
  clear hO hk hZ hnd hps HL1
  go_wp2_with fail
  refine (rflip_any _ _ ge qg (pageF d) (ints ps) _ (unhide HE) (unhide HZ) (by rw [pageF_len hld]; omega)).mono ?_
  rintro e w6 ⟨v6, rfl, hF, hk⟩
  replace HR := hide ((unhide HR).below hk)
  replace HD := hide ((unhide HD).below hk)
  replace HP := hide ((unhide HP).below hk)
  replace HT := hide ((unhide HT).trans (hk.mono (unhide HT).size))
  obtain ⟨X, hX⟩ : ∃ X, flipZ (pageF d) (ints ps) = X := ⟨_, rfl⟩
  have hxl : X.length = 60 := by rw [← hX, flipZ_len, pageF_len hld]
  have hxb : Bs X := by rw [← hX]; exact flipZ_bs (pageF_bs hbd) _
  rw [hX] at hF
  obtain ⟨gx, hFX, _⟩ := hF.arg hxb
  have HX := hide hFX
  obtain ⟨xo, xc, hv⟩ := Fr.shape hF
  rw [hxl] at hv
  subst hv
  clear hF hk hFX hX HE HZ
  go_wp2_with fail
  refine (data_any _ _ raw 60 (by omega) _ (unhide HR)).mono ?_
  rintro e w7 ⟨v7, y, rfl, hyl, hyb, hF, hk⟩
  replace HR := hide ((unhide HR).below hk)
  replace HD := hide ((unhide HD).below hk)
  replace HP := hide ((unhide HP).below hk)
  replace HX := hide ((unhide HX).below hk)
  replace HT := hide ((unhide HT).trans (hk.mono (unhide HT).size))
  obtain ⟨gy, hY, _⟩ := hF.arg hyb
  have HY := hide hY
  obtain ⟨yo, yc, hv⟩ := Fr.shape hF
  rw [hyl] at hv
  subst hv
  clear hF hk hY
  have hk : Below w7.heap.size w7 (w7.alloc (.cells #[.slice po 60 pc, .slice xo 60 xc, .slice yo 60 yc, .slice ro nr rc] 22)) := (Below.refl _ _).alloc (Nat.le_refl _) _
  have hin : (w7.alloc (.cells #[.slice po 60 pc, .slice xo 60 xc, .slice yo 60 yc, .slice ro nr rc] 22)).heap[w7.heap.size]? = some (.cells #[.slice po 60 pc, .slice xo 60 xc, .slice yo 60 yc, .slice ro nr rc] 22 (0, 0)) := World.alloc_heap_new w7 _
  have HIN : Hid (∀ i : Nat, i < 4 → ∃ (vo : Option Addr) (n vc gv : Nat) (s : List Nat), (w7.alloc (.cells #[.slice po 60 pc, .slice xo 60 xc, .slice yo 60 yc, .slice ro nr rc] 22)).cell? ⟨w7.heap.size, i, none⟩ = some (.slice vo n vc) ∧ Arg (w7.alloc (.cells #[.slice po 60 pc, .slice xo 60 xc, .slice yo 60 yc, .slice ro nr rc] 22)) (.slice vo n vc) gv s ∧ s.length = n ∧ n ≤ 80) := by
    intro i hi
    match i, hi with
    | 0, _ => exact ⟨_, _, _, gp, _, by unfold World.cell?; rw [hin]; rfl, (unhide HP).below hk, pageF_len hld, by omega⟩
    | 1, _ => exact ⟨_, _, _, gx, _, by unfold World.cell?; rw [hin]; rfl, (unhide HX).below hk, hxl, by omega⟩
    | 2, _ => exact ⟨_, _, _, gy, _, by unfold World.cell?; rw [hin]; rfl, (unhide HY).below hk, hyl, by omega⟩
    | 3, _ => exact ⟨_, _, _, gr, _, by unfold World.cell?; rw [hin]; rfl, (unhide HR).below hk, unhide HNR, by omega⟩
  replace HR := hide ((unhide HR).below hk)
  replace HD := hide ((unhide HD).below hk)
  replace HP := hide ((unhide HP).below hk)
  replace HT := hide ((unhide HT).trans (hk.mono (unhide HT).size))
  clear hk hin HX HY
  go_wp2_with fail
  generalize w7.alloc (.cells #[.slice po 60 pc, .slice xo 60 xc, .slice yo 60 yc, .slice ro nr rc] 22) = wl at HIN HR HD HP HT ⊢
  go_loopw [10] (fun p wr => ∃ i : Nat, p = .int .i64 (i : Int) ∧ i ≤ 4 ∧ Below wl.heap.size wl wr) (fun p _ => 4 - (intOf p).toNat)
  case atStart => exact ⟨0, rfl, by omega, Below.refl _ _⟩
  case round =>
    obtain ⟨i, rfl, hi, hBL⟩ := hrel
    have HBL := hide hBL
    clear hBL
    by_cases hlt : i < 4
    · have hi1 : (i : Int) < 4 := by omega
      obtain ⟨vo, n, vc, gv, s, hcv, hAv, hln, hn80⟩ := unhide HIN i hlt
      have hbs := hAv.bs
      have HCE := hide (((unhide HBL).cell (block_lt_of_cell hcv)).trans hcv)
      have HV := hide (hAv.below (unhide HBL))
      have HLN := hide hln
      have HNIL : Hid (vo = none → n = 0 ∧ vc = 0) := by
        obtain ⟨ao', c', h1, h2, h3, h4, _⟩ := hAv.ex
        cases h1
        exact fun h => ⟨by have := h4 h; omega, h4 h⟩
      obtain ⟨st, hst⟩ : ∃ st, pageD s = st := ⟨_, rfl⟩
      have hbt : Bs st.2 := by rw [← hst]; exact pageD_bs hbs
      have HST := hide hst
      obtain ⟨s1, s2⟩ := st
      dsimp only at hbt
      replace HT := hide ((unhide HT).trans ((unhide HBL).mono (unhide HT).size))
      clear hcv hAv hln hst HIN HR HD HP
      go_wp2_with fail
      replace HT := hide ((unhide HT).drew)
      replace HBL := hide ((unhide HBL).drew)
      replace HCE := hide (((Below.refl _ _).drew.cell (block_lt_of_cell (unhide HCE))).trans (unhide HCE))
      replace HV := hide ((unhide HV).below (Below.refl _ _).drew)
      refine wp_region_noPanic ?_
      refine wp_region_held_drew (S := fun W => Below wr.drew.heap.size wr.drew W) (by kernel_rfl) (Below.refl _ _) (fun hHeld => ?_)
      have HH := hide hHeld
      clear hHeld
      generalize wr.drew = w8 at HT HBL HCE HV HH ⊢
      refine takeL (i := 1) (v := ?_) rfl (by kernel_rfl) (by kernel_rfl) (by kernel_rfl) (fun _ _ _ h => h) (Or.inl ⟨by rfl, ?_⟩) (unhide HH) ?_
      rotate_left 1
      · intro W hSW; go_simp; all_goals (with_reducible rfl)
      (try simp only [Act.put, List.setIfInBounds_toArray, List.set_cons_zero, List.set_cons_succ])
      refine takeL (i := 2) (v := ?_) rfl (by kernel_rfl) (by kernel_rfl) (by kernel_rfl) (fun _ _ _ h => h) (Or.inl ⟨by rfl, ?_⟩) (unhide HH) ?_
      rotate_left 1
      · intro W hSW; go_simp; all_goals (with_reducible rfl)
      (try simp only [Act.put, List.setIfInBounds_toArray, List.set_cons_zero, List.set_cons_succ])
      refine takeL (i := 3) (v := ?_) rfl (by kernel_rfl) (by kernel_rfl) (by kernel_rfl) (fun _ _ _ h => h) (Or.inl ⟨by rfl, ?_⟩) (unhide HH) ?_
      rotate_left 1
      · intro W hSW; go_simp; all_goals (with_reducible rfl)
      (try simp only [Act.put, List.setIfInBounds_toArray, List.set_cons_zero, List.set_cons_succ])
      refine takeL (i := 4) (v := ?_) rfl (by kernel_rfl) (by kernel_rfl) (by kernel_rfl) (fun _ _ _ h => h) (Or.inl ⟨by rfl, ?_⟩) (unhide HH) ?_
      rotate_left 1
      · intro W1 hSW; have hc := (hSW.cell (block_lt_of_cell (unhide HCE))).trans (unhide HCE); clear hSW; go_simp; all_goals (with_reducible rfl)
      (try simp only [Act.put, List.setIfInBounds_toArray, List.set_cons_zero, List.set_cons_succ])
      refine takeL (i := 7) (v := ?_) rfl (by kernel_rfl) (by kernel_rfl) (by kernel_rfl) (fun _ _ _ h => h) (Or.inl ⟨by rfl, ?_⟩) (unhide HH) ?_
      rotate_left 1
      · intro W hSW; go_simp; all_goals (with_reducible rfl)
      (try simp only [Act.put, List.setIfInBounds_toArray, List.set_cons_zero, List.set_cons_succ])
      refine takeL (i := 8) (v := ?_) rfl (by kernel_rfl) (by kernel_rfl) (by kernel_rfl) (fun _ _ _ h => h) (Or.inl ⟨by rfl, ?_⟩) (unhide HH) ?_
      rotate_left 1
      · intro W hSW; go_simp; all_goals (with_reducible rfl)
      (try simp only [Act.put, List.setIfInBounds_toArray, List.set_cons_zero, List.set_cons_succ])
      refine takeL (i := 9) (v := ?_) rfl (by kernel_rfl) (by kernel_rfl) (by kernel_rfl) (fun _ _ _ h => h) (Or.inl ⟨by rfl, ?_⟩) (unhide HH) ?_
      rotate_left 1
      · intro W hSW; go_simp; all_goals (with_reducible rfl)
      (try simp only [Act.put, List.setIfInBounds_toArray, List.set_cons_zero, List.set_cons_succ])
      refine takeL (i := 10) (v := ?_) rfl (by kernel_rfl) (by kernel_rfl) (by kernel_rfl) (fun _ _ _ h => h) (Or.inl ⟨by rfl, ?_⟩) (unhide HH) ?_
      rotate_left 1
      · intro W1 hSW; have hc := (hSW.cell (block_lt_of_cell (unhide HCE))).trans (unhide HCE); clear hSW; go_simp; all_goals (with_reducible rfl)
      (try simp only [Act.put, List.setIfInBounds_toArray, List.set_cons_zero, List.set_cons_succ])
      refine wpAnyH_ready (rs := [0]) (by kernel_rfl) (by simp) ?_
      refine consL rfl (fun K hK => ?_) AllReadyH.nil
      go_simp
      have hk : Below w8.heap.size w8 (w8.alloc (.cells #[] 5)) := (Below.refl _ _).alloc (Nat.le_refl _) _
      have hOZ := own_none w8 5
      generalize w8.alloc (.cells #[] 5) = w9 at hk hOZ ⊢
      have HO9 := hide hOZ
      clear hOZ
      refine hK.out _ _ hk (fun hHeld => ?_)
      clear hK K HH hk
      have HH := hide hHeld
      clear hHeld
      (try simp only [Act.put, List.setIfInBounds_toArray, List.set_cons_zero, List.set_cons_succ])
      refine wpAnyH_ready (rs := [5]) (by kernel_rfl) (by simp) ?_
      refine consL rfl (fun K hK => ?_) AllReadyH.nil
      rw [if_pos (by rfl)]
      refine wp_append_b (.tmp 34) (.tmp 38) (by rfl) w8.heap.size _ 0 [] (ints s) (by rfl) (unhide HO9) _ _ n _ (by rfl) (by rw [ints_len]; exact unhide HLN) (arg_row ((unhide HV).below (unhide HH))) (unhide HNIL) (by omega) (unhide HH).size ?_
      intro v10 w10 ho hg
      have hF := (owns_fr (s := s) ho).2
      have hk : Below w8.heap.size w8 w10 := below_grown (unhide HH) hg (unhide HH).size (fun k hk => by have e2 : w8.heap.size = k := Option.some.inj hk; omega)
      clear ho hg
      replace HBL := hide ((unhide HBL).trans (hk.mono (unhide HBL).size))
      replace HCE := hide ((hk.cell (block_lt_of_cell (unhide HCE))).trans (unhide HCE))
      replace HV := hide ((unhide HV).below hk)
      replace HT := hide ((unhide HT).trans (hk.mono (unhide HT).size))
      obtain ⟨g10, hA, hge⟩ := hF.arg hbs
      obtain ⟨⟨ao10, c10, rfl, h1, h2, h3, h4⟩, _⟩ := hA
      have HA10 : Hid (Arg w10 (.slice ao10 n c10) g10 (s)) := ⟨⟨ao10, c10, by rw [(unhide HLN)], h1, h2, h3, h4⟩, hbs⟩
      rw [show (s).length = n from (unhide HLN)]
      clear h1 h2 h3 h4 hF hge
      refine hK.out _ _ hk (fun hHeld => ?_)
      clear hK K HH hHeld
      (try simp only [Act.put, List.setIfInBounds_toArray, List.set_cons_zero, List.set_cons_succ])
      refine stronger (S' := fun W => Below w10.heap.size w10 W) (fun W h => hk.trans (h.mono hk.size)) _ _ _ _ ?_
      have HH : Hid (Below w10.heap.size w10 w10) := Below.refl _ _
      clear hk
      refine wpAnyH_ready (rs := [6]) (by kernel_rfl) (by simp) ?_
      refine consL rfl (fun K hK => ?_) AllReadyH.nil
      go_simp
      refine (pdecode_any _ _ s _ (unhide HA10)).mono ?_
      rw [unhide HST]
      rintro e w11 ⟨v11, rfl, hF, hk⟩
      dsimp only at hF ⊢
      replace HBL := hide ((unhide HBL).trans (hk.mono (unhide HBL).size))
      replace HCE := hide ((hk.cell (block_lt_of_cell (unhide HCE))).trans (unhide HCE))
      replace HV := hide ((unhide HV).below hk)
      replace HA10 := hide ((unhide HA10).below hk)
      replace HT := hide ((unhide HT).trans (hk.mono (unhide HT).size))
      obtain ⟨g11, hA, hge⟩ := hF.arg hbt
      obtain ⟨⟨ao11, c11, rfl, h1, h2, h3, h4⟩, _⟩ := hA
      have HA11 : Hid (Arg w11 (.slice ao11 (s2).length c11) g11 (s2)) := ⟨⟨ao11, c11, rfl, h1, h2, h3, h4⟩, hbt⟩
      clear h1 h2 h3 h4 hF hge
      go_wp2_with fail
      refine hK.out _ _ hk (fun hHeld => ?_)
      clear hK K HH hHeld
      (try simp only [Act.put, List.setIfInBounds_toArray, List.set_cons_zero, List.set_cons_succ])
      refine stronger (S' := fun W => Below w11.heap.size w11 W) (fun W h => hk.trans (h.mono hk.size)) _ _ _ _ ?_
      have HH : Hid (Below w11.heap.size w11 w11) := Below.refl _ _
      clear hk
      refine wpAnyH_ready (rs := [11]) (by kernel_rfl) (by simp) ?_
      refine consL rfl (fun K hK => ?_) AllReadyH.nil
      go_simp
      refine (rpdecode_any _ _ s _ (unhide HV)).mono ?_
      rw [unhide HST]
      rintro e w12 ⟨v12, rfl, hF, hk⟩
      dsimp only at hF ⊢
      replace HBL := hide ((unhide HBL).trans (hk.mono (unhide HBL).size))
      replace HCE := hide ((hk.cell (block_lt_of_cell (unhide HCE))).trans (unhide HCE))
      replace HV := hide ((unhide HV).below hk)
      replace HA10 := hide ((unhide HA10).below hk)
      replace HA11 := hide ((unhide HA11).below hk)
      replace HT := hide ((unhide HT).trans (hk.mono (unhide HT).size))
      obtain ⟨g12, hA, hge⟩ := hF.arg hbt
      obtain ⟨⟨ao12, c12, rfl, h1, h2, h3, h4⟩, _⟩ := hA
      have HA12 : Hid (Arg w12 (.slice ao12 (s2).length c12) g12 (s2)) := ⟨⟨ao12, c12, rfl, h1, h2, h3, h4⟩, hbt⟩
      clear h1 h2 h3 h4 hF hge
      go_wp2_with fail
      refine hK.out _ _ hk (fun hHeld => ?_)
      clear hK K HH hHeld
      (try simp only [Act.put, List.setIfInBounds_toArray, List.set_cons_zero, List.set_cons_succ])
      refine stronger (S' := fun W => Below w12.heap.size w12 W) (fun W h => hk.trans (h.mono hk.size)) _ _ _ _ ?_
      have HH : Hid (Below w12.heap.size w12 w12) := Below.refl _ _
      clear hk
      refine wpAnyH_ready (rs := [12]) (by kernel_rfl) (by simp) ?_
      refine consL rfl (fun K hK => ?_) AllReadyH.nil
      go_simp
      refine (same8_any s1 s2 _ _ _ _ _ (unhide HA11) (unhide HA12)).mono ?_
      rintro e w13 ⟨rfl, hk⟩
      replace HBL := hide ((unhide HBL).trans (hk.mono (unhide HBL).size))
      replace HCE := hide ((hk.cell (block_lt_of_cell (unhide HCE))).trans (unhide HCE))
      replace HV := hide ((unhide HV).below hk)
      replace HA10 := hide ((unhide HA10).below hk)
      replace HA11 := hide ((unhide HA11).below hk)
      replace HA12 := hide ((unhide HA12).below hk)
      replace HT := hide ((unhide HT).trans (hk.mono (unhide HT).size))
      go_wp2_with fail
      refine hK.out _ _ hk (fun hHeld => ?_)
      clear hK K HH hHeld
      (try simp only [Act.put, List.setIfInBounds_toArray, List.set_cons_zero, List.set_cons_succ])
      refine stronger (S' := fun W => Below w13.heap.size w13 W) (fun W h => hk.trans (h.mono hk.size)) _ _ _ _ ?_
      have HH : Hid (Below w13.heap.size w13 w13) := Below.refl _ _
      clear hk
      refine takeL (i := 13) (v := ?_) rfl (by kernel_rfl) (by kernel_rfl) (by kernel_rfl) (fun _ _ _ h => h) (Or.inl ⟨by rfl, ?_⟩) (unhide HH) ?_
      rotate_left 1
      · intro W hSW; go_simp; all_goals (with_reducible rfl)
      (try simp only [Act.put, List.setIfInBounds_toArray, List.set_cons_zero, List.set_cons_succ])
      refine wpAnyH_done (by kernel_rfl) ?_ _
      refine NoPanic.normal ?_
      go_wp2_with fail
      go_roundw
      case rel => exact ⟨i + 1, by go_num, by omega, unhide HBL⟩
      case measure => simp [intOf]; omega
    · have hi4 : i = 4 := by omega
      subst hi4
      have hi1 : ¬ (4 : Int) < 4 := by omega
      replace HR := hide ((unhide HR).below (unhide HBL))
      replace HD := hide ((unhide HD).below (unhide HBL))
      replace HP := hide ((unhide HP).below (unhide HBL))
      replace HT := hide ((unhide HT).trans ((unhide HBL).mono (unhide HT).size))
      have hep := encP_yes hld
      have HEP := hide hep
      clear hep HIN
      go_wp2_with fail
      replace HT := hide ((unhide HT).drew)
      replace HR := hide ((unhide HR).below (Below.refl _ _).drew)
      replace HD := hide ((unhide HD).below (Below.refl _ _).drew)
      replace HP := hide ((unhide HP).below (Below.refl _ _).drew)
      refine wp_region_noPanic ?_
      refine wp_region_held_drew (S := fun W => Below wr.drew.heap.size wr.drew W) (by kernel_rfl) (Below.refl _ _) (fun hHeld => ?_)
      have HH := hide hHeld
      clear hHeld
      generalize wr.drew = w8 at HT HR HD HP HH ⊢
      refine takeL (i := 0) (v := ?_) rfl (by kernel_rfl) (by kernel_rfl) (by kernel_rfl) (fun _ _ _ h => h) (Or.inl ⟨by rfl, ?_⟩) (unhide HH) ?_
      rotate_left 1
      · intro W hSW; go_simp; all_goals (with_reducible rfl)
      (try simp only [Act.put, List.setIfInBounds_toArray, List.set_cons_zero, List.set_cons_succ])
      refine takeL (i := 1) (v := ?_) rfl (by kernel_rfl) (by kernel_rfl) (by kernel_rfl) (fun _ _ _ h => h) (Or.inl ⟨by rfl, ?_⟩) (unhide HH) ?_
      rotate_left 1
      · intro W1 hSW; have hcv := conv_arg ((unhide HP).below hSW); clear hSW; go_simp; all_goals (with_reducible rfl)
      (try simp only [Act.put, List.setIfInBounds_toArray, List.set_cons_zero, List.set_cons_succ])
      refine takeL (i := 2) (v := ?_) rfl (by kernel_rfl) (by kernel_rfl) (by kernel_rfl) (fun _ _ _ h => h) (Or.inl ⟨by rfl, ?_⟩) (unhide HH) ?_
      rotate_left 1
      · intro W hSW; go_simp; all_goals (with_reducible rfl)
      (try simp only [Act.put, List.setIfInBounds_toArray, List.set_cons_zero, List.set_cons_succ])
      refine wpAnyH_ready (rs := [3]) (by kernel_rfl) (by simp) ?_
      refine consL rfl (fun K hK => ?_) AllReadyH.nil
      go_simp
      refine (rpencode_u _ _ d _ (unhide HD)).mono ?_
      rw [unhide HEP]
      rintro e w9 ⟨v9, rfl, hF, hk⟩
      replace HR := hide ((unhide HR).below hk)
      replace HD := hide ((unhide HD).below hk)
      replace HP := hide ((unhide HP).below hk)
      replace HT := hide ((unhide HT).trans (hk.mono (unhide HT).size))
      obtain ⟨g9, hA, hge⟩ := hF.arg (pageF_bs hbd)
      obtain ⟨⟨ao9, c9, rfl, h1, h2, h3, h4⟩, _⟩ := hA
      have HA9 : Hid (Arg w9 (.slice ao9 60 c9) g9 (pageF d)) := ⟨⟨ao9, c9, by rw [(pageF_len hld)], h1, h2, h3, h4⟩, (pageF_bs hbd)⟩
      rw [show (pageF d).length = 60 from (pageF_len hld)]
      clear h1 h2 h3 h4 hF hge
      go_wp2_with fail
      refine hK.out _ _ hk (fun hHeld => ?_)
      clear hK K HH hHeld
      (try simp only [Act.put, List.setIfInBounds_toArray, List.set_cons_zero, List.set_cons_succ])
      refine stronger (S' := fun W => Below w9.heap.size w9 W) (fun W h => hk.trans (h.mono hk.size)) _ _ _ _ ?_
      have HH : Hid (Below w9.heap.size w9 w9) := Below.refl _ _
      clear hk
      refine takeL (i := 4) (v := ?_) rfl (by kernel_rfl) (by kernel_rfl) (by kernel_rfl) (fun _ _ _ h => h) (Or.inl ⟨by rfl, ?_⟩) (unhide HH) ?_
      rotate_left 1
      · intro W1 hSW; have hcv := conv_arg ((unhide HA9).below hSW); clear hSW; go_simp; all_goals (with_reducible rfl)
      (try simp only [Act.put, List.setIfInBounds_toArray, List.set_cons_zero, List.set_cons_succ])
      refine takeL (i := 5) (v := ?_) rfl (by kernel_rfl) (by kernel_rfl) (by kernel_rfl) (fun _ _ _ h => h) (Or.inl ⟨by rfl, ?_⟩) (unhide HH) ?_
      rotate_left 1
      · intro W hSW; go_simp; all_goals (with_reducible rfl)
      (try simp only [Act.put, List.setIfInBounds_toArray, List.set_cons_zero, List.set_cons_succ])
      refine takeL (i := 6) (v := ?_) rfl (by kernel_rfl) (by kernel_rfl) (by kernel_rfl) (fun _ _ _ h => h) (Or.inl ⟨by rfl, ?_⟩) (unhide HH) ?_
      rotate_left 1
      · intro W hSW; go_simp; all_goals (with_reducible rfl)
      (try simp only [Act.put, List.setIfInBounds_toArray, List.set_cons_zero, List.set_cons_succ])
      refine takeL (i := 7) (v := ?_) rfl (by kernel_rfl) (by kernel_rfl) (by kernel_rfl) (fun _ _ _ h => h) (Or.inl ⟨by rfl, ?_⟩) (unhide HH) ?_
      rotate_left 1
      · intro W hSW; go_simp; all_goals (with_reducible rfl)
      (try simp only [Act.put, List.setIfInBounds_toArray, List.set_cons_zero, List.set_cons_succ])
      refine takeL (i := 10) (v := ?_) rfl (by kernel_rfl) (by kernel_rfl) (by kernel_rfl) (fun _ _ _ h => h) (Or.inl ⟨by rfl, ?_⟩) (unhide HH) ?_
      rotate_left 1
      · intro W hSW; go_simp; all_goals (with_reducible rfl)
      (try simp only [Act.put, List.setIfInBounds_toArray, List.set_cons_zero, List.set_cons_succ])
      refine wpAnyH_ready (rs := [8]) (by kernel_rfl) (by simp) ?_
      refine consL rfl (fun K hK => ?_) AllReadyH.nil
      go_simp
      refine (pencode_u _ _ raw _ (unhide HR)).mono ?_
      rintro e w10 ⟨v10, rfl, hF, hk⟩
      replace HR := hide ((unhide HR).below hk)
      replace HD := hide ((unhide HD).below hk)
      replace HP := hide ((unhide HP).below hk)
      replace HA9 := hide ((unhide HA9).below hk)
      replace HT := hide ((unhide HT).trans (hk.mono (unhide HT).size))
      obtain ⟨g10, hA, hge⟩ := hF.arg (encP_bs hbr)
      obtain ⟨⟨ao10, c10, rfl, h1, h2, h3, h4⟩, _⟩ := hA
      have HA10 : Hid (Arg w10 (.slice ao10 (encP raw).length c10) g10 (encP raw)) := ⟨⟨ao10, c10, rfl, h1, h2, h3, h4⟩, (encP_bs hbr)⟩
      clear h1 h2 h3 h4 hF hge
      go_wp2_with fail
      refine hK.out _ _ hk (fun hHeld => ?_)
      clear hK K HH hHeld
      (try simp only [Act.put, List.setIfInBounds_toArray, List.set_cons_zero, List.set_cons_succ])
      refine stronger (S' := fun W => Below w10.heap.size w10 W) (fun W h => hk.trans (h.mono hk.size)) _ _ _ _ ?_
      have HH : Hid (Below w10.heap.size w10 w10) := Below.refl _ _
      clear hk
      refine takeL (i := 9) (v := ?_) rfl (by kernel_rfl) (by kernel_rfl) (by kernel_rfl) (fun _ _ _ h => h) (Or.inl ⟨by rfl, ?_⟩) (unhide HH) ?_
      rotate_left 1
      · intro W1 hSW; have hcv := conv_arg ((unhide HA10).below hSW); clear hSW; go_simp; all_goals (with_reducible rfl)
      (try simp only [Act.put, List.setIfInBounds_toArray, List.set_cons_zero, List.set_cons_succ])
      refine wpAnyH_ready (rs := [11]) (by kernel_rfl) (by simp) ?_
      refine consL rfl (fun K hK => ?_) AllReadyH.nil
      go_simp
      refine (rpencode_u _ _ raw _ (unhide HR)).mono ?_
      rintro e w11 ⟨v11, rfl, hF, hk⟩
      replace HR := hide ((unhide HR).below hk)
      replace HD := hide ((unhide HD).below hk)
      replace HP := hide ((unhide HP).below hk)
      replace HA9 := hide ((unhide HA9).below hk)
      replace HA10 := hide ((unhide HA10).below hk)
      replace HT := hide ((unhide HT).trans (hk.mono (unhide HT).size))
      obtain ⟨g11, hA, hge⟩ := hF.arg (encP_bs hbr)
      obtain ⟨⟨ao11, c11, rfl, h1, h2, h3, h4⟩, _⟩ := hA
      have HA11 : Hid (Arg w11 (.slice ao11 (encP raw).length c11) g11 (encP raw)) := ⟨⟨ao11, c11, rfl, h1, h2, h3, h4⟩, (encP_bs hbr)⟩
      clear h1 h2 h3 h4 hF hge
      go_wp2_with fail
      refine hK.out _ _ hk (fun hHeld => ?_)
      clear hK K HH hHeld
      (try simp only [Act.put, List.setIfInBounds_toArray, List.set_cons_zero, List.set_cons_succ])
      refine stronger (S' := fun W => Below w11.heap.size w11 W) (fun W h => hk.trans (h.mono hk.size)) _ _ _ _ ?_
      have HH : Hid (Below w11.heap.size w11 w11) := Below.refl _ _
      clear hk
      refine takeL (i := 12) (v := ?_) rfl (by kernel_rfl) (by kernel_rfl) (by kernel_rfl) (fun _ _ _ h => h) (Or.inl ⟨by rfl, ?_⟩) (unhide HH) ?_
      rotate_left 1
      · intro W1 hSW; have hcv := conv_arg ((unhide HA11).below hSW); clear hSW; go_simp; all_goals (with_reducible rfl)
      (try simp only [Act.put, List.setIfInBounds_toArray, List.set_cons_zero, List.set_cons_succ])
      refine takeL (i := 13) (v := ?_) rfl (by kernel_rfl) (by kernel_rfl) (by kernel_rfl) (fun _ _ _ h => h) (Or.inl ⟨by rfl, ?_⟩) (unhide HH) ?_
      rotate_left 1
      · intro W hSW; go_simp; all_goals (with_reducible rfl)
      (try simp only [Act.put, List.setIfInBounds_toArray, List.set_cons_zero, List.set_cons_succ])
      refine takeL (i := 14) (v := ?_) rfl (by kernel_rfl) (by kernel_rfl) (by kernel_rfl) (fun _ _ _ h => h) (Or.inl ⟨by rfl, ?_⟩) (unhide HH) ?_
      rotate_left 1
      · intro W hSW; go_simp; all_goals (with_reducible rfl)
      (try simp only [Act.put, List.setIfInBounds_toArray, List.set_cons_zero, List.set_cons_succ])
      refine takeL (i := 15) (v := ?_) rfl (by kernel_rfl) (by kernel_rfl) (by kernel_rfl) (fun _ _ _ h => h) (Or.inl ⟨by rfl, ?_⟩) (unhide HH) ?_
      rotate_left 1
      · intro W hSW; go_simp; all_goals (with_reducible rfl)
      (try simp only [Act.put, List.setIfInBounds_toArray, List.set_cons_zero, List.set_cons_succ])
      refine wpAnyH_done (by kernel_rfl) ?_ _
      refine NoPanic.normal ?_
      go_wp2
      go_ret
      exact ⟨rfl, unhide HT⟩

end Go.Proofs.Ytkhpoomajebgoaa
