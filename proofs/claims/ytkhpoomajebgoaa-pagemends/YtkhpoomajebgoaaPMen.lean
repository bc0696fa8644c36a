/-
  The walk of PageMends.
-/
import Derived.Test.YtkhpoomajebgoaaMaz
import Derived.Test.YtkhpoomajebgoaaMaj
import Derived.Test.YtkhpoomajebgoaaMba
import Derived.Test.YtkhpoomajebgoaaMax
namespace Go.Proofs.Ytkhpoomajebgoaa
open Go.RowKit Go.Shelf

theorem cf_psA {A B : List Nat} {i : Nat} (h : i < A.length) : cf (psOf A B []) i = 32 + cf A i := by
  have h1 : (A.map (fun a => 32 + a))[i]? = some (32 + cf A i) := by rw [List.getElem?_map, cf_get h]; rfl
  have h2 : (psOf A B [])[i]? = some (32 + cf A i) := by
    unfold psOf
    rw [List.append_nil, List.getElem?_append_left (by rw [List.length_map]; exact h)]
    exact h1
  rw [← cf_getD, List.getD_eq_getElem?_getD, h2]
  rfl
theorem cf_psB {A B : List Nat} {i : Nat} (h : ¬ i < A.length) (h2 : i < A.length + B.length) : cf (psOf A B []) i = 256 + cf B (i - A.length) := by
  have h1 : (B.map (fun b => 256 + b))[i - A.length]? = some (256 + cf B (i - A.length)) := by rw [List.getElem?_map, cf_get (by omega)]; rfl
  have h3 : (psOf A B [])[i]? = some (256 + cf B (i - A.length)) := by
    unfold psOf
    rw [List.append_nil, List.getElem?_append_right (by rw [List.length_map]; omega), List.length_map]
    exact h1
  rw [← cf_getD, List.getD_eq_getElem?_getD, h3]
  rfl
theorem ps_len (A B M : List Nat) : (psOf A B M).length = A.length + B.length + M.length := by simp [psOf]; omega
theorem ps_ints (A B M : List Nat) : ints (psOf A B []) ++ ints M = ints (psOf A B M) := by simp [psOf, ints]

set_option maxRecDepth 100000 in
set_option maxHeartbeats 16000000 in
theorem pmends_f (va : Value) (ga : Nat) (b : List Nat) (w : World) (hA : Arg w va ga b) (ao1 : Option Addr) (g1 len1 cap1 : Nat) (zs : List Int) (hz1 : zs.length = len1) (hr1 : IRow w ao1 g1 zs) (hcp1 : len1 ≤ cap1) (hm1 : cap1 ≤ maxLen) (hbo1 : ∀ z ∈ zs, -9223372036854775808 ≤ z ∧ z ≤ 9223372036854775807) (hsz : len1 * 8 ≤ 140737488351232)
    (ao2 : Option Addr) (g2 len2 cap2 : Nat) (ys : List Int) (hz2 : ys.length = len2) (hr2 : IRow w ao2 g2 ys) (hcp2 : len2 ≤ cap2) (hm2 : cap2 ≤ maxLen) (hbo2 : ∀ z ∈ ys, -9223372036854775808 ≤ z ∧ z ≤ 9223372036854775807) :
    Calls Try.prog 4 #[va, .slice ao1 len1 cap1, .slice ao2 len2 cap2, .bool false] w fun x w' => x = .returned (.bool true) ∧ Below w.heap.size w w' := by
  have HA := hide hA
  have HL1 := hide hr1
  have HL2 := hide hr2
  have HZ1 := hide hz1
  have HZ2 := hide hz2
  have HBO1 := hide hbo1
  have HBO2 := hide hbo2
  clear hr1 hr2 hz1 hz2 hbo1 hbo2
  obtain ⟨⟨ao, c, rfl, _⟩, _⟩ := hA
  go_enter Try.func4, Try.ntmps4
  go_wp2_with fail
  refine (known8_any _).mono ?_
  rintro e w1 ⟨rfl, hk⟩
  replace HA := hide ((unhide HA).below hk)
  replace HL1 := hide (IRow.below hk (unhide HL1))
  replace HL2 := hide (IRow.below hk (unhide HL2))
  have HT := hide hk
  clear hk
  go_wp2_with fail
  refine (data_any _ _ b 48 (by omega) _ (unhide HA)).mono ?_
  rintro e w2 ⟨v2, d, rfl, hld, hbd, hF, hk⟩
  replace HL1 := hide (IRow.below hk (unhide HL1))
  replace HL2 := hide (IRow.below hk (unhide HL2))
  replace HT := hide ((unhide HT).trans (hk.mono (unhide HT).size))
  have HT2 := hide (unhide HT)
  obtain ⟨gd, hD, _⟩ := hF.arg hbd
  have HD := hide hD
  have HD2 := hide hD
  obtain ⟨to, tc, hv⟩ := Fr.shape hF
  rw [hld] at hv
  subst hv
  clear hF hk HA hD
  go_wp2_with fail
  refine (noise_any ao1 g1 len1 cap1 zs (unhide HZ1) (unhide HL1) hcp1 hm1 (unhide HBO1) hsz 3 (by omega)).mono ?_
  rintro e w3 ⟨v3, A, B, rfl, hPA, hPB, hAm, hBm, hO, hk⟩
  replace HD := hide ((unhide HD).below hk)
  replace HL2 := hide (IRow.below hk (unhide HL2))
  replace HT := hide ((unhide HT).trans (hk.mono (unhide HT).size))
  have hw23 := hk.size
  have HK23 := hide hk
  have HPA := hide hPA
  have HPB := hide hPB
  obtain ⟨po, pc, pg, rfl, hZ⟩ := hO.za (fun k h => by
    unfold psOf at h
    simp only [List.append_nil, List.mem_append, List.mem_map] at h
    rcases h with ⟨x, h1, rfl⟩ | ⟨x, h1, rfl⟩
    · have := hPA.lt x h1; omega
    · have := hPB.lt x h1; omega)
  have HZ := hide hZ
  have HO := hide hO
  have hpl := ps_len A B []
  rw [List.length_nil, Nat.add_zero] at hpl
  obtain ⟨np, hnp⟩ : ∃ np, (psOf A B []).length = np := ⟨_, rfl⟩
  rw [hnp] at HZ hpl ⊢
  rw [hnp] at HO
  have HNP := hide hnp
  have hpl1 : np ≤ A.length + B.length := by omega
  have hpl2 : A.length + B.length ≤ np := by omega
  clear hO hZ hk hPA hPB hnp HL1 HZ1 HBO1 hpl
  go_wp2_with fail
  go_loopw [12, 13, 14] (fun f s p wr => ∃ i : Nat, p = .int .i64 (i : Int) ∧ i ≤ np ∧ f = .int .i64 ((min i A.length : Nat) : Int) ∧ s = .int .i64 ((i - A.length : Nat) : Int) ∧ wr = w3) (fun _ _ p _ => np - (intOf p).toNat)
  case atStart => exact ⟨0, rfl, by omega, by simp, by simp, rfl⟩
  case round =>
    obtain ⟨i, rfl, hi, rfl, rfl, rfl⟩ := hrel
    by_cases hlt : i < np
    · have hi1 : (i : Int) < (np : Int) := by omega
      obtain ⟨so, rfl, hcl⟩ := irow_some' (zarg_row (unhide HZ)) (by rw [ints_len, unhide HNP]; omega)
      have hc := hcl i (by rw [ints_len, unhide HNP]; exact hlt)
      rw [ints_getD] at hc
      by_cases hA : i < A.length
      · rw [cf_psA hA] at hc
        have hlt2 := (unhide HPA).lt _ (cf_memb hA)
        obtain ⟨k, hk⟩ : ∃ k, 32 + cf A i = k := ⟨_, rfl⟩
        rw [hk] at hc
        have hk2 : (k : Int) < 256 := by omega
        have e1 : min i A.length = i := by omega
        have e2 : i - A.length = 0 := by omega
        have e3 : min (i + 1) A.length = i + 1 := by omega
        have e4 : i + 1 - A.length = 0 := by omega
        rw [e1, e2]
        clear hcl hk
        go_wp2_with fail
        go_roundw
        case rel => exact ⟨i + 1, by go_num, by omega, by rw [e3]; go_num, by rw [e4], by trivial⟩
        case measure => simp [intOf]; omega
      · rw [cf_psB hA (by omega)] at hc
        obtain ⟨k, hk⟩ : ∃ k, 256 + cf B (i - A.length) = k := ⟨_, rfl⟩
        rw [hk] at hc
        have hlt2 := (unhide HPB).lt _ (cf_memb (l := B) (i := i - A.length) (by omega))
        have hk2 : ¬ (k : Int) < 256 := by omega
        have hk3 : (k : Int) ≤ 9223372036854775807 := by omega
        have e1 : min i A.length = A.length := by omega
        obtain ⟨j, hj⟩ : ∃ j, i - A.length = j := ⟨_, rfl⟩
        have e3 : min (i + 1) A.length = A.length := by omega
        have e4 : i + 1 - A.length = j + 1 := by omega
        rw [e1, hj]
        clear hcl hk hlt2
        go_wp2_with fail
        go_roundw
        case rel => exact ⟨i + 1, by go_num, by omega, by rw [e3], by rw [e4]; go_num, by trivial⟩
        case measure => simp [intOf]; omega
    · have hi2 : i = np := by omega
      subst hi2
      have hi1 : ¬ (i : Int) < (i : Int) := by omega
      have e1 : min i A.length = A.length := by omega
      have e2 : i - A.length = B.length := by omega
      rw [e1, e2]
      go_wp2_with fail
      refine (rpencode_any _ gd d _ (unhide HD) hld).mono ?_
      rintro e w4 ⟨v4, rfl, hF, hk⟩
      replace HD := hide ((unhide HD).below hk)
      replace HL2 := hide (IRow.below hk (unhide HL2))
      have HO4 := hide (OwnI.below (unhide HO) hk)
      have HT4 := hide ((unhide HT).trans (hk.mono (unhide HT).size))
      have hw24 := hk.size
      have HK34 := hide hk
      have hob : ∀ k, (Value.slice po i pc).ownBlock = some k → k < wr.heap.size := fun k e => (World.ownsRow.lt (unhide HO) k e).2
      have HOB := hide hob
      obtain ⟨ge, hE, hge⟩ := hF.arg (pageF_bs hbd)
      have HE := hide hE
      obtain ⟨eo, ec, hv⟩ := Fr.shape hF
      rw [pageF_len hld] at hv
      subst hv
      clear hF hk hE HO HZ hob
      go_wp2_with fail
      refine (places_any ao2 g2 len2 cap2 ys (unhide HZ2) (unhide HL2) hcp2 hm2 (unhide HBO2) 32 16 (by omega) (by omega) (by omega)).mono ?_
      rintro e w5 ⟨v5, M, rfl, hMn, hMl, hMm, hOM, hk⟩
      have HPL : Hid (Pl8 A B M) := ⟨unhide HPA, unhide HPB, hMn, hMl⟩
      replace HD := hide ((unhide HD).below hk)
      replace HE := hide ((unhide HE).below hk)
      have HO5 : Hid (OwnZ w2.heap.size w5 (.slice po i pc) (ints (psOf A B []))) := by
        have h := (unhide HO4).below hk
        unfold OwnI at h
        unfold OwnZ
        rw [ints_len]
        exact h
      have HT5 := hide ((unhide HT4).trans (hk.mono (unhide HT4).size))
      have hw25 := hk.size
      have HK25 : Hid (Below w2.heap.size w2 w5) := ((unhide HK23).trans ((unhide HK34).mono hw23)).trans (hk.mono (by omega))
      obtain ⟨mo, mc, mg, rfl, hZM⟩ := hOM.za (fun k h => by have := hMl k h; omega)
      obtain ⟨mo', mc', hmv, hm1', hm2', hm3', hm4'⟩ := hZM.ex
      rw [ints_len] at hmv hm1'
      cases hmv
      have HMR := hide hm4'
      have HMN : Hid (mo = none → M.length = 0 ∧ mc = 0) := fun h => ⟨by have := hm3' h; omega, hm3' h⟩
      have HLM : Hid ((ints M).length = M.length) := ints_len M
      have hlen5 : (ints (psOf A B [])).length + M.length ≤ 1000000 := by rw [ints_len, unhide HNP]; omega
      clear hOM hk hMn hMl hZM hm1' hm2' hm3' hm4' HO4 HL2
      go_wp2_with (at_builtin; refine wpList_plain rfl (fun K hK => ?_); refine wp_append_z (.tmp 41) (.tmp 43) (by rfl) w2.heap.size _ (ints (psOf A B [])) (ints M) (by rfl) (unhide HO5) mo mg M.length mc (by rfl) (unhide HLM) (unhide HMR) (unhide HMN) hlen5 (by omega) ?_)
      intro v6 w6 hO6 hg
      refine hK _ _ ?_
      rw [ps_ints] at hO6
      have hbM := (unhide HPL).ml
      obtain ⟨qo, qc, qg, rfl, hZ6, _⟩ := hO6.za (by
        intro z hz
        obtain ⟨k, h1, rfl⟩ := List.mem_map.1 hz
        unfold psOf at h1
        simp only [List.mem_append, List.mem_map] at h1
        rcases h1 with (⟨x, h1, rfl⟩ | ⟨x, h1, rfl⟩) | h1
        · have := (unhide HPA).lt x h1; omega
        · have := (unhide HPB).lt x h1; omega
        · have := hbM k h1; omega)
      rw [ints_len] at hZ6 ⊢
      have HZ6 := hide hZ6
      have hwk : Below w2.heap.size w5 w6 := ((Below.refl _ w5).mono (by omega)).grown hg (by omega) (fun k e => OwnZ.row (unhide HO5) k e)
      have hkp : Kp ((Value.slice po i pc).ownBlock.toList) w5 w6 := ⟨hg.os, hg.tape, hg.output, hg.size, fun k hk hn => hg.block k hk (fun e => hn (by rw [← e]; simp))⟩
      have HE6 := hide ((unhide HE).keep hkp (fun h => by have := unhide HOB ge (by simpa using h); omega))
      have HK26 : Hid (Below w2.heap.size w2 w6) := (unhide HK25).trans hwk
      have HD6 := hide ((unhide HD2).below (unhide HK26))
      have HT6 := hide ((unhide HT5).trans (hwk.mono (by have := (unhide HT2).size; omega)))
      obtain ⟨nq, hnq⟩ : ∃ nq, (psOf A B M).length = nq := ⟨_, rfl⟩
      rw [hnq] at HZ6 ⊢
      clear hO6 hg hK hZ6 hwk hkp hbM hnq HE HO5 HMR HMN HLM HT5 HT4 HOB HK25
      go_wp2_with fail
      refine (rflip_any _ _ ge qg (pageF d) (ints (psOf A B M)) _ (unhide HE6) (unhide HZ6) (by rw [pageF_len hld]; omega)).mono ?_
      rintro e w7 ⟨v7, rfl, hF, hk⟩
      replace HD6 := hide ((unhide HD6).below hk)
      replace HT6 := hide ((unhide HT6).trans (hk.mono (unhide HT6).size))
      have hfl : (flipZ (pageF d) (ints (psOf A B M))).length = 60 := by rw [flipZ_len, pageF_len hld]
      obtain ⟨gf, hA7, _⟩ := hF.arg (flipZ_bs (pageF_bs hbd) _)
      have HF := hide hA7
      obtain ⟨fo, fc, hv⟩ := Fr.shape hF
      rw [hfl] at hv
      subst hv
      clear hF hk hA7 HE6 HZ6 hfl
      go_wp2_with fail
      refine (pdecode_any _ gf _ _ (unhide HF)).mono ?_
      rintro e w8 ⟨v8, rfl, hF, hk⟩
      replace HD6 := hide ((unhide HD6).below hk)
      replace HT6 := hide ((unhide HT6).trans (hk.mono (unhide HT6).size))
      obtain ⟨_, p2, p3⟩ := page_turned (unhide HPL) hld hbd
      have hA3' : ¬ (3 : Int) < (A.length : Int) := by omega
      have hB3' : ¬ (3 : Int) < (B.length : Int) := by omega
      rw [p2 (by omega) (by omega) (by omega)] at hF ⊢
      obtain ⟨gq, hAq, _⟩ := hF.arg hbd
      obtain ⟨so, sc, hv⟩ := Fr.shape hF
      rw [hld] at hv
      subst hv
      have hal := (Below.refl w8.heap.size w8).alloc (Nat.le_refl _) (.cells #[.int .i64 2, .slice so 48 sc] 32)
      have hc1 := conv_arg (hAq.below hal)
      have hc2 := conv_arg ((unhide HD6).below hal)
      clear hF hk p2 p3 HF hAq hal
      go_wp2
      go_ret
      exact ⟨rfl, (unhide HT6).alloc (unhide HT6).size _⟩

set_option maxRecDepth 100000 in
set_option maxHeartbeats 16000000 in
theorem pmends_t (va : Value) (ga : Nat) (b : List Nat) (w : World) (hA : Arg w va ga b) (ao1 : Option Addr) (g1 len1 cap1 : Nat) (zs : List Int) (hz1 : zs.length = len1) (hr1 : IRow w ao1 g1 zs) (hcp1 : len1 ≤ cap1) (hm1 : cap1 ≤ maxLen) (hbo1 : ∀ z ∈ zs, -9223372036854775808 ≤ z ∧ z ≤ 9223372036854775807) (hsz : len1 * 8 ≤ 140737488351232)
    (ao2 : Option Addr) (g2 len2 cap2 : Nat) (ys : List Int) (hz2 : ys.length = len2) (hr2 : IRow w ao2 g2 ys) (hcp2 : len2 ≤ cap2) (hm2 : cap2 ≤ maxLen) (hbo2 : ∀ z ∈ ys, -9223372036854775808 ≤ z ∧ z ≤ 9223372036854775807) :
    Calls Try.prog 4 #[va, .slice ao1 len1 cap1, .slice ao2 len2 cap2, .bool true] w fun x w' => x = .returned (.bool true) ∧ Below w.heap.size w w' := by
  have HA := hide hA
  have HL1 := hide hr1
  have HL2 := hide hr2
  have HZ1 := hide hz1
  have HZ2 := hide hz2
  have HBO1 := hide hbo1
  have HBO2 := hide hbo2
  clear hr1 hr2 hz1 hz2 hbo1 hbo2
  obtain ⟨⟨ao, c, rfl, _⟩, _⟩ := hA
  go_enter Try.func4, Try.ntmps4
  go_wp2_with fail
  refine (known8_any _).mono ?_
  rintro e w1 ⟨rfl, hk⟩
  replace HA := hide ((unhide HA).below hk)
  replace HL1 := hide (IRow.below hk (unhide HL1))
  replace HL2 := hide (IRow.below hk (unhide HL2))
  have HT := hide hk
  clear hk
  go_wp2_with fail
  refine (data_any _ _ b 48 (by omega) _ (unhide HA)).mono ?_
  rintro e w2 ⟨v2, d, rfl, hld, hbd, hF, hk⟩
  replace HL1 := hide (IRow.below hk (unhide HL1))
  replace HL2 := hide (IRow.below hk (unhide HL2))
  replace HT := hide ((unhide HT).trans (hk.mono (unhide HT).size))
  have HT2 := hide (unhide HT)
  obtain ⟨gd, hD, _⟩ := hF.arg hbd
  have HD := hide hD
  have HD2 := hide hD
  obtain ⟨to, tc, hv⟩ := Fr.shape hF
  rw [hld] at hv
  subst hv
  clear hF hk HA hD
  go_wp2_with fail
  refine (noise_any ao1 g1 len1 cap1 zs (unhide HZ1) (unhide HL1) hcp1 hm1 (unhide HBO1) hsz 5 (by omega)).mono ?_
  rintro e w3 ⟨v3, A, B, rfl, hPA, hPB, hAm, hBm, hO, hk⟩
  replace HD := hide ((unhide HD).below hk)
  replace HL2 := hide (IRow.below hk (unhide HL2))
  replace HT := hide ((unhide HT).trans (hk.mono (unhide HT).size))
  have hw23 := hk.size
  have HK23 := hide hk
  have HPA := hide hPA
  have HPB := hide hPB
  obtain ⟨po, pc, pg, rfl, hZ⟩ := hO.za (fun k h => by
    unfold psOf at h
    simp only [List.append_nil, List.mem_append, List.mem_map] at h
    rcases h with ⟨x, h1, rfl⟩ | ⟨x, h1, rfl⟩
    · have := hPA.lt x h1; omega
    · have := hPB.lt x h1; omega)
  have HZ := hide hZ
  have HO := hide hO
  have hpl := ps_len A B []
  rw [List.length_nil, Nat.add_zero] at hpl
  obtain ⟨np, hnp⟩ : ∃ np, (psOf A B []).length = np := ⟨_, rfl⟩
  rw [hnp] at HZ hpl ⊢
  rw [hnp] at HO
  have HNP := hide hnp
  have hpl1 : np ≤ A.length + B.length := by omega
  have hpl2 : A.length + B.length ≤ np := by omega
  clear hO hZ hk hPA hPB hnp HL1 HZ1 HBO1 hpl
  go_wp2_with fail
  go_loopw [12, 13, 14] (fun f s p wr => ∃ i : Nat, p = .int .i64 (i : Int) ∧ i ≤ np ∧ f = .int .i64 ((min i A.length : Nat) : Int) ∧ s = .int .i64 ((i - A.length : Nat) : Int) ∧ wr = w3) (fun _ _ p _ => np - (intOf p).toNat)
  case atStart => exact ⟨0, rfl, by omega, by simp, by simp, rfl⟩
  case round =>
    obtain ⟨i, rfl, hi, rfl, rfl, rfl⟩ := hrel
    by_cases hlt : i < np
    · have hi1 : (i : Int) < (np : Int) := by omega
      obtain ⟨so, rfl, hcl⟩ := irow_some' (zarg_row (unhide HZ)) (by rw [ints_len, unhide HNP]; omega)
      have hc := hcl i (by rw [ints_len, unhide HNP]; exact hlt)
      rw [ints_getD] at hc
      by_cases hA : i < A.length
      · rw [cf_psA hA] at hc
        have hlt2 := (unhide HPA).lt _ (cf_memb hA)
        obtain ⟨k, hk⟩ : ∃ k, 32 + cf A i = k := ⟨_, rfl⟩
        rw [hk] at hc
        have hk2 : (k : Int) < 256 := by omega
        have e1 : min i A.length = i := by omega
        have e2 : i - A.length = 0 := by omega
        have e3 : min (i + 1) A.length = i + 1 := by omega
        have e4 : i + 1 - A.length = 0 := by omega
        rw [e1, e2]
        clear hcl hk
        go_wp2_with fail
        go_roundw
        case rel => exact ⟨i + 1, by go_num, by omega, by rw [e3]; go_num, by rw [e4], by trivial⟩
        case measure => simp [intOf]; omega
      · rw [cf_psB hA (by omega)] at hc
        obtain ⟨k, hk⟩ : ∃ k, 256 + cf B (i - A.length) = k := ⟨_, rfl⟩
        rw [hk] at hc
        have hlt2 := (unhide HPB).lt _ (cf_memb (l := B) (i := i - A.length) (by omega))
        have hk2 : ¬ (k : Int) < 256 := by omega
        have hk3 : (k : Int) ≤ 9223372036854775807 := by omega
        have e1 : min i A.length = A.length := by omega
        obtain ⟨j, hj⟩ : ∃ j, i - A.length = j := ⟨_, rfl⟩
        have e3 : min (i + 1) A.length = A.length := by omega
        have e4 : i + 1 - A.length = j + 1 := by omega
        rw [e1, hj]
        clear hcl hk hlt2
        go_wp2_with fail
        go_roundw
        case rel => exact ⟨i + 1, by go_num, by omega, by rw [e3], by rw [e4]; go_num, by trivial⟩
        case measure => simp [intOf]; omega
    · have hi2 : i = np := by omega
      subst hi2
      have hi1 : ¬ (i : Int) < (i : Int) := by omega
      have e1 : min i A.length = A.length := by omega
      have e2 : i - A.length = B.length := by omega
      rw [e1, e2]
      go_wp2_with fail
      refine (rpencode_any _ gd d _ (unhide HD) hld).mono ?_
      rintro e w4 ⟨v4, rfl, hF, hk⟩
      replace HD := hide ((unhide HD).below hk)
      replace HL2 := hide (IRow.below hk (unhide HL2))
      have HO4 := hide (OwnI.below (unhide HO) hk)
      have HT4 := hide ((unhide HT).trans (hk.mono (unhide HT).size))
      have hw24 := hk.size
      have HK34 := hide hk
      have hob : ∀ k, (Value.slice po i pc).ownBlock = some k → k < wr.heap.size := fun k e => (World.ownsRow.lt (unhide HO) k e).2
      have HOB := hide hob
      obtain ⟨ge, hE, hge⟩ := hF.arg (pageF_bs hbd)
      have HE := hide hE
      obtain ⟨eo, ec, hv⟩ := Fr.shape hF
      rw [pageF_len hld] at hv
      subst hv
      clear hF hk hE HO HZ hob
      go_wp2_with fail
      refine (places_any ao2 g2 len2 cap2 ys (unhide HZ2) (unhide HL2) hcp2 hm2 (unhide HBO2) 32 16 (by omega) (by omega) (by omega)).mono ?_
      rintro e w5 ⟨v5, M, rfl, hMn, hMl, hMm, hOM, hk⟩
      have HPL : Hid (Pl8 A B M) := ⟨unhide HPA, unhide HPB, hMn, hMl⟩
      replace HD := hide ((unhide HD).below hk)
      replace HE := hide ((unhide HE).below hk)
      have HO5 : Hid (OwnZ w2.heap.size w5 (.slice po i pc) (ints (psOf A B []))) := by
        have h := (unhide HO4).below hk
        unfold OwnI at h
        unfold OwnZ
        rw [ints_len]
        exact h
      have HT5 := hide ((unhide HT4).trans (hk.mono (unhide HT4).size))
      have hw25 := hk.size
      have HK25 : Hid (Below w2.heap.size w2 w5) := ((unhide HK23).trans ((unhide HK34).mono hw23)).trans (hk.mono (by omega))
      obtain ⟨mo, mc, mg, rfl, hZM⟩ := hOM.za (fun k h => by have := hMl k h; omega)
      obtain ⟨mo', mc', hmv, hm1', hm2', hm3', hm4'⟩ := hZM.ex
      rw [ints_len] at hmv hm1'
      cases hmv
      have HMR := hide hm4'
      have HMN : Hid (mo = none → M.length = 0 ∧ mc = 0) := fun h => ⟨by have := hm3' h; omega, hm3' h⟩
      have HLM : Hid ((ints M).length = M.length) := ints_len M
      have hlen5 : (ints (psOf A B [])).length + M.length ≤ 1000000 := by rw [ints_len, unhide HNP]; omega
      clear hOM hk hMn hMl hZM hm1' hm2' hm3' hm4' HO4 HL2
      go_wp2_with (at_builtin; refine wpList_plain rfl (fun K hK => ?_); refine wp_append_z (.tmp 41) (.tmp 43) (by rfl) w2.heap.size _ (ints (psOf A B [])) (ints M) (by rfl) (unhide HO5) mo mg M.length mc (by rfl) (unhide HLM) (unhide HMR) (unhide HMN) hlen5 (by omega) ?_)
      intro v6 w6 hO6 hg
      refine hK _ _ ?_
      rw [ps_ints] at hO6
      have hbM := (unhide HPL).ml
      obtain ⟨qo, qc, qg, rfl, hZ6, _⟩ := hO6.za (by
        intro z hz
        obtain ⟨k, h1, rfl⟩ := List.mem_map.1 hz
        unfold psOf at h1
        simp only [List.mem_append, List.mem_map] at h1
        rcases h1 with (⟨x, h1, rfl⟩ | ⟨x, h1, rfl⟩) | h1
        · have := (unhide HPA).lt x h1; omega
        · have := (unhide HPB).lt x h1; omega
        · have := hbM k h1; omega)
      rw [ints_len] at hZ6 ⊢
      have HZ6 := hide hZ6
      have hwk : Below w2.heap.size w5 w6 := ((Below.refl _ w5).mono (by omega)).grown hg (by omega) (fun k e => OwnZ.row (unhide HO5) k e)
      have hkp : Kp ((Value.slice po i pc).ownBlock.toList) w5 w6 := ⟨hg.os, hg.tape, hg.output, hg.size, fun k hk hn => hg.block k hk (fun e => hn (by rw [← e]; simp))⟩
      have HE6 := hide ((unhide HE).keep hkp (fun h => by have := unhide HOB ge (by simpa using h); omega))
      have HK26 : Hid (Below w2.heap.size w2 w6) := (unhide HK25).trans hwk
      have HD6 := hide ((unhide HD2).below (unhide HK26))
      have HT6 := hide ((unhide HT5).trans (hwk.mono (by have := (unhide HT2).size; omega)))
      obtain ⟨nq, hnq⟩ : ∃ nq, (psOf A B M).length = nq := ⟨_, rfl⟩
      rw [hnq] at HZ6 ⊢
      clear hO6 hg hK hZ6 hwk hkp hbM hnq HE HO5 HMR HMN HLM HT5 HT4 HOB HK25
      go_wp2_with fail
      refine (rflip_any _ _ ge qg (pageF d) (ints (psOf A B M)) _ (unhide HE6) (unhide HZ6) (by rw [pageF_len hld]; omega)).mono ?_
      rintro e w7 ⟨v7, rfl, hF, hk⟩
      replace HD6 := hide ((unhide HD6).below hk)
      replace HT6 := hide ((unhide HT6).trans (hk.mono (unhide HT6).size))
      have hfl : (flipZ (pageF d) (ints (psOf A B M))).length = 60 := by rw [flipZ_len, pageF_len hld]
      obtain ⟨gf, hA7, _⟩ := hF.arg (flipZ_bs (pageF_bs hbd) _)
      have HF := hide hA7
      obtain ⟨fo, fc, hv⟩ := Fr.shape hF
      rw [hfl] at hv
      subst hv
      clear hF hk hA7 HE6 HZ6 hfl
      go_wp2_with fail
      refine (pdecode_any _ gf _ _ (unhide HF)).mono ?_
      rintro e w8 ⟨v8, rfl, hF, hk⟩
      replace HD6 := hide ((unhide HD6).below hk)
      replace HT6 := hide ((unhide HT6).trans (hk.mono (unhide HT6).size))
      obtain ⟨_, p2, p3⟩ := page_turned (unhide HPL) hld hbd
      by_cases hA3 : 3 < A.length
      · have hA3' : (3 : Int) < (A.length : Int) := by omega
        rw [p3 (by omega) (.inl ⟨by omega, by omega⟩)] at hF ⊢
        obtain ⟨so, sc, hv⟩ := Fr.shape hF
        subst hv
        clear hF hk p2 p3 HF
        go_wp2
        go_ret
        exact ⟨rfl, (unhide HT6).alloc (unhide HT6).size _⟩
      · have hA3' : ¬ (3 : Int) < (A.length : Int) := by omega
        by_cases hB3 : 3 < B.length
        · have hB3' : (3 : Int) < (B.length : Int) := by omega
          rw [p3 (by omega) (.inr ⟨by omega, by omega⟩)] at hF ⊢
          obtain ⟨so, sc, hv⟩ := Fr.shape hF
          subst hv
          clear hF hk p2 p3 HF
          go_wp2
          go_ret
          exact ⟨rfl, (unhide HT6).alloc (unhide HT6).size _⟩
        · have hB3' : ¬ (3 : Int) < (B.length : Int) := by omega
          rw [p2 (by omega) (by omega) (by omega)] at hF ⊢
          obtain ⟨gq, hAq, _⟩ := hF.arg hbd
          obtain ⟨so, sc, hv⟩ := Fr.shape hF
          rw [hld] at hv
          subst hv
          have hal := (Below.refl w8.heap.size w8).alloc (Nat.le_refl _) (.cells #[.int .i64 2, .slice so 48 sc] 32)
          have hc1 := conv_arg (hAq.below hal)
          have hc2 := conv_arg ((unhide HD6).below hal)
          clear hF hk p2 p3 HF hAq hal
          go_wp2
          go_ret
          exact ⟨rfl, (unhide HT6).alloc (unhide HT6).size _⟩

theorem pmends_walk (va : Value) (ga : Nat) (b : List Nat) (w : World) (hA : Arg w va ga b) (ao1 : Option Addr) (g1 len1 cap1 : Nat) (zs : List Int) (hz1 : zs.length = len1) (hr1 : IRow w ao1 g1 zs) (hcp1 : len1 ≤ cap1) (hm1 : cap1 ≤ maxLen) (hbo1 : ∀ z ∈ zs, -9223372036854775808 ≤ z ∧ z ≤ 9223372036854775807) (hsz : len1 * 8 ≤ 140737488351232)
    (ao2 : Option Addr) (g2 len2 cap2 : Nat) (ys : List Int) (hz2 : ys.length = len2) (hr2 : IRow w ao2 g2 ys) (hcp2 : len2 ≤ cap2) (hm2 : cap2 ≤ maxLen) (hbo2 : ∀ z ∈ ys, -9223372036854775808 ≤ z ∧ z ≤ 9223372036854775807) (heavy : Bool) :
    Calls Try.prog 4 #[va, .slice ao1 len1 cap1, .slice ao2 len2 cap2, .bool heavy] w fun x w' => x = .returned (.bool true) ∧ Below w.heap.size w w' := by
  cases heavy with
  | false => exact pmends_f va ga b w hA ao1 g1 len1 cap1 zs hz1 hr1 hcp1 hm1 hbo1 hsz ao2 g2 len2 cap2 ys hz2 hr2 hcp2 hm2 hbo2
  | true => exact pmends_t va ga b w hA ao1 g1 len1 cap1 zs hz1 hr1 hcp1 hm1 hbo1 hsz ao2 g2 len2 cap2 ys hz2 hr2 hcp2 hm2 hbo2

end Go.Proofs.Ytkhpoomajebgoaa
