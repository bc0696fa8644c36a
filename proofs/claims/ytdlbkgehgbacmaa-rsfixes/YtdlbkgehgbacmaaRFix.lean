/-
  RsFixes' walk.
-/
import Derived.Test.YtdlbkgehgbacmaaT5
import Derived.Test.YtdlbkgehgbacmaaHp5
import Derived.Test.YtdlbkgehgbacmaaR5a
namespace Go.Proofs.Ytdlbkgehgbacmaa
open Go.RowKit

theorem pk_places {ps : List Nat} {n : Nat} (h2 : ps.length ≤ 2) (hnd : ps.Nodup) (hb : ∀ k ∈ ps, k < n) : pk (ints ps) n = true :=
  pk_of ⟨by rw [ints_len]; exact h2, fun z hz => by obtain ⟨k, hk, rfl⟩ := List.mem_map.1 hz; have := hb k hk; omega, ints_nodup hnd⟩
theorem keep_ints {ps : List Nat} {i : Nat} : keep (ints ps) i = true ↔ i ∉ ps := by
  unfold keep ints
  rw [Bool.not_eq_true', decide_eq_false_iff_not, List.mem_map]
  exact not_congr ⟨fun ⟨x, hx, e⟩ => by have h : x = i := by omega
                                        exact h ▸ hx, fun h => ⟨i, h, rfl⟩⟩

set_option maxRecDepth 100000 in
set_option maxHeartbeats 16000000 in
theorem rfix_walk {w : World} (v : Value) (gb : Nat) (b : List Nat) (n0 s0 : Int) (zo : Option Addr) (gz zlen zcap : Nat) (zr : List Int) (hzl : zr.length = zlen) (hzr : IRow w zo gz zr) (hzc : zlen ≤ zcap) (hzm : zcap ≤ maxLen) (hzb : ∀ z ∈ zr, -9223372036854775808 ≤ z ∧ z ≤ 9223372036854775807) (vj : Value) (gj : Nat) (jk : List Nat) (hA : Arg w v gb b) (hJ : Arg w vj gj jk) :
    Calls Try.prog 4 #[v, .int .i64 n0, .int .i64 s0, .slice zo zlen zcap, vj] w fun e w' => e = .returned (.bool true) ∧ Below w.heap.size w w' := by
  have HA := hide hA
  have HJ := hide hJ
  have HZR := hide hzr
  have HZL := hide hzl
  have HZB := hide hzb
  obtain ⟨ao, c, hv, _⟩ := hA.ex
  obtain ⟨jo, jc, hvj, _⟩ := hJ.ex
  subst hv
  subst hvj
  obtain ⟨jn, hjn⟩ : ∃ jn, jk.length = jn := ⟨_, rfl⟩
  rw [hjn] at HJ ⊢
  have HJN := hide hjn
  clear hA hJ hzr hzl hzb hjn
  obtain ⟨i0, hi0, hz0, hz1, hz2⟩ := info_parts infoR
  have HI := hide hi0
  clear hi0
  go_enter Try.func4, Try.ntmps4
  go_wp2_with fail
  refine (known_any w).mono ?_
  rintro e w1 ⟨rfl, hk⟩
  have HB := hide hk
  replace HA := hide ((unhide HA).below hk)
  replace HJ := hide ((unhide HJ).below hk)
  replace HZR := hide ((unhide HZR).below hk)
  clear hk
  by_cases hj40 : 40 < jn
  · have e1 : (40 : Int) < (jn : Int) := by omega
    go_wp2_with fail
    go_ret
    exact ⟨rfl, unhide HB⟩
  have e1 : (jn : Int) ≤ 40 := by omega
  go_wp2_with fail
  refine (within_any n0 13 w1 (by omega) (by omega)).mono ?_
  rintro e w2 ⟨rfl, hw2⟩
  subst hw2
  obtain ⟨m, hm⟩ : ∃ m : Nat, n0 % 13 = (m : Int) := ⟨(n0 % 13).toNat, by omega⟩
  have hm12 : m < 13 := by omega
  rw [hm]
  clear hm
  obtain ⟨n, hn⟩ : ∃ n, 2 + m = n := ⟨_, rfl⟩
  have hn1 : (2 : Int) + (m : Int) = (n : Int) := by omega
  have hn2 : 2 ≤ n ∧ n ≤ 14 := by omega
  obtain ⟨hn2, hn3⟩ := hn2
  clear hn hm12
  go_wp2_with fail
  refine (within_any s0 20 w2 (by omega) (by omega)).mono ?_
  rintro e w3 ⟨rfl, hw3⟩
  subst hw3
  obtain ⟨s, hs⟩ : ∃ s : Nat, s0 % 20 = (s : Int) := ⟨(s0 % 20).toNat, by omega⟩
  have hs20 : s < 20 := by omega
  rw [hs]
  clear hs
  go_wp2_with fail
  refine (rows_any _ gb b n s (by omega) (by omega) w3 (unhide HA)).mono ?_
  rintro e w4 ⟨v9, ps, l, rfl, hO, hl, hs, hk⟩
  replace HB := hide ((unhide HB).trans (hk.mono (unhide HB).size))
  replace HJ := hide ((unhide HJ).below hk)
  replace HZR := hide ((unhide HZR).below hk)
  obtain ⟨g9, c9, rfl, _, hg9l, _⟩ := hO.some hl (by omega)
  have HO := hide hO
  have HL := hide hl
  have HS := hide hs
  have HBL : Hid (∀ i, Bs (l.getD i [])) := hO.bs
  clear hO hl hs hk HA
  go_wp2_with fail
  obtain ⟨G, hR, _⟩ := (unhide HO).arg
  refine (rparity_any _ G _ _ l w4 hR (len_of (unhide HL) (unhide HS) (by omega))).mono ?_
  clear hR
  rintro e w5 ⟨v1, v2, rfl, hP, hQ, hk⟩
  replace HB := hide ((unhide HB).trans (hk.mono (unhide HB).size))
  replace HJ := hide ((unhide HJ).below hk)
  replace HZR := hide ((unhide HZR).below hk)
  replace HO := hide ((unhide HO).below hk)
  obtain ⟨hok, hsz⟩ := okP_of (unhide HL) hn2 hn3 (unhide HS)
  have hlP : (pP l).length = s := by rw [(par_of hok).1, smL_len, hsz]
  have hlQ : (pQ l).length = s := by rw [(par_of hok).2, smL_len, hsz]
  obtain ⟨gP, hAP, _⟩ := hP.arg (par_bs (unhide HBL)).1
  obtain ⟨gQ, hAQ, _⟩ := hQ.arg (par_bs (unhide HBL)).2
  obtain ⟨aP, cP, hvP, _⟩ := hAP.ex
  obtain ⟨aQ, cQ, hvQ, _⟩ := hAQ.ex
  rw [hlP] at hvP
  rw [hlQ] at hvQ
  subst hvP
  subst hvQ
  have HAP := hide hAP
  have HAQ := hide hAQ
  have HLP := hide hlP
  have HLQ := hide hlQ
  clear hAP hAQ hP hQ hlP hlQ hk hok hsz
  have HE : Hid (OwnR w5.heap.size (w5.alloc (.cells #[] 22)) (.slice (some ⟨w5.heap.size, 0, none⟩) 0 0) [] []) := own_empty w5
  have hke : Below w5.heap.size w5 (w5.alloc (.cells #[] 22)) := (Below.refl _ _).alloc (Nat.le_refl _) _
  have HOE := hide ((unhide HO).below hke)
  have HKE := hide hke
  clear hke
  go_wp2_with (at_builtin; refine wpList_append_vals _ rfl _ _ 23 rfl w5.heap.size 22 i0 Try.underlying23 (unhide HI) hz0 hz1 hz2 (.slice (some ⟨w5.heap.size, 0, none⟩) 0 0) 0 [] rfl (unhide HE).own (some ⟨g9, 0, none⟩) g9 n c9 (vals ps l) rfl (by rw [vals_len (unhide HOE).len]; exact unhide HL) (unhide HOE).src (vals_one _ _) (fun h => by cases h) (by omega) (by simp) ?_)
  intro v8 w6 ho hg
  have hkX : Below w5.heap.size w5 w6 := below_grown (unhide HKE) hg (by simp) (unhide HE).row
  have hOX : OwnR w5.heap.size w6 v8 ps l := (unhide HE).app (unhide HL) (unhide HO).len ho (fun i hi => by obtain ⟨g, h⟩ := (unhide HO).rows i hi; exact ⟨g, h.below hkX⟩)
  obtain ⟨gX, cX, rfl, hgX, hgXl, hcX, hcXm, _⟩ := hOX.some (unhide HL) (by omega)
  have hzX := hkX.size
  have HOX := hide hOX
  have HKX := hide hkX
  clear ho hg hkX HE HKE HOE hOX
  have HAP6 := hide ((unhide HAP).below (unhide HKX))
  have HAQ6 := hide ((unhide HAQ).below (unhide HKX))
  have hka : Below w6.heap.size w6 (w6.alloc (.cells #[.slice aP s cP, .slice aQ s cQ] 22)) := (Below.refl _ _).alloc (Nat.le_refl _) _
  have HSRC := hide (two_src w6 aP aQ s s cP cQ)
  have HO6 := hide ((unhide HOX).below hka)
  have HOW : Hid ((w6.alloc (.cells #[.slice aP s cP, .slice aQ s cQ] 22)).ownsRow w5.heap.size 22 1 (.slice (some ⟨gX, 0, none⟩) n cX) n (vals ps l)) := by
    have h := (unhide HO6).own
    rwa [unhide HL] at h
  have HKA := hide hka
  clear hka
  go_wp2_with (at_builtin; refine wpList_append_vals _ rfl _ _ 23 rfl w5.heap.size 22 i0 Try.underlying23 (unhide HI) hz0 hz1 hz2 (.slice (some ⟨gX, 0, none⟩) n cX) n (vals ps l) rfl (unhide HOW) (some ⟨w6.heap.size, 0, none⟩) w6.heap.size 2 2 [.slice aP s cP, .slice aQ s cQ] rfl rfl (unhide HSRC) (by simp [Value.oneCell']) (fun h => by cases h) (by omega) (by simp; omega) ?_)
  intro vB w7 ho hg
  have hkB : Below w5.heap.size w5 w7 := below_grown ((unhide HKX).trans ((unhide HKA).mono (unhide HKX).size)) hg (by simp; omega) (fun k hk => by have e2 : gX = k := Option.some.inj hk; omega)
  have hOB := (unhide HO6).snoc2 (r := (pP l)) (q := (pQ l)) (by rw [unhide HL]; exact ho) (fun i hi => by obtain ⟨g, h⟩ := (unhide HO).rows i hi; exact ⟨g, h.below hkB⟩) (unhide HLP) (unhide HLQ) ⟨_, (unhide HAP).below hkB⟩ ⟨_, (unhide HAQ).below hkB⟩
  have hlB : (l ++ [pP l] ++ [pQ l]).length = n + 2 := by simp [unhide HL]
  obtain ⟨gB, cB, rfl, hgB, hgBl, hcB, hcBm, _⟩ := hOB.some hlB (by omega)
  replace HB := hide ((unhide HB).trans (hkB.mono (unhide HB).size))
  replace HJ := hide ((unhide HJ).below hkB)
  replace HZR := hide ((unhide HZR).below hkB)
  obtain ⟨N, hN⟩ : ∃ N, n + 2 = N := ⟨_, rfl⟩
  rw [hN] at hlB hOB hcB ⊢
  obtain ⟨pa, hpa⟩ : ∃ pa, ps ++ [(aP, cP)] ++ [(aQ, cQ)] = pa := ⟨_, rfl⟩
  obtain ⟨la, hla⟩ : ∃ la, l ++ [pP l] ++ [pQ l] = la := ⟨_, rfl⟩
  rw [hpa, hla] at hOB
  rw [hla] at hlB
  have HLA : Hid (la = withP l) := hla.symm
  clear hpa hla
  have HOB := hide hOB
  have HLB : Hid (la.length = N) := hlB
  have HNN := hide hN
  have hNb : 4 ≤ N ∧ N ≤ 16 := by omega
  obtain ⟨hN4, hN16⟩ := hNb
  clear ho hg hkB hOB hlB HO6 HOW HSRC hN HOX HAP6 HAQ6 HKX HKA
  go_wp2_with fail
  refine (places_any zo gz zlen zcap zr (unhide HZL) (unhide HZR) hzc hzm (unhide HZB) N 2 (by omega) (by omega) (by omega)).mono ?_
  rintro e w8 ⟨v15, pl, rfl, hnd, hplN, hpl2, hOI, hk⟩
  replace HB := hide ((unhide HB).trans (hk.mono (unhide HB).size))
  replace HJ := hide ((unhide HJ).below hk)
  replace HOB := hide ((unhide HOB).below hk)
  obtain ⟨gI, hZA, _⟩ := places_z (n := N) hOI (by omega) hplN
  obtain ⟨aI, cI, hvI, hI1, hI2, hI3, hIR⟩ := hZA.ex
  rw [ints_len] at hvI
  subst hvI
  have HZA := hide hZA
  have HND := hide hnd
  have HPN := hide hplN
  have HIR := hide hIR
  obtain ⟨pn, hpn⟩ : ∃ pn, pl.length = pn := ⟨_, rfl⟩
  rw [hpn] at hpl2 HZA ⊢
  have HPL := hide hpn
  clear hk hOI hZA hnd hplN hIR hI1 hI2 hI3 hpn
  have HE : Hid (OwnR w8.heap.size (w8.alloc (.cells #[] 22)) (.slice (some ⟨w8.heap.size, 0, none⟩) 0 0) [] []) := own_empty w8
  have hke : Below w8.heap.size w8 (w8.alloc (.cells #[] 22)) := (Below.refl _ _).alloc (Nat.le_refl _) _
  have HOE := hide ((unhide HOB).below hke)
  have HKE := hide hke
  clear hke
  go_wp2_with (at_builtin; refine wpList_append_vals _ rfl _ _ 23 rfl w8.heap.size 22 i0 Try.underlying23 (unhide HI) hz0 hz1 hz2 (.slice (some ⟨w8.heap.size, 0, none⟩) 0 0) 0 [] rfl (unhide HE).own (some ⟨gB, 0, none⟩) gB N cB (vals pa la) rfl (by rw [vals_len (unhide HOE).len]; exact unhide HLB) (unhide HOE).src (vals_one _ _) (fun h => by cases h) (by omega) (by simp) ?_)
  intro v16 w9 ho hg
  have hkT : Below w8.heap.size w8 w9 := below_grown (unhide HKE) hg (by simp) (unhide HE).row
  have hOT : OwnR w8.heap.size w9 v16 pa la := (unhide HE).app (unhide HLB) (unhide HOB).len ho (fun i hi => by obtain ⟨g, h⟩ := (unhide HOB).rows i hi; exact ⟨g, h.below hkT⟩)
  obtain ⟨gT, cT, rfl, hgT, hgTl, hcT, hcTm, _⟩ := hOT.some (unhide HLB) (by omega)
  have hzT := hkT.size
  have HOT := hide hOT
  have HKT := hide hkT
  clear ho hg hkT HE HKE HOE hOT
  have HTT := hide (torn_of (unhide HOT) (unhide HLB) (fun j hj => (unhide HOB).rows j (by rw [unhide HLB]; exact hj)) (unhide HKT) hgT)
  go_wp2_with fail
  go_loopw [17] (fun p wr => ∃ (i : Nat) (qs : List (Option Addr × Nat)) (t : List (List Nat)), p = .int .i64 i ∧ i ≤ pn ∧ Torn w8 wr gT N qs t ∧ (∀ j, j < N → j ∉ pl.take i → t.getD j [] = la.getD j []) ∧ (∀ j, (t.getD j []).length ≤ 100000)) (fun p _ => pn - (intOf p).toNat)
  case atStart => exact ⟨0, _, _, rfl, by omega, unhide HTT, fun _ _ _ => rfl, fun j => by
    obtain ⟨h1, _, _, _⟩ := withP_facts (unhide HL) hn2 hn3 (unhide HS) (unhide HBL)
    by_cases hj : j < n + 2
    · have := h1 j hj
      rw [unhide HLA]
      omega
    · rw [List.getD_eq_getElem?_getD, List.getElem?_eq_none (by rw [unhide HLB]; have := unhide HNN; omega)]; simp⟩
  case round =>
    obtain ⟨i, qs, t, rfl, hi, hT, hsame, hlen⟩ := hrel
    have HT := hide hT
    have HSAME := hide hsame
    have HLEN := hide hlen
    clear hT hsame hlen
    by_cases hlt : i < pn
    · have hi1 : (i : Int) < (pn : Int) := by omega
      obtain ⟨oI, rfl, hcI⟩ := irow_some' ((unhide HIR).below (unhide HT).below) (by rw [ints_len, unhide HPL]; omega)
      have hc := hcI i (by rw [ints_len, unhide HPL]; exact hlt)
      rw [ints_getD] at hc
      have hkN : cf pl i < N := unhide HPN _ (cf_memb (by rw [unhide HPL]; exact hlt))
      have HTK : Hid (∀ j, j ∉ pl.take (i + 1) → j ∉ pl.take i ∧ cf pl i ≠ j) := fun j hj => by
        have h := (take_mem (ps := pl) (j := i) (k := j) (by rw [unhide HPL]; exact hlt))
        exact ⟨fun h1 => hj (h.2 (.inl h1)), fun h1 => hj (h.2 (.inr h1))⟩
      obtain ⟨k, hk⟩ : ∃ k, cf pl i = k := ⟨_, rfl⟩
      rw [hk] at hc hkN HTK
      obtain ⟨hcT, hfT⟩ := (unhide HT).cell hkN
      have hkN' : (k : Int) < (N : Int) := by omega
      have HT2 := hide ((unhide HT).set hkN (a := jo) (c := jc) (r := jk) (by rw [unhide HJN]; exact unhide HJ))
      rw [unhide HJN] at HT2
      clear hcI hk
      go_wp2_with fail
      go_roundw
      case rel =>
        refine ⟨i + 1, _, _, by go_num, by omega, unhide HT2, fun j hj hnj => ?_, fun j => ?_⟩
        · rw [getD_set (by rw [(unhide HT).tl]; exact hkN), if_neg (unhide HTK j hnj).2]
          exact unhide HSAME j hj (unhide HTK j hnj).1
        · rw [getD_set (by rw [(unhide HT).tl]; exact hkN)]
          split
          · rw [unhide HJN]; omega
          · exact unhide HLEN j
      case measure => simp [intOf]; omega
    · have hi2 : i = pn := by omega
      subst hi2
      have hpk : pk (ints pl) t.length = true := by rw [(unhide HT).tl]; exact pk_places (by rw [unhide HPL]; exact hpl2) (unhide HND) (unhide HPN)
      obtain ⟨f1, f2, f3, f4⟩ := withP_facts (unhide HL) hn2 hn3 (unhide HS) (unhide HBL)
      have hNN := unhide HNN
      have hsm : ∀ j, j < N → keep (ints pl) j = true → t.getD j [] = (withP l).getD j [] := fun j hj hkj => (unhide HSAME j hj (fun h => keep_ints.1 hkj (List.mem_of_mem_take h))).trans (by rw [unhide HLA])
      have hIF : IsFix t (ints pl) (withP l) s := by
        refine ⟨by rw [withP_len, (unhide HT).tl, unhide HL, hNN], fun j hj hkj => ?_, fun j hj => ?_, fun j hj hkj => ?_, f2, fun _ k hk => ?_, fun _ k hk => ?_⟩
        · rw [(unhide HT).tl] at hj
          rw [hsm j hj hkj]
          exact f1 j (by omega)
        · rw [(unhide HT).tl] at hj
          exact f1 j (by omega)
        · rw [(unhide HT).tl] at hj
          exact (hsm j hj hkj).symm
        · rw [(unhide HT).tl, ← hNN]
          exact f3 k hk
        · rw [(unhide HT).tl, ← hNN]
          exact f4 k hk
      have HIF := hide hIF
      have HPK := hide hpk
      have HOKF : Hid (fixOk t (ints pl) = true) := fixOk_of hpk (by rw [(unhide HT).tl]; exact hN4) (by rw [(unhide HT).tl]; exact hN16) hIF.szl
      clear hpk f1 f2 f3 f4 hNN hsm hIF
      go_wp2_with fail
      refine (fix_any _ gT _ _ t _ gI (ints pl) wr ((unhide HT).arg hcT hcTm) ((unhide HZA).below (unhide HT).below) (unhide HLEN)).mono ?_
      rintro e wf ⟨hkf, h⟩
      rcases h with ⟨_, v', G', A', C', out, n', rfl, hRA, hF⟩ | ⟨hno, _⟩
      · have hne : out = withP l := by
          have h2 : n' = s := hF.size_eq (unhide HIF) (by rw [ints_len, unhide HPL]; exact hpl2) (by rw [(unhide HT).tl]; exact hN4)
          rw [h2] at hF
          exact fix_once (by rw [(unhide HT).tl]; exact hN4) (by rw [(unhide HT).tl]; exact hN16) (unhide HPK) hF (unhide HIF)
        obtain ⟨af, cf', hvf, _⟩ := hRA.ex
        subst hvf
        have HRA := hide hRA
        have HOBf := hide (((unhide HOB).below (unhide HT).below).below hkf)
        have HBF := hide (((unhide HB).trans ((unhide HT).below.mono (unhide HB).size)).trans (hkf.mono ((unhide HB).trans ((unhide HT).below.mono (unhide HB).size)).size))
        have HNE := hide hne
        clear hRA hF hne hkf
        go_wp2_with fail
        obtain ⟨Gf, hRf, _⟩ := (unhide HOBf).arg
        refine (same_any _ _ G' Gf A' _ C' _ out la wf (unhide HRA) hRf).mono ?_
        rintro e wg ⟨rfl, hkg⟩
        have hdd : decide (out = la) = true := decide_eq_true (by rw [unhide HLA]; exact unhide HNE)
        rw [hdd]
        have HBG := hide ((unhide HBF).trans (hkg.mono (unhide HBF).size))
        clear hdd hkg hRf
        go_wp2_with fail
        go_ret
        exact ⟨rfl, unhide HBG⟩
      · rw [unhide HOKF] at hno
        cases hno

end Go.Proofs.Ytdlbkgehgbacmaa
