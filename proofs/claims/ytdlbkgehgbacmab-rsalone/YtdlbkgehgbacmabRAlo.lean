/-
  RsAlone's walk.
-/
import Derived.Test.YtdlbkgehgbacmabT5
import Derived.Test.YtdlbkgehgbacmabHp5
namespace Go.Proofs.Ytdlbkgehgbacmab
open Go.RowKit

theorem pk_places {ps : List Nat} {n : Nat} (h2 : ps.length ≤ 2) (hnd : ps.Nodup) (hb : ∀ k ∈ ps, k < n) : pk (ints ps) n = true :=
  pk_of ⟨by rw [ints_len]; exact h2, fun z hz => by obtain ⟨k, hk, rfl⟩ := List.mem_map.1 hz; have := hb k hk; omega, ints_nodup hnd⟩
theorem keep_ints {ps : List Nat} {i : Nat} : keep (ints ps) i = true ↔ i ∉ ps := by
  unfold keep ints
  rw [Bool.not_eq_true', decide_eq_false_iff_not, List.mem_map]
  exact not_congr ⟨fun ⟨x, hx, e⟩ => by have h : x = i := by omega
                                        exact h ▸ hx, fun h => ⟨i, h, rfl⟩⟩

set_option maxRecDepth 100000 in
set_option maxHeartbeats 16000000 in
theorem ralo_walk {w : World} (v : Value) (gb : Nat) (b : List Nat) (n0 s0 : Int) (zo : Option Addr) (gz zlen zcap : Nat) (zr : List Int) (hzl : zr.length = zlen) (hzr : IRow w zo gz zr) (hzc : zlen ≤ zcap) (hzm : zcap ≤ maxLen) (hzb : ∀ z ∈ zr, -9223372036854775808 ≤ z ∧ z ≤ 9223372036854775807) (hA : Arg w v gb b) :
    Calls Try.prog 3 #[v, .int .i64 n0, .int .i64 s0, .slice zo zlen zcap] w fun e w' => e = .returned (.bool true) ∧ Below w.heap.size w w' := by
  have HA := hide hA
  have HZR := hide hzr
  have HZL := hide hzl
  have HZB := hide hzb
  obtain ⟨ao, c, hv, _⟩ := hA.ex
  subst hv
  clear hA hzr hzl hzb
  go_enter Try.func3, Try.ntmps3
  go_wp2_with fail
  refine (known_any w).mono ?_
  rintro e w1 ⟨rfl, hk⟩
  have HB := hide hk
  replace HA := hide ((unhide HA).below hk)
  replace HZR := hide ((unhide HZR).below hk)
  clear hk
  go_wp2_with fail
  refine (within_any n0 13 w1 (by omega) (by omega)).mono ?_
  rintro e w2 ⟨rfl, hw2⟩
  subst hw2
  obtain ⟨m, hm⟩ : ∃ m : Nat, n0 % 13 = (m : Int) := ⟨(n0 % 13).toNat, by omega⟩
  have hm12 : m < 13 := by omega
  rw [hm]
  clear hm
  obtain ⟨n, hn⟩ : ∃ n, 4 + m = n := ⟨_, rfl⟩
  have hn1 : (4 : Int) + (m : Int) = (n : Int) := by omega
  have hn2 : 4 ≤ n ∧ n ≤ 16 := by omega
  obtain ⟨hn2, hn3⟩ := hn2
  clear hn hm12
  go_wp2_with fail
  refine (within_any s0 10 w2 (by omega) (by omega)).mono ?_
  rintro e w3 ⟨rfl, hw3⟩
  subst hw3
  obtain ⟨s, hs⟩ : ∃ s : Nat, s0 % 10 = (s : Int) := ⟨(s0 % 10).toNat, by omega⟩
  have hs20 : s < 10 := by omega
  rw [hs]
  clear hs
  go_wp2_with fail
  refine (rows_any _ gb b n s (by omega) (by omega) w3 (unhide HA)).mono ?_
  rintro e w4 ⟨v9, ps, l, rfl, hO, hl, hs, hk⟩
  replace HB := hide ((unhide HB).trans (hk.mono (unhide HB).size))
  replace HZR := hide ((unhide HZR).below hk)
  obtain ⟨g9, c9, rfl, _, hg9l, _⟩ := hO.some hl (by omega)
  have HO := hide hO
  have HL := hide hl
  have HS := hide hs
  clear hO hl hs hk HA
  go_wp2_with fail
  refine (places_any zo gz zlen zcap zr (unhide HZL) (unhide HZR) hzc hzm (unhide HZB) n 2 (by omega) (by omega) (by omega)).mono ?_
  rintro e w8 ⟨v15, pl, rfl, hnd, hplN, hpl2, hOI, hk⟩
  replace HB := hide ((unhide HB).trans (hk.mono (unhide HB).size))
  replace HO := hide ((unhide HO).below hk)
  obtain ⟨gI, hZA, _⟩ := places_z (n := n) hOI (by omega) hplN
  obtain ⟨aI, cI, hvI, hI1, hI2, hI3, hIR⟩ := hZA.ex
  rw [ints_len] at hvI
  subst hvI
  have HZA := hide hZA
  have HND := hide hnd
  have HPN := hide hplN
  have HIR := hide hIR
  obtain ⟨pn, hpn⟩ : ∃ pn, pl.length = pn := ⟨_, rfl⟩
  rw [hpn] at hpl2 HZA ⊢
  have HPL := hide hpn
  have HPK : Hid (pk (ints pl) n = true) := pk_places (by rw [hpn]; exact hpl2) hnd hplN
  clear hk hOI hZA hnd hplN hIR hI1 hI2 hI3 hpn
  have HOKF : Hid (fixOk l (ints pl) = true) := fixOk_of (n := s) (by rw [unhide HL]; exact unhide HPK) (by rw [unhide HL]; exact hn2) (by rw [unhide HL]; exact hn3) (fun i hi _ => unhide HS i (by rw [← unhide HL]; exact hi))
  go_wp2_with fail
  obtain ⟨G, hR, _⟩ := (unhide HO).arg
  refine (fix_any _ G _ _ l _ gI (ints pl) w8 hR (unhide HZA) (len_of (unhide HL) (unhide HS) (by omega))).mono ?_
  clear hR
  rintro e w9 ⟨hk, h⟩
  rcases h with ⟨_, vx, G', A', C', x, n', rfl, hRA, hF⟩ | ⟨hno, _⟩
  rotate_left 1
  · rw [unhide HOKF] at hno
    cases hno
  obtain ⟨ax, cx, hvx, hx1, hx2, _, _⟩ := hRA.ex
  have hxl : x.length = n := by rw [hF.len, unhide HL]
  rw [hxl] at hvx
  subst hvx
  have HRA := hide hRA
  have HF := hide hF
  have HXL := hide hxl
  replace HB := hide ((unhide HB).trans (hk.mono (unhide HB).size))
  replace HO := hide ((unhide HO).below hk)
  replace HZA := hide ((unhide HZA).below hk)
  replace HIR := hide ((unhide HIR).below hk)
  have hnn : n' = s := by
    obtain ⟨i, hi, hki⟩ := some_kept (zs := ints pl) (by rw [ints_len, unhide HPL]; exact hpl2) hn2
    rw [← hF.szl i (by rw [unhide HL]; exact hi) hki, unhide HS i hi]
  have HNN := hide hnn
  clear hRA hF hxl hk hnn
  go_wp2_with fail
  go_loopw [13] (fun p wr => ∃ i : Nat, p = .int .i64 i ∧ i ≤ n ∧ Below w9.heap.size w9 wr) (fun p _ => n - (intOf p).toNat)
  case atStart => exact ⟨0, rfl, by omega, Below.refl _ _⟩
  case round =>
    obtain ⟨i, rfl, hi, hK⟩ := hrel
    have HK := hide hK
    clear hK
    by_cases hlt : i < n
    · have hi1 : (i : Int) < (n : Int) := by omega
      obtain ⟨wo, hwo⟩ : ∃ x, x = wr := ⟨wr, rfl⟩
      subst hwo
      go_wp2_with fail
      go_loop [14, 15] (fun q p => ∃ (j : Nat) (y : Bool), q = .bool y ∧ p = .int .i64 j ∧ j ≤ pn ∧ (y = true ↔ i ∈ pl.take j)) (fun _ p => pn - (intOf p).toNat)
      case atStart => exact ⟨0, false, rfl, rfl, by omega, by simp⟩
      case round =>
        obtain ⟨j, y, rfl, rfl, hj, hy⟩ := hrel
        have HY := hide hy
        clear hy
        by_cases hj2 : j < pn
        · have hj1 : (j : Int) < (pn : Int) := by omega
          have HT : Hid (i ∈ pl.take (j + 1) ↔ i ∈ pl.take j ∨ cf pl j = i) := take_mem (by rw [unhide HPL]; exact hj2)
          cases y with
          | true =>
            go_wp2_with fail
            go_round
            case rel => exact ⟨j + 1, true, rfl, by go_num, by omega, by rw [unhide HT]; exact ⟨fun h => .inl ((unhide HY).1 h), fun _ => rfl⟩⟩
            case measure => simp [intOf]; omega
          | false =>
            have hno : ¬ i ∈ pl.take j := fun h => by have := (unhide HY).2 h; cases this
            have HNO := hide hno
            clear hno
            obtain ⟨oI, rfl, hcI⟩ := irow_some' ((unhide HIR).below (unhide HK)) (by rw [ints_len, unhide HPL]; omega)
            have hc := hcI j (by rw [ints_len, unhide HPL]; exact hj2)
            rw [ints_getD] at hc
            clear hcI
            by_cases he : cf pl j = i
            · have he1 : (((cf pl j : Nat) : Int) == (i : Int)) = true := by rw [he]; simp
              have HE := hide he
              clear he
              go_wp2_with fail
              go_round
              case rel => exact ⟨j + 1, true, rfl, by go_num, by omega, by rw [unhide HT]; exact ⟨fun _ => .inr (unhide HE), fun _ => rfl⟩⟩
              case measure => simp [intOf]; omega
            · have he1 : (((cf pl j : Nat) : Int) == (i : Int)) = false := by rw [beq_eq_false_iff_ne]; omega
              have HE := hide he
              clear he
              go_wp2_with fail
              go_round
              case rel => exact ⟨j + 1, false, rfl, by go_num, by omega, by rw [unhide HT]; exact ⟨fun h => (by cases h), fun h => h.elim (fun h => absurd h (unhide HNO)) (fun h => absurd h (unhide HE))⟩⟩
              case measure => simp [intOf]; omega
        · have hj3 : j = pn := by omega
          subst hj3
          have hy := unhide HY
          rw [← unhide HPL, List.take_length] at hy
          cases y with
          | true =>
            clear hy
            go_wp2_with fail
            go_quiet (fail)
            go_wp2_with fail
            go_roundw
            case rel => exact ⟨i + 1, by go_num, by omega, below_drewN (unhide HK) _⟩
            case measure => simp [intOf]; omega
          | false =>
            have hno : i ∉ pl := fun h => by have := hy.2 h; cases this
            have hse := (unhide HF).same i (by rw [unhide HL]; exact hlt) (keep_ints.2 hno)
            obtain ⟨G1, hR1, _⟩ := ((unhide HO).below (unhide HK)).arg
            have hR2 := (unhide HRA).below (unhide HK)
            obtain ⟨g1, hA1⟩ := hR1.rows i (by rw [unhide HL]; exact hlt)
            obtain ⟨g2, hA2⟩ := hR2.rows i (by rw [unhide HXL]; exact hlt)
            obtain ⟨_, _, hsh, _, _, _, _, hcl⟩ := ((unhide HO).below (unhide HK)).some (unhide HL) (by omega)
            cases hsh
            have hc1 := hcl i hlt
            obtain ⟨ax', cx', hvx, _, _, _, hrx⟩ := hR2.ex
            cases hvx
            obtain ⟨ox, hax, hcx⟩ := hrx.at (by rw [unhide HXL]; omega)
            subst hax
            have hc2 := hcx i (by rw [unhide HXL]; exact hlt)
            rw [hse] at hc2 hA2
            have hcv1 := fun m => conv_arg (hA1.below (below_drewN (Below.refl _ wo) m))
            have hcv2 := fun m => conv_arg (hA2.below (below_drewN (Below.refl _ wo) m))
            obtain ⟨r, hr⟩ : ∃ r, l.getD i [] = r := ⟨_, rfl⟩
            rw [hr] at hc1 hc2 hcv1 hcv2
            clear hr hA1 hA2 hse hno hy hR1 hR2 hcl hcx hrx
            go_wp2_with fail
            go_quiet (fail)
            go_wp2_with fail
            go_roundw
            case rel => exact ⟨i + 1, by go_num, by omega, below_drewN (unhide HK) _⟩
            case measure => simp [intOf]; omega
    · have hi2 : i = n := by omega
      subst hi2
      have HFA := hide (unhide HF).again
      have HOKX : Hid (fixOk x (ints pl) = true) := fixOk_of (by rw [unhide HXL]; exact unhide HPK) (by rw [unhide HXL]; exact hn2) (by rw [unhide HXL]; exact hn3) (unhide HFA).szl
      go_wp2_with fail
      refine (fix_any _ G' A' C' x _ gI (ints pl) wr ((unhide HRA).below (unhide HK)) ((unhide HZA).below (unhide HK)) (fun j => by
        by_cases hj : j < x.length
        · rw [(unhide HFA).sz j hj, unhide HNN]; omega
        · rw [List.getD_eq_getElem?_getD, List.getElem?_eq_none (by omega)]; simp)).mono ?_
      rintro e wf ⟨hkf, h⟩
      rcases h with ⟨_, vy, Gy, Ay, Cy, y, ny, rfl, hRY, hFY⟩ | ⟨hno, _⟩
      rotate_left 1
      · rw [unhide HOKX] at hno
        cases hno
      have hxy : x = y := by
        have h2 : ny = n' := hFY.size_eq (unhide HFA) (by rw [ints_len, unhide HPL]; exact hpl2) (by rw [unhide HXL]; exact hn2)
        rw [h2] at hFY
        exact (fix_once (by rw [unhide HXL]; exact hn2) (by rw [unhide HXL]; exact hn3) (by rw [unhide HXL]; exact unhide HPK) hFY (unhide HFA)).symm
      obtain ⟨ay, cy, hvy, _⟩ := hRY.ex
      subst hvy
      have HRY := hide hRY
      have HXY := hide hxy
      have HRX := hide (((unhide HRA).below (unhide HK)).below hkf)
      have HBF := hide (((unhide HB).trans ((unhide HK).mono (unhide HB).size)).trans (hkf.mono ((unhide HB).trans ((unhide HK).mono (unhide HB).size)).size))
      clear hRY hFY hxy hkf
      go_wp2_with fail
      refine (same_any _ _ G' Gy A' Ay C' Cy x y wf (unhide HRX) (unhide HRY)).mono ?_
      rintro e wg ⟨rfl, hkg⟩
      have hdd : decide (x = y) = true := decide_eq_true (unhide HXY)
      rw [hdd]
      have HBG := hide ((unhide HBF).trans (hkg.mono (unhide HBF).size))
      replace HRX := hide ((unhide HRX).below hkg)
      clear hdd hkg
      by_cases hp2 : pn < 2
      · have e2 : (pn : Int) < 2 := by omega
        go_wp2_with fail
        go_ret
        exact ⟨rfl, unhide HBG⟩
      · have e2 : (2 : Int) ≤ (pn : Int) := by omega
        have HCK : Hid (chk x = true) := by
          have hlen2 : (ints pl).length = 2 := by rw [ints_len, unhide HPL]; omega
          refine chk_of (n := n') (by rw [unhide HXL]; exact hn2) (by rw [unhide HXL]; exact hn3) (unhide HFA).sz ((unhide HFA).p ?_) ((unhide HFA).q (.inl hlen2))
          have hnd2 := ints_nodup (unhide HND)
          match hz : ints pl, hlen2 with
          | [a, b], _ =>
            by_cases e : a = ((x.length - 2 + 1 : Nat) : Int)
            · refine ⟨b, by simp, fun e3 => ?_⟩
              rw [hz] at hnd2
              simp at hnd2
              exact hnd2 (e.trans e3.symm)
            · exact ⟨a, by simp, e⟩
        go_wp2_with fail
        refine (check_any _ G' A' C' x wg (unhide HRX) (fun j => by
          by_cases hj : j < x.length
          · rw [(unhide HFA).sz j hj, unhide HNN]; omega
          · rw [List.getD_eq_getElem?_getD, List.getElem?_eq_none (by omega)]; simp)).mono ?_
        rintro e wh ⟨rfl, hkh⟩
        rw [unhide HCK]
        have HBH := hide ((unhide HBG).trans (hkh.mono (unhide HBG).size))
        clear hkh
        go_wp2_with fail
        go_ret
        exact ⟨rfl, unhide HBH⟩

end Go.Proofs.Ytdlbkgehgbacmab
