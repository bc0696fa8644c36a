/-
  The walk of RowBlank.
-/
import Derived.Test.YtjdikhelabibnabGreatMbi
import Derived.Test.YtjdikhelabibnabGreatMai
import Derived.Test.YtjdikhelabibnabGreatMar
namespace Go.Proofs.YtjdikhelabibnabGreat
open Go Go.RowKit Go.Shelf

/-- Pages, some of which are made blank. -/
def blankL (P : List PV) (ps : List Nat) : List PV := (List.range P.length).map (fun i => if i ∈ ps then zPV else P.getD i zPV)
theorem blankL_len (P : List PV) (ps : List Nat) : (blankL P ps).length = P.length := by simp [blankL]
theorem blankL_get {P : List PV} {ps : List Nat} {i : Nat} (hi : i < P.length) : (blankL P ps).getD i zPV = if i ∈ ps then zPV else P.getD i zPV := by
  rw [blankL, List.getD_eq_getElem?_getD, List.getElem?_map, List.getElem?_range hi]; rfl
theorem blankL_take {P : List PV} {ps : List Nat} {j i : Nat} (hj : j < ps.length) (hi : i < P.length) : ((blankL P (ps.take (j + 1))).getD i zPV).cs = if i = cf ps j then zPV.cs else ((blankL P (ps.take j)).getD i zPV).cs := by
  rw [blankL_get hi, blankL_get hi]
  have hm : i ∈ ps.take (j + 1) ↔ i ∈ ps.take j ∨ i = cf ps j := by rw [take_mem hj]; exact or_congr Iff.rfl eq_comm
  by_cases e : i = cf ps j
  · rw [if_pos e, if_pos (hm.2 (.inr e))]
  · rw [if_neg e]
    by_cases e2 : i ∈ ps.take j
    · rw [if_pos e2, if_pos (hm.2 (.inl e2))]
    · rw [if_neg e2, if_neg (fun h => (hm.1 h).elim e2 e)]
theorem all_inq {ps : List Nat} {d : Nat} (hn : ps.Nodup) (hl : ∀ k ∈ ps, k < d) (hd : ps.length = d) {i : Nat} (hi : i < d) : i ∈ ps := by
  have h := lost_len hn hl
  rw [hd] at h
  have h2 := (List.length_filter_eq_length_iff.1 (h.trans List.length_range.symm)) i (List.mem_range.2 hi)
  exact of_decide_eq_true h2
theorem some_out {ps : List Nat} {d : Nat} (hn : ps.Nodup) (hl : ∀ k ∈ ps, k < d) (hd : ps.length < d) : ∃ i, i < d ∧ i ∉ ps := by
  apply Classical.byContradiction
  intro h
  have h1 := lost_len hn hl
  rw [List.length_filter_eq_length_iff.2 (fun x hx => decide_eq_true (Classical.byContradiction (fun hx2 => h ⟨x, List.mem_range.1 hx, hx2⟩))), List.length_range] at h1
  omega

set_option maxRecDepth 100000 in
set_option maxHeartbeats 16000000 in
theorem rowblank_any (ao : Option Addr) (n c g : Nat) (L : List EV) (bo : Option Addr) (bn bc bg : Nat) (zb : List Int) (po : Option Addr) (pn pc pg : Nat) (zs : List Int) (a3 a4 : Int) (w : World) (hL : EArg w (.slice ao n c) g L)
    (hbz : zb.length = bn) (hbr : IRow w bo bg zb) (hbb : ∀ z ∈ zb, -9223372036854775808 ≤ z ∧ z ≤ 9223372036854775807) (hbc : bn ≤ bc) (hbm : bc ≤ maxLen)
    (hpz : zs.length = pn) (hpr : IRow w po pg zs) (hpb : ∀ z ∈ zs, -9223372036854775808 ≤ z ∧ z ≤ 9223372036854775807) (hpc : pn ≤ pc) (hpm : pc ≤ maxLen) :
    Calls Tryz.prog 3 #[.slice ao n c, .slice bo bn bc, .slice po pn pc, .int .i64 a3, .int .i64 a4] w fun e w' => e = .returned (.bool true) ∧ Below w.heap.size w w' := by
  have HL := hide hL
  clear hL
  have HBA := hide (show zb.length = bn ∧ IRow w bo bg zb ∧ (∀ z ∈ zb, -9223372036854775808 ≤ z ∧ z ≤ 9223372036854775807) ∧ bn ≤ bc ∧ bc ≤ maxLen from ⟨hbz, hbr, hbb, hbc, hbm⟩)
  have HZA := hide (show zs.length = pn ∧ IRow w po pg zs ∧ (∀ z ∈ zs, -9223372036854775808 ≤ z ∧ z ≤ 9223372036854775807) ∧ pn ≤ pc ∧ pc ≤ maxLen from ⟨hpz, hpr, hpb, hpc, hpm⟩)
  clear hbz hbr hbb hbc hbm hpz hpr hpb hpc hpm
  obtain ⟨t, ht, ht3⟩ : ∃ t : Nat, a4 % 3 = (t : Int) ∧ t < 3 := ⟨(a4 % 3).toNat, by omega, by omega⟩
  obtain ⟨M, hM6, hM3⟩ : ∃ t : Nat, a3 % 3 = (t : Int) ∧ t < 3 := ⟨(a3 % 3).toNat, by omega, by omega⟩
  have W0 := fun W => (show Calls Tryz.prog 6 #[.int .i64 a4, .int .i64 3] W fun e w' => e = .returned (.int .i64 (t : Int)) ∧ w' = W from (within11_any a4 3 W (by decide) (by decide)).mono (fun e w' h => by rw [← ht]; exact h))
  have W3 := fun W => (show Calls Tryz.prog 6 #[.int .i64 a3, .int .i64 3] W fun e w' => e = .returned (.int .i64 (M : Int)) ∧ w' = W from (within11_any a3 3 W (by decide) (by decide)).mono (fun e w' h => by rw [← hM6]; exact h))
  have HW0 := hide W0
  have HW3 := hide W3
  clear W0 W3 ht hM6
  go_enter Tryz.func3, Tryz.ntmps3
  go_wp2_with fail
  refine (known11_any w).mono ?_
  rintro e w1 ⟨rfl, hk⟩
  have HT := hide hk
  clear hk
  go_wp2_with fail
  refine (unhide HW0 _).mono ?_
  rintro e wx ⟨rfl, hwx⟩
  rw [hwx]
  clear hwx wx
  go_wp2_with fail
  have hsl := slots11_any ao n c g L (t + 4) (by omega) _ ((unhide HL).below (unhide HT))
  rw [show ((t + 4 : Nat) : Int) = 6 + (t : Int) - 2 by omega] at hsl
  refine hsl.mono ?_
  clear hsl
  rintro e w2 ⟨v, rfl, hO, hk⟩
  obtain ⟨sa, sn, sc, sg, hv, hE⟩ := hO.arg'
  subst hv
  replace HT := hide ((unhide HT).trans (hk.mono (unhide HT).size))
  have HE := hide hE
  clear hk hO hE
  obtain ⟨S, hS⟩ : ∃ S, gdSl L (t + 4) = S := ⟨_, rfl⟩
  have HSL : Hid (S.length ≤ t + 4) := by rw [← hS, gdSl_len]; show _ ≤ _; omega
  have HSK : Hid (okL S) := by rw [← hS]; exact gdSl_okL _
  rw [hS] at HE
  clear hS
  have HPOK : Hid (∀ i, (S.getD i zEV).Ok) := (unhide HE).get_ok
  go_wp2_with fail
  refine (renc11_any (6 + (t : Int)) 5 1 1 sa sn sc sg S w2 (unhide HE)).mono ?_
  rintro e w3 h
  obtain ⟨hk, ow3, mw3, kw3, Gw3, Aw3, Cw3, rfl, hR⟩ := EncR.use h
  replace HT := hide ((unhide HT).trans (hk.mono (unhide HT).size))
  have hokr : okRow (6 + (t : Int)) 5 1 1 S := ⟨⟨by omega, by omega⟩, ⟨⟨by omega, by omega⟩, ⟨by omega, by omega⟩, by omega, by omega⟩, by have := unhide HSL; omega, unhide HSK⟩
  rw [encE_ok hokr]
  rw [encX_ok hokr, show (6 + (t : Int) - 2).toNat = t + 4 by omega] at hR
  obtain rfl : mw3 = t + 6 := by
    obtain ⟨_, _, hv, -⟩ := hR.ex
    rw [encL_len] at hv
    cases hv
    rfl
  have HR := hide hR
  clear h hk hR hokr HE
  obtain ⟨d, hd⟩ : ∃ d, t + 6 = d := ⟨_, rfl⟩
  have hdt : (d : Int) = 6 + (t : Int) := by omega
  have hd6 : 6 ≤ d := by omega
  have hd8 : d ≤ 8 := by omega
  have HSZ : Hid (∀ i, i < d → ((encL (t + 4) 5 1 1 S).getD i []).length = 48) := by rw [← hd]; exact (encL_facts (a := 5) (b := 1) (c := 1) (d := t + 4) (unhide HPOK) (by omega) (by omega)).1
  have HLN : Hid ((encL (t + 4) 5 1 1 S).length = d) := by rw [Hid, encL_len]; omega
  obtain ⟨X, hX⟩ : ∃ X, encL (t + 4) 5 1 1 S = X := ⟨_, rfl⟩
  rw [hd] at HR ⊢
  rw [hX] at HR HSZ HLN
  rw [← hdt]
  have hdt1 : (d : Int) ≤ 6 + (t : Int) := by omega
  have hdt2 : 6 + (t : Int) ≤ (d : Int) := by omega
  clear hX hd HSL HSK HPOK hdt
  have hzr := unhide HZA
  have hpl := places_any po pg pn pc zs hzr.1 (IRow.below (unhide HT) hzr.2.1) hzr.2.2.2.1 hzr.2.2.2.2 hzr.2.2.1 d 3 (by omega) (by omega) (by omega) (w := w3)
  have HPL := hide hpl
  clear hzr hpl
  go_wp2_with fail
  refine (unhide HPL).mono ?_
  rintro e w4 ⟨v, ps, rfl, hnd, hpn, hp3, hO, hk⟩
  obtain ⟨zg, hZ, -⟩ := places_z (n := d) hO (by omega) hpn
  obtain ⟨zo, zc, hv, -⟩ := hZ.ex
  rw [ints_len] at hv
  subst hv
  replace HT := hide ((unhide HT).trans (hk.mono (unhide HT).size))
  replace HR := hide ((unhide HR).below hk)
  have HZ := hide hZ
  have HPN := hide hpn
  have hp3' : (ps.length : Int) ≤ 3 := by omega
  clear HPL hk hO hZ hnd hpn
  go_wp2_with fail
  have hpg := pgs11_any _ d _ _ _ _ _ zo ps.length zc zg ps rfl (unhide HLN) (by omega) (by omega) (unhide HPN) w4 (unhide HR) (unhide HZ)
  refine hpg.mono ?_
  clear hpg
  rintro e w5 ⟨gf, v, Gp, rfl, hPB, hgf, hk⟩
  have hs4 := (unhide HT).size
  have HK45 := hide hk
  have HT5 := hide ((unhide HT).trans (hk.mono (unhide HT).size))
  have HGF := hide hgf
  obtain ⟨cP, hvP, hcP, hcPm⟩ := hPB.ex
  rw [pagesL_len] at hvP hcP
  subst hvP
  have hgp4 := hPB.le
  have hgp5 := hPB.blk.lt
  obtain ⟨P, hP⟩ : ∃ P, pagesL Aw3 Cw3 gf X d ps = P := ⟨_, rfl⟩
  have HPE := hide hP
  have HPLN : Hid (P.length = d) := by rw [← hP, Hid, pagesL_len]
  rw [hP] at hPB
  have HPB := hide hPB
  clear hk hPB hgf hP
  have hzr := unhide HBA
  have hpl := places_any bo bg bn bc zb hzr.1 (IRow.below (unhide HT5) hzr.2.1) hzr.2.2.2.1 hzr.2.2.2.2 hzr.2.2.1 d d (by omega) (by omega) (by omega) (w := w5)
  have HPL := hide hpl
  clear hzr hpl
  go_wp2_with fail
  refine (unhide HPL).mono ?_
  rintro e w6 ⟨v, qs, rfl, hnd, hpn, hqd, hO, hk⟩
  obtain ⟨zq, hZ, hzqb⟩ := places_z (n := d) hO (by omega) hpn
  obtain ⟨zo2, zc2, hv, -⟩ := hZ.ex
  rw [ints_len] at hv
  subst hv
  have HK56 := hide hk
  have HZQ := hide hZ
  have HND := hide hnd
  have HPNQ := hide hpn
  have hqd' : (qs.length : Int) ≤ (d : Int) := by omega
  have HRM : Hid (RowM w6 Gp 35 2 d (fun i => ((blankL P (qs.take 0)).getD i zPV).cs)) := by
    have h1 := (unhide HPB).blk.below hk hgp5
    rw [unhide HPLN] at h1
    refine h1.congr (fun i hi => ?_)
    rw [List.take_zero, blankL_get (by rw [unhide HPLN]; exact hi), if_neg (by simp)]
  have HB46 : Hid (Below w4.heap.size w4 w6) := (unhide HK45).trans (hk.mono (unhide HK45).size)
  clear HPL hk hO hZ hnd hpn
  obtain ⟨Lq, hLq⟩ : ∃ Lq, qs.length = Lq := ⟨_, rfl⟩
  have HLQ := hide hLq
  rw [hLq] at hqd hqd' HZQ ⊢
  clear hLq
  go_wp2_with fail
  go_loopw [16] (fun i wq => ∃ (j : Nat), j ≤ Lq ∧ i = .int .i64 j ∧ Below w4.heap.size w4 wq ∧ (∀ q, q ≠ Gp → wq.heap[q]? = w6.heap[q]?) ∧ RowM wq Gp 35 2 d (fun i => ((blankL P (qs.take j)).getD i zPV).cs)) (fun i _ => Lq - (intOf i).toNat)
  case atStart => exact ⟨0, by omega, rfl, unhide HB46, fun _ _ => rfl, unhide HRM⟩
  case round =>
    obtain ⟨j, hj, rfl, hB, hq, hR2⟩ := hrel
    have HB := hide hB
    have HQ := hide hq
    have HR2 := hide hR2
    clear hB hq hR2
    by_cases hlt2 : j < Lq
    · have hj1 : (j : Int) < (Lq : Int) := by omega
      have hjl : j < qs.length := by rw [unhide HLQ]; exact hlt2
      obtain ⟨oz, hzo, hcz⟩ := irow_some' (zarg_row (unhide HZQ)) (by rw [ints_len]; omega)
      have hcj := hcz j (by rw [ints_len]; exact hjl)
      rw [ints_getD] at hcj
      subst hzo
      have hcj2 := (World.cell?_of_block (a := ⟨zq, oz + j, none⟩) (unhide HQ zq (by omega))).trans hcj
      have hcl : cf qs j < d := unhide HPNQ _ (by rw [← cf_getD]; exact getD_mem11 hjl)
      have hcl1 : ((cf qs j : Nat) : Int) < (d : Int) := by omega
      have hth := (unhide HR2).there hcl
      have HR3 := hide ((unhide HR2).put hcl zPV.cs rfl)
      have HB3 := hide (below10_setCells Gp zPV.cs (cf qs j * 2) _ (unhide HB) hgp4)
      have HQ3 : Hid (∀ q, q ≠ Gp → (wr.setCells Gp (cf qs j * 2) zPV.cs).heap[q]? = w6.heap[q]?) := fun q hq => (heap_setCells_ne hq _ _ _).trans (unhide HQ q hq)
      have HTH := hide hth
      clear hth hcz hcj
      go_wp2_with (refine wpList_store_mid rfl 35 _ _ rfl Gp (cf qs j * 2) zPV.cs.toArray rfl rfl (unhide HTH) sizeTP (all_oneCell_toArray zPV.cs_one) ?_)
      go_roundw
      case rel => exact ⟨j + 1, by omega, by go_num, unhide HB3, unhide HQ3, (unhide HR3).congr (fun i hi => blankL_take hjl (by rw [unhide HPLN]; exact hi))⟩
      case measure => simp [intOf]; omega
    · have : j = Lq := by omega
      subst this
      have HFIN : Hid (PgBlk w4.heap.size wr (.slice (some ⟨Gp, 0, none⟩) d cP) Gp (blankL P qs)) := by
        have hr := unhide HR2
        rw [List.take_of_length_le (by rw [unhide HLQ]; exact Nat.le_refl _)] at hr
        refine ⟨by rw [blankL_len, unhide HPLN]; exact hr, ⟨cP, by rw [blankL_len, unhide HPLN], by rw [blankL_len, unhide HPLN]; exact hcP, hcPm⟩, hgp4, fun q hq => ?_⟩
        obtain ⟨i, hi, he⟩ := mem_getD11 (z := zPV) hq
        rw [blankL_len, unhide HPLN] at hi
        rw [blankL_get (by rw [unhide HPLN]; exact hi)] at he
        rw [← he]
        split
        · exact zPV_ok _
        · rw [← unhide HPE, pagesL_get hi]
          split
          · exact ⟨⟨none, 0, rfl, by simp [lostP], by simp, fun _ => rfl, .inl rfl⟩, Bs.nil⟩
          · exact (unhide HGF i hi).below (unhide HB)
      have HTF : Hid (Below w.heap.size w wr) := (unhide HT).trans ((unhide HB).mono hs4)
      have HLX : Hid (∀ i, ((blankL P qs).getD i zPV).x.length ≤ 100000) := fun i => by
        by_cases hi : i < d
        · rw [blankL_get (by rw [unhide HPLN]; exact hi)]
          split
          · simp [zPV]
          · rw [← unhide HPE, pagesL_get hi]
            split
            · simp [lostP]
            · show (X.getD i []).length ≤ 100000
              rw [unhide HSZ i hi]; omega
        · rw [List.getD_eq_getElem?_getD, List.getElem?_eq_none (by rw [blankL_len, unhide HPLN]; omega)]; simp [zPV]
      have HST : Hid (∀ i, i < d → (((blankL P qs).getD i zPV).st = 0 ↔ i ∈ qs)) := fun i hi => by
        rw [blankL_get (by rw [unhide HPLN]; exact hi)]
        by_cases e : i ∈ qs
        · rw [if_pos e]; exact ⟨fun _ => e, fun _ => rfl⟩
        · rw [if_neg e, ← unhide HPE, pagesL_get hi]
          constructor
          · split
            · intro h; simp [lostP] at h
            · intro h; simp at h
          · intro h; exact absurd h e
      have hDX : (j = 0) ∨ (j = d ∧ (decF 1 1 (blankL P qs) (M : Int)).2 = 2) ∨ ((0 < j ∧ j < d) ∧ (decF 1 1 (blankL P qs) (M : Int)).2 = 5) := by
        by_cases h0 : j = 0
        · exact .inl h0
        have hex : ∃ i, i < d ∧ ((blankL P qs).getD i zPV).st = 0 := by
          have hq0 : 0 < qs.length := by rw [unhide HLQ]; omega
          have hm := getD_mem11 (z := 0) hq0
          exact ⟨_, unhide HPNQ _ hm, (unhide HST _ (unhide HPNQ _ hm)).2 hm⟩
        have hdb := decF_blank (sup := 1) (at' := 1) (P := blankL P qs) (d := d) (by rw [blankL_len, unhide HPLN]) hd6 hd8 (most := (M : Int)) ⟨by omega, by omega⟩ hex
        by_cases h1 : j = d
        · refine .inr (.inl ⟨h1, ?_⟩)
          rw [hdb, if_pos (fun i hi => (unhide HST i hi).2 (all_inq (unhide HND) (unhide HPNQ) (by rw [unhide HLQ]; exact h1) hi))]
        · refine .inr (.inr ⟨⟨by omega, by omega⟩, ?_⟩)
          obtain ⟨i, hi, hni⟩ := some_out (ps := qs) (d := d) (unhide HND) (unhide HPNQ) (by rw [unhide HLQ]; omega)
          rw [hdb, if_neg (fun h => hni ((unhide HST i hi).1 (h i hi)))]
      have hdec := dec11_any 1 1 _ _ _ _ _ (M : Int) (unhide HLX) wr (unhide HFIN).arg
      obtain ⟨R, hR⟩ : ∃ R, decF 1 1 (blankL P qs) (M : Int) = R := ⟨_, rfl⟩
      rw [hR] at hDX
      have HRE := hide hR
      have HDX := hide hDX
      have HDEC := hide hdec
      clear hdec hDX hR HLX HST HQ HR2 HB
      have hi1 : (j : Int) ≤ (j : Int) := Int.le_refl _
      clear hi1
      go_wp2_with fail
      refine (unhide HW3 _).mono ?_
      rintro e wx ⟨rfl, hwx⟩
      rw [hwx]
      clear hwx wx
      go_wp2_with fail
      refine (unhide HDEC).mono ?_
      rintro e w7 ⟨hk, v, hx, sv, g6, hv, hEA, -⟩
      rw [unhide HRE] at hx hv hEA
      have HT7 := hide ((unhide HTF).trans (hk.mono (unhide HTF).size))
      obtain ⟨so, sc6, hs, -⟩ := hEA.ex
      subst hs
      subst hv
      subst hx
      clear HDEC hEA hk
      rcases unhide HDX with h0 | ⟨h0, h2⟩ | ⟨⟨h0, h1⟩, h2⟩
      · have hjd : ((j : Int) == (d : Int)) = false := by rw [h0]; simp; omega
        subst h0
        clear HDX
        go_wp2_with fail
        go_ret
        exact ⟨rfl, (unhide HT7).alloc (unhide HT7).size _⟩
      · have hjd : ((j : Int) == (d : Int)) = true := by rw [h0]; simp
        rw [h2]
        clear HDX h2
        go_wp2_with fail
        go_ret
        exact ⟨rfl, (unhide HT7).alloc (unhide HT7).size _⟩
      · have hjd : ((j : Int) == (d : Int)) = false := by rw [beq_eq_false_iff_ne]; omega
        have hj0 : ((j : Int) == 0) = false := by rw [beq_eq_false_iff_ne]; omega
        rw [h2]
        clear HDX h2
        go_wp2_with fail
        go_ret
        exact ⟨rfl, (unhide HT7).alloc (unhide HT7).size _⟩

end Go.Proofs.YtjdikhelabibnabGreat
