/-
  The walk of RowBack.
-/
import Derived.Test.YtjdikhelabibnaaGreatMbi
import Derived.Test.YtjdikhelabibnaaGreatMai
namespace Go.Proofs.YtjdikhelabibnaaGreat
open Go Go.RowKit Go.Shelf

set_option maxRecDepth 100000 in
set_option maxHeartbeats 16000000 in
theorem rowback_any (a0 a1 a2 a3 : Int) (ao : Option Addr) (n c g : Nat) (L : List EV) (po : Option Addr) (pn pc pg : Nat) (zs : List Int) (a6 : Int) (w : World) (hL : EArg w (.slice ao n c) g L) (hpz : zs.length = pn) (hpr : IRow w po pg zs) (hpb : ∀ z ∈ zs, -9223372036854775808 ≤ z ∧ z ≤ 9223372036854775807) (hpc : pn ≤ pc) (hpm : pc ≤ maxLen) :
    Calls Tryz.prog 4 #[.int .i64 a0, .int .i64 a1, .int .i64 a2, .int .i64 a3, .slice ao n c, .slice po pn pc, .int .i64 a6] w fun e w' => e = .returned (.bool true) ∧ Below w.heap.size w w' := by
  obtain ⟨hln, hnc, hcm, -⟩ := hL.mrow
  have HL := hide hL
  have HLN := hide hln
  have hnm : (n : Int) ≤ 9223372036854775807 := by unfold maxLen at hcm; omega
  clear hL hln hnc hcm
  obtain ⟨t, ht, ht3⟩ : ∃ t : Nat, a0 % 3 = (t : Int) ∧ t < 3 := ⟨(a0 % 3).toNat, by omega, by omega⟩
  obtain ⟨A1, hA1, b1, b1'⟩ : ∃ r : Int, a1 % 99 = r ∧ 0 ≤ r ∧ r < 99 := ⟨_, rfl, by omega, by omega⟩
  obtain ⟨A2, hA2, b2, b2'⟩ : ∃ r : Int, a2 % 256 = r ∧ 0 ≤ r ∧ r < 256 := ⟨_, rfl, by omega, by omega⟩
  obtain ⟨A3, hA3, b3, b3'⟩ : ∃ r : Int, a3 % 256 = r ∧ 0 ≤ r ∧ r < 256 := ⟨_, rfl, by omega, by omega⟩
  have W0 := fun W => (show Calls Tryz.prog 10 #[.int .i64 a0, .int .i64 3] W fun e w' => e = .returned (.int .i64 (t : Int)) ∧ w' = W from (within11_any a0 3 W (by decide) (by decide)).mono (fun e w' h => by rw [← ht]; exact h))
  have W1 := fun W => (show Calls Tryz.prog 10 #[.int .i64 a1, .int .i64 99] W fun e w' => e = .returned (.int .i64 A1) ∧ w' = W from (within11_any a1 99 W (by decide) (by decide)).mono (fun e w' h => by rw [← hA1]; exact h))
  have W2 := fun W => (show Calls Tryz.prog 10 #[.int .i64 a2, .int .i64 256] W fun e w' => e = .returned (.int .i64 A2) ∧ w' = W from (within11_any a2 256 W (by decide) (by decide)).mono (fun e w' h => by rw [← hA2]; exact h))
  have W3 := fun W => (show Calls Tryz.prog 10 #[.int .i64 a3, .int .i64 256] W fun e w' => e = .returned (.int .i64 A3) ∧ w' = W from (within11_any a3 256 W (by decide) (by decide)).mono (fun e w' h => by rw [← hA3]; exact h))
  obtain ⟨M, hM6, hM3⟩ : ∃ t : Nat, a6 % 3 = (t : Int) ∧ t < 3 := ⟨(a6 % 3).toNat, by omega, by omega⟩
  have W6 := fun W => (show Calls Tryz.prog 10 #[.int .i64 a6, .int .i64 3] W fun e w' => e = .returned (.int .i64 (M : Int)) ∧ w' = W from (within11_any a6 3 W (by decide) (by decide)).mono (fun e w' h => by rw [← hM6]; exact h))
  have HW6 := hide W6
  have HZA := hide (show zs.length = pn ∧ IRow w po pg zs ∧ (∀ z ∈ zs, -9223372036854775808 ≤ z ∧ z ≤ 9223372036854775807) ∧ pn ≤ pc ∧ pc ≤ maxLen from ⟨hpz, hpr, hpb, hpc, hpm⟩)
  have hpnm : (pn : Int) ≤ 9223372036854775807 := by unfold maxLen at hpm; omega
  clear W6 hM6 hpz hpr hpb hpc hpm
  have HW0 := hide W0
  have HW1 := hide W1
  have HW2 := hide W2
  have HW3 := hide W3
  have HA := hide (show (0 ≤ A1 ∧ A1 < 99) ∧ (0 ≤ A2 ∧ A2 < 256) ∧ 0 ≤ A3 ∧ A3 < 256 from ⟨⟨b1, b1'⟩, ⟨b2, b2'⟩, b3, b3'⟩)
  clear W0 W1 W2 W3 ht hA1 hA2 hA3 b2 b2' b3 b3'
  go_enter Tryz.func4, Tryz.ntmps4
  go_wp2_with fail
  refine (known11_any w).mono ?_
  rintro e w1 ⟨rfl, hk⟩
  have HT := hide hk
  clear hk
  by_cases hlen : 12 < n
  · have hl1 : (12 : Int) < (n : Int) := by omega
    go_wp2_with fail
    go_ret
    exact ⟨rfl, unhide HT⟩
  have hl1 : (n : Int) ≤ 12 := by omega
  go_wp2_with fail
  refine (unhide HW0 _).mono ?_
  rintro e wx ⟨rfl, hwx⟩
  rw [hwx]
  clear hwx wx
  go_wp2_with fail
  refine (unhide HW1 _).mono ?_
  rintro e wx ⟨rfl, hwx⟩
  rw [hwx]
  clear hwx wx
  go_wp2_with fail
  refine (unhide HW2 _).mono ?_
  rintro e wx ⟨rfl, hwx⟩
  rw [hwx]
  clear hwx wx
  go_wp2_with fail
  refine (unhide HW3 _).mono ?_
  rintro e wx ⟨rfl, hwx⟩
  rw [hwx]
  clear hwx wx
  go_wp2_with fail
  refine (unhide HW6 _).mono ?_
  rintro e wx ⟨rfl, hwx⟩
  rw [hwx]
  clear hwx wx
  go_wp2_with fail
  have hsl := slots11_any ao n c g L (t + 4) (by omega) _ ((unhide HL).below (unhide HT))
  rw [show ((t + 4 : Nat) : Int) = 6 + (t : Int) - 2 by omega] at hsl
  refine hsl.mono ?_
  clear hsl
  rintro e w2 ⟨v, rfl, hO, hk⟩
  obtain ⟨sa, sn, sc, sg, hv, hE⟩ := hO.arg'
  have hs01 := (unhide HT).size
  have HOS := hide (hO.mono hs01)
  clear hs01
  subst hv
  replace HT := hide ((unhide HT).trans (hk.mono (unhide HT).size))
  have HE := hide hE
  clear hk hO hE
  obtain ⟨S, hS⟩ : ∃ S, gdSl L (t + 4) = S := ⟨_, rfl⟩
  have HSL : Hid (S.length ≤ t + 4) := by rw [← hS, gdSl_len]; show _ ≤ _; omega
  have HSK : Hid (okL S) := by rw [← hS]; exact gdSl_okL _
  rw [hS] at HE HOS
  clear hS
  go_wp2_with fail
  refine (renc11_any (6 + (t : Int)) (1 + A1) A2 A3 sa sn sc sg S w2 (unhide HE)).mono ?_
  rintro e w3 h
  obtain ⟨hk, aow3, mw3, kw3, Gw3, Aw3, Cw3, rfl, hR⟩ := EncR.use h
  replace HT := hide ((unhide HT).trans (hk.mono (unhide HT).size))
  replace HE := hide ((unhide HE).below hk)
  replace HOS := hide ((unhide HOS).below hk)
  have HRw3 := hide hR
  clear h hk hR
  have hokh : okH (1 + A1) A2 A3 := ⟨⟨by have := (unhide HA).1; omega, by have := (unhide HA).1; omega⟩, ⟨by have := (unhide HA).2.1; omega, by have := (unhide HA).2.1; omega⟩, by have := (unhide HA).2.2; omega, by have := (unhide HA).2.2; omega⟩
  have HOH := hide hokh
  have hokr : okRow (6 + (t : Int)) (1 + A1) A2 A3 S := ⟨⟨by omega, by omega⟩, hokh, by have := unhide HSL; omega, unhide HSK⟩
  rw [encE_ok hokr]
  rw [encX_ok hokr, show (6 + (t : Int) - 2).toNat = t + 4 by omega] at HRw3
  have hmm : mw3 = t + 6 := by
    obtain ⟨_, _, hv, -⟩ := (unhide HRw3).ex
    rw [encL_len] at hv
    cases hv
    rfl
  subst hmm
  clear hokr hokh
  have HPOK : Hid (∀ i, (S.getD i zEV).Ok) := (unhide HE).get_ok
  have hzr := unhide HZA
  have hpl := places_any po pg pn pc zs hzr.1 (IRow.below (unhide HT) hzr.2.1) hzr.2.2.2.1 hzr.2.2.2.2 hzr.2.2.1 (t + 6) 3 (by omega) (by omega) (by omega) (w := w3)
  rw [show ((t + 6 : Nat) : Int) = 6 + (t : Int) by omega] at hpl
  have HPL := hide hpl
  clear hzr hpl
  go_wp2_with fail
  refine (unhide HPL).mono ?_
  rintro e w4 ⟨v, ps, rfl, hnd, hpn, hp3, hO, hk⟩
  obtain ⟨zg, hZ, -⟩ := places_z (n := t + 6) hO (by omega) hpn
  obtain ⟨zo, zc, hv, -⟩ := hZ.ex
  rw [ints_len] at hv
  subst hv
  replace HT := hide ((unhide HT).trans (hk.mono (unhide HT).size))
  replace HE := hide ((unhide HE).below hk)
  replace HOS := hide ((unhide HOS).below hk)
  replace HRw3 := hide ((unhide HRw3).below hk)
  have HZ := hide hZ
  have HND := hide hnd
  have HPN := hide hpn
  have HP3 := hide hp3
  have hp3' : (ps.length : Int) ≤ 3 := by omega
  clear HPL hk hO hZ hnd hpn
  go_wp2_with fail
  have hpg := pgs11_any _ (t + 6) _ _ _ _ _ zo ps.length zc zg ps rfl (by rw [encL_len]) (by omega) (by omega) (unhide HPN) w4 (unhide HRw3) (unhide HZ)
  refine hpg.mono ?_
  clear hpg
  rintro e w5 ⟨gf, v, Gp, rfl, hPB, hgf, hk⟩
  replace HT := hide ((unhide HT).trans (hk.mono (unhide HT).size))
  replace HE := hide ((unhide HE).below hk)
  replace HOS := hide ((unhide HOS).below hk)
  replace HRw3 := hide ((unhide HRw3).below hk)
  replace HZ := hide ((unhide HZ).below hk)
  obtain ⟨cP, hvP, hcP, hcPm⟩ := hPB.ex
  have hPA := hPB.arg
  rw [pagesL_len] at hvP
  subst hvP
  have hdf := decF_back (d := t + 4) (a := 1 + A1) (b := A2) (c := A3) (S := S) (unhide HPOK) (unhide HSK) (by omega) (by omega) (unhide HOH) (A := Aw3) (C := Cw3) (gf := gf) (lost := ps) (unhide HND) (fun i hi => by have := unhide HPN i hi; omega) (most := (M : Int)) ⟨by omega, by omega⟩
  have hdec := dec11_any A2 A3 _ _ _ _ _ (M : Int) (fun i => by
    by_cases hi : i < t + 6
    · rw [pagesL_get hi]
      split
      · simp [lostP]
      · have hf := (encL_facts (a := 1 + A1) (b := A2) (c := A3) (d := t + 4) (unhide HPOK) (by omega) (by omega)).1 i (by omega)
        show ((encL (t + 4) (1 + A1) A2 A3 S).getD i []).length ≤ 100000
        rw [hf]; omega
    · rw [List.getD_eq_getElem?_getD, List.getElem?_eq_none (by rw [pagesL_len]; omega)]; simp [zPV]) w5 hPA
  have HDF := hide hdf
  have HDEC := hide hdec
  clear hk hPB hPA hgf hdf hdec hcP hcPm
  go_wp2_with fail
  refine (unhide HDEC).mono ?_
  rintro e w6 ⟨hk, v, hx, sv, g6, hv, hEA, hgb⟩
  have hdf := unhide HDF
  rw [show t + 4 + 2 = t + 6 from rfl] at hdf
  rw [hdf] at hx hv hEA hgb
  have hz56 := (unhide HT).size
  clear HDF HDEC hdf
  by_cases hmo : (M : Int) < (ps.length : Int)
  · rw [if_pos hmo] at hx hv hEA
    replace HT := hide ((unhide HT).trans (hk.mono (unhide HT).size))
    obtain ⟨so, sc6, hs, -⟩ := hEA.ex
    subst hs
    subst hv
    subst hx
    clear hEA hgb hk
    dsimp only [zRow, List.length_nil]
    go_wp2_with fail
    go_ret
    exact ⟨rfl, (unhide HT).alloc (unhide HT).size _⟩
  · rw [if_neg hmo] at hx hv hEA hgb
    have hP : (List.range (t + 4)).map (fun i => S.getD i zEV) = padS S (t + 4) := rfl
    rw [hP] at hx hv hEA hgb
    obtain ⟨P, hPP⟩ : ∃ P, padS S (t + 4) = P := ⟨_, rfl⟩
    have hPl : P.length = t + 4 := by rw [← hPP, padS_len]
    rw [hPP] at hx hv hEA hgb
    dsimp only at hx hv hEA hgb
    obtain ⟨so, sc6, hs, -⟩ := hEA.ex
    rw [hPl] at hs
    subst hs
    subst hv
    subst hx
    obtain ⟨hsn, -, -, -⟩ := (unhide HE).mrow
    obtain ⟨w7, hw7⟩ : ∃ w7, w6.alloc (.cells #[.int .i64 (1 + A1), .int .i64 A3, .slice so (t + 4) sc6] 37) = w7 := ⟨_, rfl⟩
    have hk67 : Below w6.heap.size w6 w7 := by rw [← hw7]; exact (Below.refl _ w6).alloc (Nat.le_refl _) _
    have hz7 : w7.heap.size = w6.heap.size + 1 := by rw [← hw7]; simp
    have HRW : Hid (RwAt w7 w6.heap.size (1 + A1) A3 (.slice so (t + 4) sc6)) := ⟨by rw [← hw7]; exact World.alloc_heap_new w6 _⟩
    have HEA := hide (hEA.below hk67)
    have HOS7 := hide (((unhide HOS).below hk).below hk67)
    have HOSB : Hid (∀ b, (Value.slice sa sn sc).ownBlock = some b → b < w5.heap.size) := fun b hb => ((unhide HOS).1.own.lt b hb).2
    have HGB := hide hgb
    have hz6 := hk.size
    replace HT := hide (((unhide HT).trans (hk.mono hz56)).trans (hk67.mono (by omega)))
    have HW7 := hide hw7
    have HPP := hide hPP
    have hbt0 := build_TE0
    have hmo2 : (ps.length : Int) ≤ (M : Int) := by omega
    have hz7a := Nat.le_of_eq hz7
    have hz7b := Nat.le_of_eq hz7.symm
    have HSN := hide hsn
    clear hk hk67 hEA hgb hw7 hmo hPP hP hz7 hsn
    go_wp2_with fail
    rw [unhide HW7]
    rw [show decide (M < ps.length) = false from decide_eq_false (by omega)]
    go_loopw [16] (fun v wr => ∃ k, S.length ≤ k ∧ k ≤ t + 4 ∧ OwnE w.heap.size wr v (padS S k) ∧ Below w.heap.size w wr ∧ w7.heap.size ≤ wr.heap.size ∧ (∀ q, q < w7.heap.size → (Value.slice sa sn sc).ownBlock ≠ some q → wr.heap[q]? = w7.heap[q]?) ∧ (∀ b, v.ownBlock = some b → (Value.slice sa sn sc).ownBlock = some b ∨ w7.heap.size ≤ b)) (fun v _ => t + 4 - lenV v)
    case atStart => exact ⟨S.length, Nat.le_refl _, unhide HSL, by rw [padS_self]; exact unhide HOS7, unhide HT, Nat.le_refl _, fun _ _ _ => rfl, fun b hb => .inl hb⟩
    case round =>
      obtain ⟨k, hk1, hk2, hO, hB, hz, hq, hbk⟩ := hrel
      obtain ⟨va, vc, hv, -⟩ := hO.1.shape
      rw [padS_len] at hv
      subst hv
      have HO := hide hO
      have HB := hide hB
      have HQ := hide hq
      have HBK := hide hbk
      have HK1 := hide hk1
      clear hO hB hq hbk hk1
      by_cases hlt : k < t + 4
      · have hi1 : (k : Int) < 6 + (t : Int) - 2 := by omega
        have hal := (Below.refl wr.heap.size wr).alloc (Nat.le_refl _) (.cells zEV.ar 44)
        have hza : (wr.alloc (.cells zEV.ar 44)).heap.size = wr.heap.size + 1 := by simp
        obtain ⟨v9, w9, hr9, ho9, hg9⟩ := run_append_ev (wr.alloc (.cells zEV.ar 44)) w.heap.size 22 (.slice va k vc) (padS S k) ((unhide HO).below hal) wr.heap.size 0 zEV (range_ev wr zEV 44) zEV_ok (by rw [padS_len]; omega) (by have := (unhide HB).size; omega)
        have hblk := append_blk11 _ _ _ _ _ ((unhide HO).below hal) _ _ _ (range_ev wr zEV 44) zEV_ok (by rw [padS_len]; omega) hr9
        obtain ⟨ua, uc, hu, -⟩ := ho9.1.shape
        rw [List.length_append, padS_len] at hu
        subst hu
        have HB9 : Hid (Below w.heap.size w w9) := ((unhide HB).trans (hal.mono (unhide HB).size)).trans ⟨hg9.os, hg9.tape, hg9.output, hg9.size, fun q hq => hg9.block q (by have := (unhide HB).size; omega) (fun e => by have := ((unhide HO).below hal).1.ownBlock e.symm; omega)⟩
        have HO9 : Hid (OwnE w.heap.size w9 (.slice ua (k + 1) uc) (padS S (k + 1))) := by rw [padS_snoc (unhide HK1)]; exact ho9
        have HQ9 : Hid (∀ q, q < w7.heap.size → (Value.slice sa sn sc).ownBlock ≠ some q → w9.heap[q]? = w7.heap[q]?) := fun q h1 h2 => ((hg9.block q (by omega) (fun e => by
          rcases unhide HBK q e.symm with h | h
          · exact h2 h
          · omega)).trans (hal.block q (by omega))).trans (unhide HQ q h1 h2)
        have HBK9 : Hid (∀ b, (Value.slice ua (k + 1) uc).ownBlock = some b → (Value.slice sa sn sc).ownBlock = some b ∨ w7.heap.size ≤ b) := fun b hb => by
          rcases hblk b hb with h | h
          · exact unhide HBK b h
          · exact .inr (by omega)
        have HZ9 : Hid (w7.heap.size ≤ w9.heap.size) := by have := hg9.size; show _ ≤ _; omega
        have HRA := hide hr9
        have HK3 : Hid (S.length ≤ k + 1) := by have := unhide HK1; show _ ≤ _; omega
        clear hr9 ho9 hg9 hblk hal hza
        go_wp2_with (first | (refine wpList_build_ev11 rfl _ rfl zEV zEV_ok rfl ?_) | (at_builtin; refine wpList_append_run rfl _ _ _ _ _ rfl _ _ rfl rfl (unhide HRA) ?_))
        go_roundw
        case rel => exact ⟨k + 1, unhide HK3, by omega, unhide HO9, unhide HB9, unhide HZ9, unhide HQ9, unhide HBK9⟩
        case measure => simp [lenV]; omega
      · have hkk : k = t + 4 := by omega
        subst hkk
        have hi1 : 6 + (t : Int) - 2 ≤ ((t + 4 : Nat) : Int) := by omega
        have HRX : Hid (RwAt wr w6.heap.size (1 + A1) A3 (.slice so (t + 4) sc6)) := (unhide HRW).of (unhide HQ _ (by omega) (fun e => by have := unhide HOSB _ e; omega))
        have HEX : Hid (EArg wr (.slice so (t + 4) sc6) g6 P) := (unhide HEA).of (fun hne => unhide HQ _ ((unhide HEA).lt hne) (fun e => by have := unhide HOSB _ e; have := unhide HGB hne; omega))
        obtain ⟨xa, xn, xc, xg, hx, hX⟩ := (unhide HO).arg'
        obtain ⟨rfl, rfl, rfl⟩ : va = xa ∧ t + 4 = xn ∧ vc = xc := by cases hx; exact ⟨rfl, rfl, rfl⟩
        have HSR := hide (samerow_any ⟨1 + A1, A3, P⟩ ⟨1 + A1, A3, padS S (t + 4)⟩ so va (t + 4) (t + 4) sc6 vc g6 xg wr (unhide HEX) hX true ⟨fun _ => ⟨rfl, rfl, (unhide HPP).symm⟩, fun _ => rfl⟩)
        clear hX hx
        go_wp2_with (refine wpList_load_want10 rfl 37 _ rfl w6.heap.size rfl 37 #[.int .i64 (1 + A1), .int .i64 A3, .slice so (t + 4) sc6] _ _ (unhide HRX).blk Tryz.underlying37 rfl (by kernel_rfl) ?_)
        refine (unhide HSR).mono ?_
        rintro e w9 ⟨rfl, hk⟩
        have HB9 := hide ((unhide HB).trans (hk.mono (unhide HB).size))
        clear hk
        go_wp2_with fail
        go_ret
        exact ⟨rfl, unhide HB9⟩

end Go.Proofs.YtjdikhelabibnaaGreat
