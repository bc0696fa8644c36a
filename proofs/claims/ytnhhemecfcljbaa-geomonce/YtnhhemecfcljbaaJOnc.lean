/-
  The walk of GeomOnce.
-/
import Derived.Test.YtnhhemecfcljbaaK9m
import Derived.Test.YtnhhemecfcljbaaM6
namespace Go.Proofs.Ytnhhemecfcljbaa
open Go.RowKit Go.Shelf

set_option maxRecDepth 100000 in
set_option maxHeartbeats 16000000 in
theorem gonce_walk (a b c : Int) (ao : Option Addr) (n cz gz : Nat) (zs : List Int) (w : World) (hZ : ZArg w (.slice ao n cz) gz zs) :
    Calls Try.prog 4 #[.agg #[.int .i64 a, .int .i64 b, .int .i64 c], .slice ao n cz] w fun x w' => x = .returned (.bool true) ∧ Below w.heap.size w w' := by
  obtain ⟨W, hW, hG, hb⟩ := GeoAt.new w a b c
  have HT := hide hb
  have HG := hide hG
  have HZ := hide (hZ.below hb)
  clear hG hb hZ
  go_enter Try.func4, Try.ntmps4
  go_wp2_with fail
  refine (known9_any _).mono ?_
  rintro e w1 ⟨rfl, hk⟩
  have hws := (unhide HT).size
  replace HG := hide ((unhide HG).below hk)
  replace HZ := hide ((unhide HZ).below hk)
  replace HT := hide ((unhide HT).trans (hk.mono hws))
  have c0 := (unhide HG).c0
  have c1 := (unhide HG).c1
  have c2 := (unhide HG).c2
  clear hk hW
  go_wp2_with fail
  clear c0 c1 c2
  refine (make_any a b c _).mono ?_
  rintro e w2 ⟨D, B, P, hok, hq, rfl, hk⟩
  clear hq
  replace HZ := hide ((unhide HZ).below hk)
  replace HT := hide ((unhide HT).trans (hk.mono (unhide HT).size))
  clear hk HG
  obtain ⟨V, hV, hG, hb⟩ := GeoAt.new w2 D B P
  replace HZ := hide ((unhide HZ).below hb)
  replace HT := hide ((unhide HT).trans (hb.mono (unhide HT).size))
  have HG := hide hG
  have c0 := hG.c0
  have c1 := hG.c1
  have c2 := hG.c2
  clear hb hG
  have HOK := hide hok
  obtain ⟨⟨d1, d2⟩, ⟨b1, b2⟩, p1, p2⟩ := hok
  go_wp2_with fail
  clear c0 c1 c2
  refine (spoil_any D B P ao n cz gz zs _ (by omega) (by omega) (by omega) (unhide HZ)).mono ?_
  rintro e w3 ⟨v3, rfl, hO, hk⟩
  replace HG := hide ((unhide HG).below hk)
  replace HT := hide ((unhide HT).trans (hk.mono (unhide HT).size))
  have HSN := hide (spo_sn (D := D) (B := B) (zs := zs) (k := min n D))
  obtain ⟨bad, hbad⟩ : ∃ bad, spo B zs (min n D) = bad := ⟨_, rfl⟩
  rw [hbad] at hO HSN
  obtain ⟨gp, hP⟩ := hO.parg
  obtain ⟨po, pc, hv3⟩ := hO.shape
  subst hv3
  obtain ⟨nb, hnb⟩ : ∃ nb, bad.length = nb := ⟨_, rfl⟩
  rw [hnb] at hP ⊢
  have HP := hide hP
  have c0 := (unhide HG).c0
  have c1 := (unhide HG).c1
  have c2 := (unhide HG).c2
  have hnm := (parg_len hP).2
  have HNB := hide hnb
  clear hO hk hP hbad HZ hV hnb
  go_wp2_with fail
  clear c0 c1 c2
  refine (gsupers_any D B P bad po nb pc gp _ (unhide HP)).mono ?_
  rintro e w4 ⟨v4, rfl, hO, hk⟩
  rw [supG_ok (unhide HOK)] at hO
  replace HG := hide ((unhide HG).below hk)
  replace HP := hide ((unhide HP).below' hk)
  replace HT := hide ((unhide HT).trans (hk.mono (unhide HT).size))
  obtain ⟨so, sc, hv4⟩ := hO.sl
  subst hv4
  have HSL := hide (sup9_len D B bad)
  obtain ⟨m, hm⟩ : ∃ m, sn9 D B bad = m := ⟨_, rfl⟩
  rw [hm] at HSL HSN
  have hsn1 := (unhide HSN).1
  have hsn2 := (unhide HSN).2
  have hml := unhide HSL
  rw [hml] at hO ⊢
  have HR := hide hO
  have HM := hide hm
  have hws4 := (unhide HT).size
  clear hk hO hm hml HSN
  go_wp2_with fail
  go_loopw [8] (fun q wr => ∃ i : Nat, q = .int .i64 i ∧ i ≤ m ∧ Hid (Below w4.heap.size w4 wr)) (fun q _ => m - (intOf q).toNat)
  case atStart => exact ⟨0, rfl, by omega, Below.refl _ _⟩
  case round =>
    obtain ⟨i, rfl, hi, HK⟩ := hrel
    obtain ⟨wa, rfl⟩ : ∃ wa, wa = wr := ⟨_, rfl⟩
    by_cases hlt : i < m
    · have hi1 : (i : Int) < (m : Int) := by omega
      have c0 := ((unhide HG).below (unhide HK)).c0
      have HRa := hide ((unhide HR).below (unhide HK))
      obtain ⟨G, hso⟩ := (unhide HRa).top9 (by rw [unhide HSL]; omega)
      subst hso
      obtain ⟨ua, uc, hc, hu⟩ := (unhide HRa).row9 (i := i) (by rw [unhide HSL]; exact hlt)
      rw [sup9_row_len (by rw [unhide HM]; exact hlt)] at hc hu
      have HU := hide hu
      clear hu
      go_wp2_with fail
      go_quiet (fail)
      clear c0 hc
      go_wp2_with fail
      go_loopw [9] (fun q wr => ∃ d : Nat, q = .int .i64 d ∧ d ≤ D ∧ Hid (Below wa.heap.size wa wr)) (fun q _ => D - (intOf q).toNat)
      case atStart => exact ⟨0, rfl, by omega, below_qN (Below.refl _ _) _⟩
      case round =>
        obtain ⟨d, rfl, hd, HKb⟩ := hrel
        obtain ⟨wb, rfl⟩ : ∃ wb, wb = wr := ⟨_, rfl⟩
        have HK4 := hide ((unhide HK).trans ((unhide HKb).mono (unhide HK).size))
        have c0 := ((unhide HG).below (unhide HK4)).c0
        by_cases hld : d < D
        · have hd1 : (d : Int) < (D : Int) := by omega
          have HRb := hide ((unhide HR).below (unhide HK4))
          obtain ⟨ub, uc2, hc, hu⟩ := (unhide HRb).row9 (i := i) (by rw [unhide HSL]; exact hlt)
          have hrl := sup9_row_len (D := D) (B := B) (bad := bad) (i := i) (by rw [unhide HM]; exact hlt)
          rw [hrl] at hc hu
          obtain ⟨q, hq, hcq⟩ := hu.item9 (d := d) (by rw [hrl]; exact hld)
          subst hq
          obtain ⟨x, hx, hxB, hxb⟩ := sup9_item (D := D) (B := B) (bad := bad) (i := i) (d := d) (by rw [unhide HM]; exact hlt) hld
          rw [hx] at hcq
          have c1 := ((unhide HG).below (unhide HK4)).c1
          have HX := hide hx
          have HXB := hide hxb
          have hx0 : (0 : Int) ≤ (x : Int) := by omega
          have hx1 : (x : Int) < (B : Int) := by omega
          clear hu hrl hx hxb
          have HG4 := hide ((unhide HG).below (unhide HK4))
          have HCEI := hide hc
          have HCEX := hide hcq
          have HTb := hide ((unhide HT).trans ((unhide HK4).mono hws4))
          have HBL4 := HK4
          have HBLA := HKb
          clear c1 hc hcq
          by_cases hi0 : i = 0
          · have hi2 : ¬ (0 < i) := by omega
            have HI2 := hide hi2
            clear hi0 hi2
            go_wp2_with fail
            clear c0
            have hi2 := unhide HI2
            replace HTb := hide ((unhide HTb).drew)
            replace HG4 := hide ((unhide HG4).below (Below.refl _ _).drew)
            replace HCEI := hide (((Below.refl _ _).drew.cell (block_lt_of_cell (unhide HCEI))).trans (unhide HCEI))
            replace HCEX := hide (((Below.refl _ _).drew.cell (block_lt_of_cell (unhide HCEX))).trans (unhide HCEX))
            replace HBL4 := hide ((unhide HBL4).drew)
            replace HBLA := hide ((unhide HBLA).drew)
            refine wp_region_noPanic ?_
            refine wp_region_held_drew (S := fun W => Below wb.drew.heap.size wb.drew W) (by kernel_rfl) (Below.refl _ _) (fun hHeld => ?_)
            have HH := hide hHeld
            clear hHeld
            generalize wb.drew = w11 at HTb HG4 HCEI HCEX HBL4 HBLA HH ⊢
            refine takeL (i := 0) (v := ?_) rfl (by kernel_rfl) (by kernel_rfl) (by kernel_rfl) (fun _ _ _ h => h) (Or.inl ⟨by rfl, ?_⟩) (unhide HH) ?_
            rotate_left 1
            · intro W hSW; go_simp; all_goals (with_reducible rfl)
            (try simp only [Act.put, List.setIfInBounds_toArray, List.set_cons_zero, List.set_cons_succ])
            refine takeL (i := 1) (v := ?_) rfl (by kernel_rfl) (by kernel_rfl) (by kernel_rfl) (fun _ _ _ h => h) (Or.inl ⟨by rfl, ?_⟩) (unhide HH) ?_
            rotate_left 1
            · intro W hSW; go_simp; all_goals (with_reducible rfl)
            (try simp only [Act.put, List.setIfInBounds_toArray, List.set_cons_zero, List.set_cons_succ])
            refine takeL (i := 2) (v := ?_) rfl (by kernel_rfl) (by kernel_rfl) (by kernel_rfl) (fun _ _ _ h => h) (Or.inl ⟨by rfl, ?_⟩) (unhide HH) ?_
            rotate_left 1
            · intro W hSW; go_simp; all_goals (with_reducible rfl)
            (try simp only [Act.put, List.setIfInBounds_toArray, List.set_cons_zero, List.set_cons_succ])
            refine takeL (i := 3) (v := ?_) rfl (by kernel_rfl) (by kernel_rfl) (by kernel_rfl) (fun _ _ _ h => h) (Or.inl ⟨by rfl, ?_⟩) (unhide HH) ?_
            rotate_left 1
            · intro W1 hSW; have hcl := (hSW.cell (block_lt_of_cell (unhide HCEI))).trans (unhide HCEI); clear hSW; go_simp; all_goals (with_reducible rfl)
            (try simp only [Act.put, List.setIfInBounds_toArray, List.set_cons_zero, List.set_cons_succ])
            refine takeL (i := 4) (v := ?_) rfl (by kernel_rfl) (by kernel_rfl) (by kernel_rfl) (fun _ _ _ h => h) (Or.inl ⟨by rfl, ?_⟩) (unhide HH) ?_
            rotate_left 1
            · intro W hSW; go_simp; all_goals (with_reducible rfl)
            (try simp only [Act.put, List.setIfInBounds_toArray, List.set_cons_zero, List.set_cons_succ])
            refine takeL (i := 5) (v := ?_) rfl (by kernel_rfl) (by kernel_rfl) (by kernel_rfl) (fun _ _ _ h => h) (Or.inl ⟨by rfl, ?_⟩) (unhide HH) ?_
            rotate_left 1
            · intro W hSW; go_simp; all_goals (with_reducible rfl)
            (try simp only [Act.put, List.setIfInBounds_toArray, List.set_cons_zero, List.set_cons_succ])
            refine takeL (i := 6) (v := ?_) rfl (by kernel_rfl) (by kernel_rfl) (by kernel_rfl) (fun _ _ _ h => h) (Or.inl ⟨by rfl, ?_⟩) (unhide HH) ?_
            rotate_left 1
            · intro W1 hSW; have hcl := (hSW.cell (block_lt_of_cell (unhide HCEX))).trans (unhide HCEX); clear hSW; go_simp; all_goals (with_reducible rfl)
            (try simp only [Act.put, List.setIfInBounds_toArray, List.set_cons_zero, List.set_cons_succ])
            refine takeL (i := 7) (v := .bool false) rfl (by kernel_rfl) (by kernel_rfl) (by kernel_rfl) (fun _ _ _ h => h) (Or.inl ⟨by rfl, ?_⟩) (unhide HH) ?_
            · intro W hSW; clear hSW; go_simp; all_goals (exact hx0)
            (try simp only [Act.put, List.setIfInBounds_toArray, List.set_cons_zero, List.set_cons_succ])
            refine takeL (i := 8) (v := ?_) rfl (by kernel_rfl) (by kernel_rfl) (by kernel_rfl) (fun _ _ _ h => h) (Or.inl ⟨by rfl, ?_⟩) (unhide HH) ?_
            rotate_left 1
            · intro W hSW; go_simp; all_goals (with_reducible rfl)
            (try simp only [Act.put, List.setIfInBounds_toArray, List.set_cons_zero, List.set_cons_succ])
            refine takeL (i := 9) (v := ?_) rfl (by kernel_rfl) (by kernel_rfl) (by kernel_rfl) (fun _ _ _ h => h) (Or.inl ⟨by rfl, ?_⟩) (unhide HH) ?_
            rotate_left 1
            · intro W hSW; go_simp; all_goals (with_reducible rfl)
            (try simp only [Act.put, List.setIfInBounds_toArray, List.set_cons_zero, List.set_cons_succ])
            refine takeL (i := 10) (v := ?_) rfl (by kernel_rfl) (by kernel_rfl) (by kernel_rfl) (fun _ _ _ h => h) (Or.inl ⟨by rfl, ?_⟩) (unhide HH) ?_
            rotate_left 1
            · intro W hSW; go_simp; all_goals (with_reducible rfl)
            (try simp only [Act.put, List.setIfInBounds_toArray, List.set_cons_zero, List.set_cons_succ])
            refine takeL (i := 11) (v := ?_) rfl (by kernel_rfl) (by kernel_rfl) (by kernel_rfl) (fun _ _ _ h => h) (Or.inl ⟨by rfl, ?_⟩) (unhide HH) ?_
            rotate_left 1
            · intro W hSW; go_simp; all_goals (with_reducible rfl)
            (try simp only [Act.put, List.setIfInBounds_toArray, List.set_cons_zero, List.set_cons_succ])
            refine takeL (i := 12) (v := ?_) rfl (by kernel_rfl) (by kernel_rfl) (by kernel_rfl) (fun _ _ _ h => h) (Or.inl ⟨by rfl, ?_⟩) (unhide HH) ?_
            rotate_left 1
            · intro W1 hSW; have hcl := (hSW.cell (block_lt_of_cell (unhide HCEI))).trans (unhide HCEI); clear hSW; go_simp; all_goals (with_reducible rfl)
            (try simp only [Act.put, List.setIfInBounds_toArray, List.set_cons_zero, List.set_cons_succ])
            refine takeL (i := 13) (v := ?_) rfl (by kernel_rfl) (by kernel_rfl) (by kernel_rfl) (fun _ _ _ h => h) (Or.inl ⟨by rfl, ?_⟩) (unhide HH) ?_
            rotate_left 1
            · intro W hSW; go_simp; all_goals (with_reducible rfl)
            (try simp only [Act.put, List.setIfInBounds_toArray, List.set_cons_zero, List.set_cons_succ])
            refine takeL (i := 14) (v := ?_) rfl (by kernel_rfl) (by kernel_rfl) (by kernel_rfl) (fun _ _ _ h => h) (Or.inl ⟨by rfl, ?_⟩) (unhide HH) ?_
            rotate_left 1
            · intro W hSW; go_simp; all_goals (with_reducible rfl)
            (try simp only [Act.put, List.setIfInBounds_toArray, List.set_cons_zero, List.set_cons_succ])
            refine takeL (i := 15) (v := ?_) rfl (by kernel_rfl) (by kernel_rfl) (by kernel_rfl) (fun _ _ _ h => h) (Or.inl ⟨by rfl, ?_⟩) (unhide HH) ?_
            rotate_left 1
            · intro W1 hSW; have hcl := (hSW.cell (block_lt_of_cell (unhide HCEX))).trans (unhide HCEX); clear hSW; go_simp; all_goals (with_reducible rfl)
            (try simp only [Act.put, List.setIfInBounds_toArray, List.set_cons_zero, List.set_cons_succ])
            refine takeL (i := 16) (v := ?_) rfl (by kernel_rfl) (by kernel_rfl) (by kernel_rfl) (fun _ _ _ h => h) (Or.inl ⟨by rfl, ?_⟩) (unhide HH) ?_
            rotate_left 1
            · intro W hSW; go_simp; all_goals (with_reducible rfl)
            (try simp only [Act.put, List.setIfInBounds_toArray, List.set_cons_zero, List.set_cons_succ])
            refine takeL (i := 17) (v := ?_) rfl (by kernel_rfl) (by kernel_rfl) (by kernel_rfl) (fun _ _ _ h => h) (Or.inl ⟨by rfl, ?_⟩) (unhide HH) ?_
            rotate_left 1
            · intro W1 hSW; have hc := ((unhide HG4).below hSW).c1; clear hSW; go_simp; all_goals (with_reducible rfl)
            (try simp only [Act.put, List.setIfInBounds_toArray, List.set_cons_zero, List.set_cons_succ])
            refine takeL (i := 18) (v := .bool false) rfl (by kernel_rfl) (by kernel_rfl) (by kernel_rfl) (fun _ _ _ h => h) (Or.inl ⟨by rfl, ?_⟩) (unhide HH) ?_
            · intro W hSW; clear hSW; go_simp; all_goals (exact hxB)
            (try simp only [Act.put, List.setIfInBounds_toArray, List.set_cons_zero, List.set_cons_succ])
            refine takeL (i := 19) (v := ?_) rfl (by kernel_rfl) (by kernel_rfl) (by kernel_rfl) (fun _ _ _ h => h) (Or.inl ⟨by rfl, ?_⟩) (unhide HH) ?_
            rotate_left 1
            · intro W hSW; go_simp; all_goals (with_reducible rfl)
            (try simp only [Act.put, List.setIfInBounds_toArray, List.set_cons_zero, List.set_cons_succ])
            refine takeL (i := 20) (v := ?_) rfl (by kernel_rfl) (by kernel_rfl) (by kernel_rfl) (fun _ _ _ h => h) (Or.inl ⟨by rfl, ?_⟩) (unhide HH) ?_
            rotate_left 1
            · intro W hSW; go_simp; all_goals (with_reducible rfl)
            (try simp only [Act.put, List.setIfInBounds_toArray, List.set_cons_zero, List.set_cons_succ])
            refine takeL (i := 21) (v := ?_) rfl (by kernel_rfl) (by kernel_rfl) (by kernel_rfl) (fun _ _ _ h => h) (Or.inl ⟨by rfl, ?_⟩) (unhide HH) ?_
            rotate_left 1
            · intro W hSW; go_simp; all_goals (with_reducible rfl)
            (try simp only [Act.put, List.setIfInBounds_toArray, List.set_cons_zero, List.set_cons_succ])
            refine takeL (i := 22) (v := .bool false) rfl (by kernel_rfl) (by kernel_rfl) (by kernel_rfl) (fun _ _ _ h => h) (Or.inl ⟨by rfl, ?_⟩) (unhide HH) ?_
            · intro W hSW; clear hSW; go_simp; all_goals (exact hi2)
            (try simp only [Act.put, List.setIfInBounds_toArray, List.set_cons_zero, List.set_cons_succ])
            refine takeL (i := 23) (v := ?_) rfl (by kernel_rfl) (by kernel_rfl) (by kernel_rfl) (fun _ _ _ h => h) (Or.inl ⟨by rfl, ?_⟩) (unhide HH) ?_
            rotate_left 1
            · intro W hSW; go_simp; all_goals (with_reducible rfl)
            (try simp only [Act.put, List.setIfInBounds_toArray, List.set_cons_zero, List.set_cons_succ])
            refine takeL (i := 24) (v := undef) rfl (by kernel_rfl) (by kernel_rfl) (by kernel_rfl) (fun _ _ _ h => h) (Or.inr ⟨by rfl, rfl⟩) (unhide HH) ?_
            (try simp only [Act.put, List.setIfInBounds_toArray, List.set_cons_zero, List.set_cons_succ])
            refine takeL (i := 25) (v := undef) rfl (by kernel_rfl) (by kernel_rfl) (by kernel_rfl) (fun _ _ _ h => h) (Or.inr ⟨by rfl, rfl⟩) (unhide HH) ?_
            (try simp only [Act.put, List.setIfInBounds_toArray, List.set_cons_zero, List.set_cons_succ])
            refine takeL (i := 26) (v := undef) rfl (by kernel_rfl) (by kernel_rfl) (by kernel_rfl) (fun _ _ _ h => h) (Or.inr ⟨by rfl, rfl⟩) (unhide HH) ?_
            (try simp only [Act.put, List.setIfInBounds_toArray, List.set_cons_zero, List.set_cons_succ])
            refine takeL (i := 27) (v := undef) rfl (by kernel_rfl) (by kernel_rfl) (by kernel_rfl) (fun _ _ _ h => h) (Or.inr ⟨by rfl, rfl⟩) (unhide HH) ?_
            (try simp only [Act.put, List.setIfInBounds_toArray, List.set_cons_zero, List.set_cons_succ])
            refine takeL (i := 28) (v := undef) rfl (by kernel_rfl) (by kernel_rfl) (by kernel_rfl) (fun _ _ _ h => h) (Or.inr ⟨by rfl, rfl⟩) (unhide HH) ?_
            (try simp only [Act.put, List.setIfInBounds_toArray, List.set_cons_zero, List.set_cons_succ])
            refine takeL (i := 29) (v := undef) rfl (by kernel_rfl) (by kernel_rfl) (by kernel_rfl) (fun _ _ _ h => h) (Or.inr ⟨by rfl, rfl⟩) (unhide HH) ?_
            (try simp only [Act.put, List.setIfInBounds_toArray, List.set_cons_zero, List.set_cons_succ])
            refine takeL (i := 30) (v := undef) rfl (by kernel_rfl) (by kernel_rfl) (by kernel_rfl) (fun _ _ _ h => h) (Or.inr ⟨by rfl, rfl⟩) (unhide HH) ?_
            (try simp only [Act.put, List.setIfInBounds_toArray, List.set_cons_zero, List.set_cons_succ])
            refine takeL (i := 31) (v := undef) rfl (by kernel_rfl) (by kernel_rfl) (by kernel_rfl) (fun _ _ _ h => h) (Or.inr ⟨by rfl, rfl⟩) (unhide HH) ?_
            (try simp only [Act.put, List.setIfInBounds_toArray, List.set_cons_zero, List.set_cons_succ])
            refine takeL (i := 32) (v := undef) rfl (by kernel_rfl) (by kernel_rfl) (by kernel_rfl) (fun _ _ _ h => h) (Or.inr ⟨by rfl, rfl⟩) (unhide HH) ?_
            (try simp only [Act.put, List.setIfInBounds_toArray, List.set_cons_zero, List.set_cons_succ])
            refine takeL (i := 33) (v := undef) rfl (by kernel_rfl) (by kernel_rfl) (by kernel_rfl) (fun _ _ _ h => h) (Or.inr ⟨by rfl, rfl⟩) (unhide HH) ?_
            (try simp only [Act.put, List.setIfInBounds_toArray, List.set_cons_zero, List.set_cons_succ])
            refine takeL (i := 34) (v := undef) rfl (by kernel_rfl) (by kernel_rfl) (by kernel_rfl) (fun _ _ _ h => h) (Or.inr ⟨by rfl, rfl⟩) (unhide HH) ?_
            (try simp only [Act.put, List.setIfInBounds_toArray, List.set_cons_zero, List.set_cons_succ])
            refine takeL (i := 35) (v := undef) rfl (by kernel_rfl) (by kernel_rfl) (by kernel_rfl) (fun _ _ _ h => h) (Or.inr ⟨by rfl, rfl⟩) (unhide HH) ?_
            (try simp only [Act.put, List.setIfInBounds_toArray, List.set_cons_zero, List.set_cons_succ])
            refine takeL (i := 36) (v := undef) rfl (by kernel_rfl) (by kernel_rfl) (by kernel_rfl) (fun _ _ _ h => h) (Or.inr ⟨by rfl, rfl⟩) (unhide HH) ?_
            (try simp only [Act.put, List.setIfInBounds_toArray, List.set_cons_zero, List.set_cons_succ])
            refine takeL (i := 37) (v := undef) rfl (by kernel_rfl) (by kernel_rfl) (by kernel_rfl) (fun _ _ _ h => h) (Or.inr ⟨by rfl, rfl⟩) (unhide HH) ?_
            (try simp only [Act.put, List.setIfInBounds_toArray, List.set_cons_zero, List.set_cons_succ])
            refine takeL (i := 38) (v := undef) rfl (by kernel_rfl) (by kernel_rfl) (by kernel_rfl) (fun _ _ _ h => h) (Or.inr ⟨by rfl, rfl⟩) (unhide HH) ?_
            (try simp only [Act.put, List.setIfInBounds_toArray, List.set_cons_zero, List.set_cons_succ])
            refine takeL (i := 39) (v := undef) rfl (by kernel_rfl) (by kernel_rfl) (by kernel_rfl) (fun _ _ _ h => h) (Or.inr ⟨by rfl, rfl⟩) (unhide HH) ?_
            (try simp only [Act.put, List.setIfInBounds_toArray, List.set_cons_zero, List.set_cons_succ])
            refine takeL (i := 40) (v := ?_) rfl (by kernel_rfl) (by kernel_rfl) (by kernel_rfl) (fun _ _ _ h => h) (Or.inl ⟨by rfl, ?_⟩) (unhide HH) ?_
            rotate_left 1
            · intro W hSW; go_simp; all_goals (with_reducible rfl)
            (try simp only [Act.put, List.setIfInBounds_toArray, List.set_cons_zero, List.set_cons_succ])
            refine takeL (i := 41) (v := ?_) rfl (by kernel_rfl) (by kernel_rfl) (by kernel_rfl) (fun _ _ _ h => h) (Or.inl ⟨by rfl, ?_⟩) (unhide HH) ?_
            rotate_left 1
            · intro W hSW; go_simp; all_goals (with_reducible rfl)
            (try simp only [Act.put, List.setIfInBounds_toArray, List.set_cons_zero, List.set_cons_succ])
            refine wpAnyH_done (by kernel_rfl) ?_ _
            refine NoPanic.normal ?_
            clear HI2
            go_wp2_with fail
            go_loopw [10] (fun q wr => ∃ k : Nat, q = .int .i64 k ∧ k ≤ nb ∧ Hid (Below w11.heap.size w11 wr)) (fun q _ => nb - (intOf q).toNat)
            case atStart => exact ⟨0, rfl, by omega, Below.refl _ _⟩
            case round =>
              obtain ⟨k, rfl, hk, HKk⟩ := hrel
              by_cases hlk : k < nb
              · have hk1 : (k : Int) < (nb : Int) := by omega
                obtain ⟨hln, o, hpo, k0, k1⟩ := two_at ((unhide HP).below' ((unhide HBL4).trans ((unhide HKk).mono (unhide HBL4).size))) hlk
                subst hpo
                have ci := ((unhide HKk).cell (block_lt_of_cell (unhide HCEI))).trans (unhide HCEI)
                have cx := ((unhide HKk).cell (block_lt_of_cell (unhide HCEX))).trans (unhide HCEX)
                have hmem : bad.getD k (0, 0) ∈ bad := pair_mem (by omega)
                obtain ⟨⟨y0, y1⟩, hy⟩ : ∃ y, bad.getD k (0, 0) = y := ⟨_, rfl⟩
                rw [hy] at k0 k1 hmem
                dsimp only at k0 k1
                have hq : ∀ W : World, (binOp .eql 39 (.agg #[.int .i64 y0, .int .i64 y1]) (.agg #[.int .i64 (d : Int), .int .i64 (x : Int)])).run Try.prog W = .ok (.bool false) W := eqTA _ _ _ _ _ (by
                  rw [Bool.and_eq_false_iff]
                  by_cases h : y0 = (d : Int)
                  · right; rw [beq_eq_false_iff_ne]; intro h2; rw [h, h2] at hmem; exact unhide HXB hmem
                  · left; rw [beq_eq_false_iff_ne]; exact h)
                clear hy hln hmem
                go_wp2_with fail
                go_quiet (fail)
                go_wp2_with fail
                go_roundw
                case rel => exact ⟨k + 1, by go_num, by omega, below_qN (unhide HKk) _⟩
                case measure => simp [intOf]; omega
              · obtain rfl : k = nb := by omega
                go_wp2_with fail
                go_roundw
                case rel => exact ⟨d + 1, by go_num, by omega, (unhide HBLA).trans ((unhide HKk).mono (unhide HBLA).size)⟩
                case measure => simp [intOf]; omega
          · obtain ⟨j, hj⟩ : ∃ j, i = j + 1 := ⟨i - 1, by omega⟩
            have HJE : Hid ((i : Int) - 1 = (j : Int)) := by show _ = _; omega
            have hj1 : (j : Int) < (m : Int) := by omega
            have HI2 : Hid (0 < i) := by show _ < _; omega
            obtain ⟨ub3, uc3, hc3, hu3⟩ := (unhide HRb).row9 (i := j) (by rw [unhide HSL]; omega)
            have hrl := sup9_row_len (D := D) (B := B) (bad := bad) (i := j) (by rw [unhide HM]; omega)
            rw [hrl] at hc3 hu3
            obtain ⟨q3, hq3, hcq3⟩ := hu3.item9 (d := d) (by rw [hrl]; exact hld)
            subst hq3
            have hry := sup9_rise (D := D) (B := B) (bad := bad) (i := j) (d := d) (by rw [unhide HM]; omega) hld
            rw [← hj, unhide HX] at hry
            obtain ⟨y, hy⟩ : ∃ y, cf ((sup9 D B bad).getD j []) d = y := ⟨_, rfl⟩
            rw [hy] at hcq3 hry
            have HRY := hide hry
            have HCEJ := hide hc3
            have HCEY := hide hcq3
            clear hu3 hrl hy hj hi0 hc3 hcq3 hry
            go_wp2_with fail
            clear c0
            have hi2 := unhide HI2
            have hxy := unhide HRY
            replace HTb := hide ((unhide HTb).drew)
            replace HG4 := hide ((unhide HG4).below (Below.refl _ _).drew)
            replace HCEI := hide (((Below.refl _ _).drew.cell (block_lt_of_cell (unhide HCEI))).trans (unhide HCEI))
            replace HCEX := hide (((Below.refl _ _).drew.cell (block_lt_of_cell (unhide HCEX))).trans (unhide HCEX))
            replace HBL4 := hide ((unhide HBL4).drew)
            replace HBLA := hide ((unhide HBLA).drew)
            replace HCEJ := hide (((Below.refl _ _).drew.cell (block_lt_of_cell (unhide HCEJ))).trans (unhide HCEJ))
            replace HCEY := hide (((Below.refl _ _).drew.cell (block_lt_of_cell (unhide HCEY))).trans (unhide HCEY))
            refine wp_region_noPanic ?_
            refine wp_region_held_drew (S := fun W => Below wb.drew.heap.size wb.drew W) (by kernel_rfl) (Below.refl _ _) (fun hHeld => ?_)
            have HH := hide hHeld
            clear hHeld
            generalize wb.drew = w11 at HTb HG4 HCEI HCEX HBL4 HBLA HCEJ HCEY HH ⊢
            refine takeL (i := 0) (v := ?_) rfl (by kernel_rfl) (by kernel_rfl) (by kernel_rfl) (fun _ _ _ h => h) (Or.inl ⟨by rfl, ?_⟩) (unhide HH) ?_
            rotate_left 1
            · intro W hSW; go_simp; all_goals (with_reducible rfl)
            (try simp only [Act.put, List.setIfInBounds_toArray, List.set_cons_zero, List.set_cons_succ])
            refine takeL (i := 1) (v := ?_) rfl (by kernel_rfl) (by kernel_rfl) (by kernel_rfl) (fun _ _ _ h => h) (Or.inl ⟨by rfl, ?_⟩) (unhide HH) ?_
            rotate_left 1
            · intro W hSW; go_simp; all_goals (with_reducible rfl)
            (try simp only [Act.put, List.setIfInBounds_toArray, List.set_cons_zero, List.set_cons_succ])
            refine takeL (i := 2) (v := ?_) rfl (by kernel_rfl) (by kernel_rfl) (by kernel_rfl) (fun _ _ _ h => h) (Or.inl ⟨by rfl, ?_⟩) (unhide HH) ?_
            rotate_left 1
            · intro W hSW; go_simp; all_goals (with_reducible rfl)
            (try simp only [Act.put, List.setIfInBounds_toArray, List.set_cons_zero, List.set_cons_succ])
            refine takeL (i := 3) (v := ?_) rfl (by kernel_rfl) (by kernel_rfl) (by kernel_rfl) (fun _ _ _ h => h) (Or.inl ⟨by rfl, ?_⟩) (unhide HH) ?_
            rotate_left 1
            · intro W1 hSW; have hcl := (hSW.cell (block_lt_of_cell (unhide HCEI))).trans (unhide HCEI); clear hSW; go_simp; all_goals (with_reducible rfl)
            (try simp only [Act.put, List.setIfInBounds_toArray, List.set_cons_zero, List.set_cons_succ])
            refine takeL (i := 4) (v := ?_) rfl (by kernel_rfl) (by kernel_rfl) (by kernel_rfl) (fun _ _ _ h => h) (Or.inl ⟨by rfl, ?_⟩) (unhide HH) ?_
            rotate_left 1
            · intro W hSW; go_simp; all_goals (with_reducible rfl)
            (try simp only [Act.put, List.setIfInBounds_toArray, List.set_cons_zero, List.set_cons_succ])
            refine takeL (i := 5) (v := ?_) rfl (by kernel_rfl) (by kernel_rfl) (by kernel_rfl) (fun _ _ _ h => h) (Or.inl ⟨by rfl, ?_⟩) (unhide HH) ?_
            rotate_left 1
            · intro W hSW; go_simp; all_goals (with_reducible rfl)
            (try simp only [Act.put, List.setIfInBounds_toArray, List.set_cons_zero, List.set_cons_succ])
            refine takeL (i := 6) (v := ?_) rfl (by kernel_rfl) (by kernel_rfl) (by kernel_rfl) (fun _ _ _ h => h) (Or.inl ⟨by rfl, ?_⟩) (unhide HH) ?_
            rotate_left 1
            · intro W1 hSW; have hcl := (hSW.cell (block_lt_of_cell (unhide HCEX))).trans (unhide HCEX); clear hSW; go_simp; all_goals (with_reducible rfl)
            (try simp only [Act.put, List.setIfInBounds_toArray, List.set_cons_zero, List.set_cons_succ])
            refine takeL (i := 7) (v := .bool false) rfl (by kernel_rfl) (by kernel_rfl) (by kernel_rfl) (fun _ _ _ h => h) (Or.inl ⟨by rfl, ?_⟩) (unhide HH) ?_
            · intro W hSW; clear hSW; go_simp; all_goals (exact hx0)
            (try simp only [Act.put, List.setIfInBounds_toArray, List.set_cons_zero, List.set_cons_succ])
            refine takeL (i := 8) (v := ?_) rfl (by kernel_rfl) (by kernel_rfl) (by kernel_rfl) (fun _ _ _ h => h) (Or.inl ⟨by rfl, ?_⟩) (unhide HH) ?_
            rotate_left 1
            · intro W hSW; go_simp; all_goals (with_reducible rfl)
            (try simp only [Act.put, List.setIfInBounds_toArray, List.set_cons_zero, List.set_cons_succ])
            refine takeL (i := 9) (v := ?_) rfl (by kernel_rfl) (by kernel_rfl) (by kernel_rfl) (fun _ _ _ h => h) (Or.inl ⟨by rfl, ?_⟩) (unhide HH) ?_
            rotate_left 1
            · intro W hSW; go_simp; all_goals (with_reducible rfl)
            (try simp only [Act.put, List.setIfInBounds_toArray, List.set_cons_zero, List.set_cons_succ])
            refine takeL (i := 10) (v := ?_) rfl (by kernel_rfl) (by kernel_rfl) (by kernel_rfl) (fun _ _ _ h => h) (Or.inl ⟨by rfl, ?_⟩) (unhide HH) ?_
            rotate_left 1
            · intro W hSW; go_simp; all_goals (with_reducible rfl)
            (try simp only [Act.put, List.setIfInBounds_toArray, List.set_cons_zero, List.set_cons_succ])
            refine takeL (i := 11) (v := ?_) rfl (by kernel_rfl) (by kernel_rfl) (by kernel_rfl) (fun _ _ _ h => h) (Or.inl ⟨by rfl, ?_⟩) (unhide HH) ?_
            rotate_left 1
            · intro W hSW; go_simp; all_goals (with_reducible rfl)
            (try simp only [Act.put, List.setIfInBounds_toArray, List.set_cons_zero, List.set_cons_succ])
            refine takeL (i := 12) (v := ?_) rfl (by kernel_rfl) (by kernel_rfl) (by kernel_rfl) (fun _ _ _ h => h) (Or.inl ⟨by rfl, ?_⟩) (unhide HH) ?_
            rotate_left 1
            · intro W1 hSW; have hcl := (hSW.cell (block_lt_of_cell (unhide HCEI))).trans (unhide HCEI); clear hSW; go_simp; all_goals (with_reducible rfl)
            (try simp only [Act.put, List.setIfInBounds_toArray, List.set_cons_zero, List.set_cons_succ])
            refine takeL (i := 13) (v := ?_) rfl (by kernel_rfl) (by kernel_rfl) (by kernel_rfl) (fun _ _ _ h => h) (Or.inl ⟨by rfl, ?_⟩) (unhide HH) ?_
            rotate_left 1
            · intro W hSW; go_simp; all_goals (with_reducible rfl)
            (try simp only [Act.put, List.setIfInBounds_toArray, List.set_cons_zero, List.set_cons_succ])
            refine takeL (i := 14) (v := ?_) rfl (by kernel_rfl) (by kernel_rfl) (by kernel_rfl) (fun _ _ _ h => h) (Or.inl ⟨by rfl, ?_⟩) (unhide HH) ?_
            rotate_left 1
            · intro W hSW; go_simp; all_goals (with_reducible rfl)
            (try simp only [Act.put, List.setIfInBounds_toArray, List.set_cons_zero, List.set_cons_succ])
            refine takeL (i := 15) (v := ?_) rfl (by kernel_rfl) (by kernel_rfl) (by kernel_rfl) (fun _ _ _ h => h) (Or.inl ⟨by rfl, ?_⟩) (unhide HH) ?_
            rotate_left 1
            · intro W1 hSW; have hcl := (hSW.cell (block_lt_of_cell (unhide HCEX))).trans (unhide HCEX); clear hSW; go_simp; all_goals (with_reducible rfl)
            (try simp only [Act.put, List.setIfInBounds_toArray, List.set_cons_zero, List.set_cons_succ])
            refine takeL (i := 16) (v := ?_) rfl (by kernel_rfl) (by kernel_rfl) (by kernel_rfl) (fun _ _ _ h => h) (Or.inl ⟨by rfl, ?_⟩) (unhide HH) ?_
            rotate_left 1
            · intro W hSW; go_simp; all_goals (with_reducible rfl)
            (try simp only [Act.put, List.setIfInBounds_toArray, List.set_cons_zero, List.set_cons_succ])
            refine takeL (i := 17) (v := ?_) rfl (by kernel_rfl) (by kernel_rfl) (by kernel_rfl) (fun _ _ _ h => h) (Or.inl ⟨by rfl, ?_⟩) (unhide HH) ?_
            rotate_left 1
            · intro W1 hSW; have hc := ((unhide HG4).below hSW).c1; clear hSW; go_simp; all_goals (with_reducible rfl)
            (try simp only [Act.put, List.setIfInBounds_toArray, List.set_cons_zero, List.set_cons_succ])
            refine takeL (i := 18) (v := .bool false) rfl (by kernel_rfl) (by kernel_rfl) (by kernel_rfl) (fun _ _ _ h => h) (Or.inl ⟨by rfl, ?_⟩) (unhide HH) ?_
            · intro W hSW; clear hSW; go_simp; all_goals (exact hxB)
            (try simp only [Act.put, List.setIfInBounds_toArray, List.set_cons_zero, List.set_cons_succ])
            refine takeL (i := 19) (v := ?_) rfl (by kernel_rfl) (by kernel_rfl) (by kernel_rfl) (fun _ _ _ h => h) (Or.inl ⟨by rfl, ?_⟩) (unhide HH) ?_
            rotate_left 1
            · intro W hSW; go_simp; all_goals (with_reducible rfl)
            (try simp only [Act.put, List.setIfInBounds_toArray, List.set_cons_zero, List.set_cons_succ])
            refine takeL (i := 20) (v := ?_) rfl (by kernel_rfl) (by kernel_rfl) (by kernel_rfl) (fun _ _ _ h => h) (Or.inl ⟨by rfl, ?_⟩) (unhide HH) ?_
            rotate_left 1
            · intro W hSW; go_simp; all_goals (with_reducible rfl)
            (try simp only [Act.put, List.setIfInBounds_toArray, List.set_cons_zero, List.set_cons_succ])
            refine takeL (i := 21) (v := ?_) rfl (by kernel_rfl) (by kernel_rfl) (by kernel_rfl) (fun _ _ _ h => h) (Or.inl ⟨by rfl, ?_⟩) (unhide HH) ?_
            rotate_left 1
            · intro W hSW; go_simp; all_goals (with_reducible rfl)
            (try simp only [Act.put, List.setIfInBounds_toArray, List.set_cons_zero, List.set_cons_succ])
            refine takeL (i := 22) (v := .bool true) rfl (by kernel_rfl) (by kernel_rfl) (by kernel_rfl) (fun _ _ _ h => h) (Or.inl ⟨by rfl, ?_⟩) (unhide HH) ?_
            · intro W hSW; clear hSW; go_simp; all_goals (exact hi2)
            (try simp only [Act.put, List.setIfInBounds_toArray, List.set_cons_zero, List.set_cons_succ])
            refine takeL (i := 23) (v := ?_) rfl (by kernel_rfl) (by kernel_rfl) (by kernel_rfl) (fun _ _ _ h => h) (Or.inl ⟨by rfl, ?_⟩) (unhide HH) ?_
            rotate_left 1
            · intro W hSW; go_simp; all_goals (with_reducible rfl)
            (try simp only [Act.put, List.setIfInBounds_toArray, List.set_cons_zero, List.set_cons_succ])
            refine takeL (i := 24) (v := ?_) rfl (by kernel_rfl) (by kernel_rfl) (by kernel_rfl) (fun _ _ _ h => h) (Or.inl ⟨by rfl, ?_⟩) (unhide HH) ?_
            rotate_left 1
            · intro W hSW; go_simp; all_goals (with_reducible rfl)
            (try simp only [Act.put, List.setIfInBounds_toArray, List.set_cons_zero, List.set_cons_succ])
            refine takeL (i := 25) (v := ?_) rfl (by kernel_rfl) (by kernel_rfl) (by kernel_rfl) (fun _ _ _ h => h) (Or.inl ⟨by rfl, ?_⟩) (unhide HH) ?_
            rotate_left 1
            · intro W hSW; go_simp; all_goals (with_reducible rfl)
            (try simp only [Act.put, List.setIfInBounds_toArray, List.set_cons_zero, List.set_cons_succ])
            refine takeL (i := 26) (v := ?_) rfl (by kernel_rfl) (by kernel_rfl) (by kernel_rfl) (fun _ _ _ h => h) (Or.inl ⟨by rfl, ?_⟩) (unhide HH) ?_
            rotate_left 1
            · intro W hSW; go_simp; all_goals (with_reducible rfl)
            (try simp only [Act.put, List.setIfInBounds_toArray, List.set_cons_zero, List.set_cons_succ])
            refine takeL (i := 27) (v := ?_) rfl (by kernel_rfl) (by kernel_rfl) (by kernel_rfl) (fun _ _ _ h => h) (Or.inl ⟨by rfl, ?_⟩) (unhide HH) ?_
            rotate_left 1
            · intro W1 hSW; have hcl := (hSW.cell (block_lt_of_cell (unhide HCEI))).trans (unhide HCEI); clear hSW; go_simp; all_goals (with_reducible rfl)
            (try simp only [Act.put, List.setIfInBounds_toArray, List.set_cons_zero, List.set_cons_succ])
            refine takeL (i := 28) (v := ?_) rfl (by kernel_rfl) (by kernel_rfl) (by kernel_rfl) (fun _ _ _ h => h) (Or.inl ⟨by rfl, ?_⟩) (unhide HH) ?_
            rotate_left 1
            · intro W hSW; go_simp; all_goals (with_reducible rfl)
            (try simp only [Act.put, List.setIfInBounds_toArray, List.set_cons_zero, List.set_cons_succ])
            refine takeL (i := 29) (v := ?_) rfl (by kernel_rfl) (by kernel_rfl) (by kernel_rfl) (fun _ _ _ h => h) (Or.inl ⟨by rfl, ?_⟩) (unhide HH) ?_
            rotate_left 1
            · intro W hSW; go_simp; all_goals (with_reducible rfl)
            (try simp only [Act.put, List.setIfInBounds_toArray, List.set_cons_zero, List.set_cons_succ])
            refine takeL (i := 30) (v := ?_) rfl (by kernel_rfl) (by kernel_rfl) (by kernel_rfl) (fun _ _ _ h => h) (Or.inl ⟨by rfl, ?_⟩) (unhide HH) ?_
            rotate_left 1
            · intro W1 hSW; have hcl := (hSW.cell (block_lt_of_cell (unhide HCEX))).trans (unhide HCEX); clear hSW; go_simp; all_goals (with_reducible rfl)
            (try simp only [Act.put, List.setIfInBounds_toArray, List.set_cons_zero, List.set_cons_succ])
            refine takeL (i := 31) (v := ?_) rfl (by kernel_rfl) (by kernel_rfl) (by kernel_rfl) (fun _ _ _ h => h) (Or.inl ⟨by rfl, ?_⟩) (unhide HH) ?_
            rotate_left 1
            · intro W hSW; go_simp; all_goals (with_reducible rfl)
            (try simp only [Act.put, List.setIfInBounds_toArray, List.set_cons_zero, List.set_cons_succ])
            refine takeL (i := 32) (v := ?_) rfl (by kernel_rfl) (by kernel_rfl) (by kernel_rfl) (fun _ _ _ h => h) (Or.inl ⟨by rfl, ?_⟩) (unhide HH) ?_
            rotate_left 1
            · intro W hSW; go_simp; all_goals (with_reducible rfl)
            (try simp only [Act.put, List.setIfInBounds_toArray, List.set_cons_zero, List.set_cons_succ])
            refine takeL (i := 33) (v := .int .i64 (j : Int)) rfl (by kernel_rfl) (by kernel_rfl) (by kernel_rfl) (fun _ _ _ h => h) (Or.inl ⟨by rfl, ?_⟩) (unhide HH) ?_
            · intro W hSW; go_simp; rw [unhide HJE, IntWalk.i64_in _ ⟨by omega, by omega⟩]
            (try simp only [Act.put, List.setIfInBounds_toArray, List.set_cons_zero, List.set_cons_succ])
            refine takeL (i := 34) (v := ?_) rfl (by kernel_rfl) (by kernel_rfl) (by kernel_rfl) (fun _ _ _ h => h) (Or.inl ⟨by rfl, ?_⟩) (unhide HH) ?_
            rotate_left 1
            · intro W hSW; go_simp; all_goals (with_reducible rfl)
            (try simp only [Act.put, List.setIfInBounds_toArray, List.set_cons_zero, List.set_cons_succ])
            refine takeL (i := 35) (v := ?_) rfl (by kernel_rfl) (by kernel_rfl) (by kernel_rfl) (fun _ _ _ h => h) (Or.inl ⟨by rfl, ?_⟩) (unhide HH) ?_
            rotate_left 1
            · intro W1 hSW; have hcl := (hSW.cell (block_lt_of_cell (unhide HCEJ))).trans (unhide HCEJ); clear hSW; go_simp; all_goals (with_reducible rfl)
            (try simp only [Act.put, List.setIfInBounds_toArray, List.set_cons_zero, List.set_cons_succ])
            refine takeL (i := 36) (v := ?_) rfl (by kernel_rfl) (by kernel_rfl) (by kernel_rfl) (fun _ _ _ h => h) (Or.inl ⟨by rfl, ?_⟩) (unhide HH) ?_
            rotate_left 1
            · intro W hSW; go_simp; all_goals (with_reducible rfl)
            (try simp only [Act.put, List.setIfInBounds_toArray, List.set_cons_zero, List.set_cons_succ])
            refine takeL (i := 37) (v := ?_) rfl (by kernel_rfl) (by kernel_rfl) (by kernel_rfl) (fun _ _ _ h => h) (Or.inl ⟨by rfl, ?_⟩) (unhide HH) ?_
            rotate_left 1
            · intro W hSW; go_simp; all_goals (with_reducible rfl)
            (try simp only [Act.put, List.setIfInBounds_toArray, List.set_cons_zero, List.set_cons_succ])
            refine takeL (i := 38) (v := ?_) rfl (by kernel_rfl) (by kernel_rfl) (by kernel_rfl) (fun _ _ _ h => h) (Or.inl ⟨by rfl, ?_⟩) (unhide HH) ?_
            rotate_left 1
            · intro W1 hSW; have hcl := (hSW.cell (block_lt_of_cell (unhide HCEY))).trans (unhide HCEY); clear hSW; go_simp; all_goals (with_reducible rfl)
            (try simp only [Act.put, List.setIfInBounds_toArray, List.set_cons_zero, List.set_cons_succ])
            refine takeL (i := 39) (v := .bool false) rfl (by kernel_rfl) (by kernel_rfl) (by kernel_rfl) (fun _ _ _ h => h) (Or.inl ⟨by rfl, ?_⟩) (unhide HH) ?_
            · intro W hSW; clear hSW; go_simp; all_goals (exact hxy)
            (try simp only [Act.put, List.setIfInBounds_toArray, List.set_cons_zero, List.set_cons_succ])
            refine takeL (i := 40) (v := ?_) rfl (by kernel_rfl) (by kernel_rfl) (by kernel_rfl) (fun _ _ _ h => h) (Or.inl ⟨by rfl, ?_⟩) (unhide HH) ?_
            rotate_left 1
            · intro W hSW; go_simp; all_goals (with_reducible rfl)
            (try simp only [Act.put, List.setIfInBounds_toArray, List.set_cons_zero, List.set_cons_succ])
            refine takeL (i := 41) (v := ?_) rfl (by kernel_rfl) (by kernel_rfl) (by kernel_rfl) (fun _ _ _ h => h) (Or.inl ⟨by rfl, ?_⟩) (unhide HH) ?_
            rotate_left 1
            · intro W hSW; go_simp; all_goals (with_reducible rfl)
            (try simp only [Act.put, List.setIfInBounds_toArray, List.set_cons_zero, List.set_cons_succ])
            refine wpAnyH_done (by kernel_rfl) ?_ _
            refine NoPanic.normal ?_
            clear HI2
            go_wp2_with fail
            go_loopw [10] (fun q wr => ∃ k : Nat, q = .int .i64 k ∧ k ≤ nb ∧ Hid (Below w11.heap.size w11 wr)) (fun q _ => nb - (intOf q).toNat)
            case atStart => exact ⟨0, rfl, by omega, Below.refl _ _⟩
            case round =>
              obtain ⟨k, rfl, hk, HKk⟩ := hrel
              by_cases hlk : k < nb
              · have hk1 : (k : Int) < (nb : Int) := by omega
                obtain ⟨hln, o, hpo, k0, k1⟩ := two_at ((unhide HP).below' ((unhide HBL4).trans ((unhide HKk).mono (unhide HBL4).size))) hlk
                subst hpo
                have ci := ((unhide HKk).cell (block_lt_of_cell (unhide HCEI))).trans (unhide HCEI)
                have cx := ((unhide HKk).cell (block_lt_of_cell (unhide HCEX))).trans (unhide HCEX)
                have hmem : bad.getD k (0, 0) ∈ bad := pair_mem (by omega)
                obtain ⟨⟨y0, y1⟩, hy⟩ : ∃ y, bad.getD k (0, 0) = y := ⟨_, rfl⟩
                rw [hy] at k0 k1 hmem
                dsimp only at k0 k1
                have hq : ∀ W : World, (binOp .eql 39 (.agg #[.int .i64 y0, .int .i64 y1]) (.agg #[.int .i64 (d : Int), .int .i64 (x : Int)])).run Try.prog W = .ok (.bool false) W := eqTA _ _ _ _ _ (by
                  rw [Bool.and_eq_false_iff]
                  by_cases h : y0 = (d : Int)
                  · right; rw [beq_eq_false_iff_ne]; intro h2; rw [h, h2] at hmem; exact unhide HXB hmem
                  · left; rw [beq_eq_false_iff_ne]; exact h)
                clear hy hln hmem
                go_wp2_with fail
                go_quiet (fail)
                go_wp2_with fail
                go_roundw
                case rel => exact ⟨k + 1, by go_num, by omega, below_qN (unhide HKk) _⟩
                case measure => simp [intOf]; omega
              · obtain rfl : k = nb := by omega
                go_wp2_with fail
                go_roundw
                case rel => exact ⟨d + 1, by go_num, by omega, (unhide HBLA).trans ((unhide HKk).mono (unhide HBLA).size)⟩
                case measure => simp [intOf]; omega
        · obtain rfl : d = D := by omega
          go_wp2_with fail
          clear c0
          go_roundw
          case rel => exact ⟨i + 1, by go_num, by omega, HK4⟩
          case measure => simp [intOf]; omega
    · obtain rfl : i = m := by omega
      have c1 := ((unhide HG).below (unhide HK)).c1
      have hle1 : (B : Int) - 1 ≤ (i : Int) := by omega
      have hle2 : (i : Int) ≤ (B : Int) := by omega
      go_wp2_with fail
      go_ret
      exact ⟨rfl, (unhide HT).trans ((unhide HK).mono hws4)⟩

end Go.Proofs.Ytnhhemecfcljbaa
