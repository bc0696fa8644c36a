/-
  The walk of BchSums.
-/
import Derived.Test.YtahjcahmlangiaaLp
import Derived.Test.YtahjcahmlangiaaHd
import Derived.Test.YtahjcahmlangiaaHa
namespace Go.Proofs.Ytahjcahmlangiaa
open Go.RowKit

set_option maxRecDepth 100000 in
set_option maxHeartbeats 8000000 in
theorem sums_walk (va vb : Value) (ga gb : Nat) (a b : List Nat) (w : World) (hA : Arg w va ga a) (hB : Arg w vb gb b) :
    Calls Try.prog 7 #[va, vb] w fun x w' => x = .returned (.bool true) ∧ Below w.heap.size w w' := by
  have HA := hide hA
  have HB := hide hB
  obtain ⟨⟨ao, c, rfl, _⟩, _⟩ := hA
  obtain ⟨⟨bo, d, rfl, _⟩, _⟩ := hB
  have hmk24 : ∀ w : World, (Instr.makeSlice 22 (.int .i64 24) (.int .i64 24)).run Try.prog w = .ok (.slice (some ⟨w.heap.size, 0, none⟩) 24 24) (w.alloc (.cells (List.replicate 24 (Value.int .u8 0)).toArray 5)) := run_zeros 24 (by omega)
  have HZ24 := hide (fun W : World => zeros_arg 24 (by omega) W)
  have HZB24 := hide (fun W : World => blk_zeros 24 W)
  obtain ⟨z24, hz24⟩ : ∃ z, (List.replicate 24 (Value.int .u8 0)).toArray = z := ⟨_, rfl⟩
  rw [hz24] at HZ24 HZB24
  simp only [hz24] at hmk24
  clear hz24
  have HT : Hid (Below w.heap.size w w) := Below.refl _ _
  go_enter Try.func7, Try.ntmps7
  go_wp2_with fail
  refine (known_any _).mono ?_
  rintro e w1 ⟨rfl, hk⟩
  replace HA := hide ((unhide HA).below hk)
  replace HB := hide ((unhide HB).below hk)
  replace HT := hide ((unhide HT).trans (hk.mono (unhide HT).size))
  clear hk
  go_wp2_with fail
  refine (data_any _ _ a 24 (by omega) _ (unhide HA)).mono ?_
  rintro e w2 ⟨v2, x, rfl, hlx, hbx, hF, hk⟩
  replace HA := hide ((unhide HA).below hk)
  replace HB := hide ((unhide HB).below hk)
  replace HT := hide ((unhide HT).trans (hk.mono (unhide HT).size))
  obtain ⟨g2, hA, hge⟩ := hF.arg hbx
  obtain ⟨⟨ao2, c2, rfl, h1, h2, h3, h4⟩, _⟩ := hA
  have HA2 : Hid (Arg w2 (.slice ao2 24 c2) g2 (x)) := ⟨⟨ao2, c2, by rw [hlx], h1, h2, h3, h4⟩, hbx⟩
  rw [show (x).length = 24 from hlx]
  clear h1 h2 h3 h4 hF hge
  clear hk
  go_wp2_with fail
  refine (data_any _ _ b 24 (by omega) _ (unhide HB)).mono ?_
  rintro e w3 ⟨v3, y, rfl, hly, hby, hF, hk⟩
  replace HA := hide ((unhide HA).below hk)
  replace HB := hide ((unhide HB).below hk)
  replace HA2 := hide ((unhide HA2).below hk)
  replace HT := hide ((unhide HT).trans (hk.mono (unhide HT).size))
  obtain ⟨g3, hA, hge⟩ := hF.arg hby
  obtain ⟨⟨ao3, c3, rfl, h1, h2, h3, h4⟩, _⟩ := hA
  have HA3 : Hid (Arg w3 (.slice ao3 24 c3) g3 (y)) := ⟨⟨ao3, c3, by rw [hly], h1, h2, h3, h4⟩, hby⟩
  rw [show (y).length = 24 from hly]
  clear h1 h2 h3 h4 hF hge
  clear hk
  go_wp2_with fail
  have hg2 := (unhide HA2).lt (ne_len hlx)
  have hg3 := (unhide HA3).lt (ne_len hly)
  have hw3 := (unhide HT).size
  have hk : Below w3.heap.size w3 (w3.alloc (.cells z24 5)) := (Below.refl _ _).alloc (Nat.le_refl _) _
  have hA := unhide HZ24 w3
  have hZB := unhide HZB24 w3
  generalize w3.alloc (.cells z24 5) = w4 at hk hA hZB ⊢
  replace HA := hide ((unhide HA).below hk)
  replace HB := hide ((unhide HB).below hk)
  replace HA2 := hide ((unhide HA2).below hk)
  replace HA3 := hide ((unhide HA3).below hk)
  replace HT := hide ((unhide HT).trans (hk.mono (unhide HT).size))
  have HA4 := hide hA
  clear hA
  have HZB := hide hZB
  clear hZB
  clear hk
  clear hmk24
  go_loopw [8] (fun p wr => ∃ (i : Nat) (s : List Nat), p = .int .i64 i ∧ i ≤ 24 ∧ s.length = 24 ∧ (∀ j, cf s j = if j < i then cf x j ^^^ cf y j else 0) ∧ Blk wr w3.heap.size s ∧ Kp [] w wr ∧ Kp [w3.heap.size] w4 wr) (fun p _ => 24 - (intOf p).toNat)
  case atStart => exact ⟨0, _, rfl, by omega, List.length_replicate, fun j => by rw [cf_zeros]; rfl, unhide HZB, (Kp.refl [] w).ofBelow (unhide HT), Kp.refl _ _⟩
  case round =>
    obtain ⟨i, s, rfl, hi, hsl, hsc, hBk, hK, hK4⟩ := hrel
    have HSC := hide hsc
    have HBk := hide hBk
    have HK := hide hK
    have HK4 := hide hK4
    clear hsc hBk hK hK4
    by_cases hlt : i < 24
    · have hi1 : (i : Int) < 24 := by omega
      obtain ⟨oX, eX, cX⟩ := ((unhide HA2).keep (unhide HK4) (by simp; omega)).cells (ne_len hlx)
      obtain ⟨oY, eY, cY⟩ := ((unhide HA3).keep (unhide HK4) (by simp; omega)).cells (ne_len hly)
      cases eX
      cases eY
      have HCX := hide (cX i (by omega))
      have HCY := hide (cY i (by omega))
      have hxor := bits_xor_u8 (hbx i) (hby i)
      clear cX cY
      go_wp2_with fail
      refine wp_region_noPanic ?_
      refine wp_region_held_drew (S := fun W => Kp [w3.heap.size] wr W) (by kernel_rfl) ((Kp.refl _ _).drew) (fun hHeld => ?_)
      have HH := hide hHeld
      clear hHeld
      refine takeL (i := 0) (v := ?_) rfl (by kernel_rfl) (by kernel_rfl) (by kernel_rfl) (fun _ _ _ h => h) (Or.inl ⟨by rfl, ?_⟩) (unhide HH) ?_
      rotate_left 1
      · intro W hSW; go_simp; all_goals (with_reducible rfl)
      (try simp only [Act.put, List.setIfInBounds_toArray, List.set_cons_zero, List.set_cons_succ])
      refine takeL (i := 1) (v := ?_) rfl (by kernel_rfl) (by kernel_rfl) (by kernel_rfl) (fun _ _ _ h => h) (Or.inl ⟨by rfl, ?_⟩) (unhide HH) ?_
      rotate_left 1
      · intro W hSW; go_simp; all_goals (with_reducible rfl)
      (try simp only [Act.put, List.setIfInBounds_toArray, List.set_cons_zero, List.set_cons_succ])
      refine takeL (i := 2) (v := ?_) rfl (by kernel_rfl) (by kernel_rfl) (by kernel_rfl) (fun _ _ _ h => h) (Or.inl ⟨by rfl, ?_⟩) (unhide HH) ?_
      rotate_left 1
      · intro W hSW; go_simp; all_goals (with_reducible rfl)
      (try simp only [Act.put, List.setIfInBounds_toArray, List.set_cons_zero, List.set_cons_succ])
      refine takeL (i := 3) (v := ?_) rfl (by kernel_rfl) (by kernel_rfl) (by kernel_rfl) (fun _ _ _ h => h) (Or.inl ⟨by rfl, ?_⟩) (unhide HH) ?_
      rotate_left 1
      · intro W hSW; go_simp; all_goals (with_reducible rfl)
      (try simp only [Act.put, List.setIfInBounds_toArray, List.set_cons_zero, List.set_cons_succ])
      refine takeL (i := 4) (v := ?_) rfl (by kernel_rfl) (by kernel_rfl) (by kernel_rfl) (fun _ _ _ h => h) (Or.inl ⟨by rfl, ?_⟩) (unhide HH) ?_
      rotate_left 1
      · intro W hSW; go_simp; all_goals (with_reducible rfl)
      (try simp only [Act.put, List.setIfInBounds_toArray, List.set_cons_zero, List.set_cons_succ])
      refine takeL (i := 5) (v := ?_) rfl (by kernel_rfl) (by kernel_rfl) (by kernel_rfl) (fun _ _ _ h => h) (Or.inl ⟨by rfl, ?_⟩) (unhide HH) ?_
      rotate_left 1
      · intro W1 hSW; have hc := hSW.cell (unhide HCX) (by simp; omega); clear hSW; go_simp; all_goals (with_reducible rfl)
      (try simp only [Act.put, List.setIfInBounds_toArray, List.set_cons_zero, List.set_cons_succ])
      refine takeL (i := 6) (v := ?_) rfl (by kernel_rfl) (by kernel_rfl) (by kernel_rfl) (fun _ _ _ h => h) (Or.inl ⟨by rfl, ?_⟩) (unhide HH) ?_
      rotate_left 1
      · intro W hSW; go_simp; all_goals (with_reducible rfl)
      (try simp only [Act.put, List.setIfInBounds_toArray, List.set_cons_zero, List.set_cons_succ])
      refine takeL (i := 7) (v := ?_) rfl (by kernel_rfl) (by kernel_rfl) (by kernel_rfl) (fun _ _ _ h => h) (Or.inl ⟨by rfl, ?_⟩) (unhide HH) ?_
      rotate_left 1
      · intro W hSW; go_simp; all_goals (with_reducible rfl)
      (try simp only [Act.put, List.setIfInBounds_toArray, List.set_cons_zero, List.set_cons_succ])
      refine takeL (i := 8) (v := ?_) rfl (by kernel_rfl) (by kernel_rfl) (by kernel_rfl) (fun _ _ _ h => h) (Or.inl ⟨by rfl, ?_⟩) (unhide HH) ?_
      rotate_left 1
      · intro W hSW; go_simp; all_goals (with_reducible rfl)
      (try simp only [Act.put, List.setIfInBounds_toArray, List.set_cons_zero, List.set_cons_succ])
      refine takeL (i := 9) (v := ?_) rfl (by kernel_rfl) (by kernel_rfl) (by kernel_rfl) (fun _ _ _ h => h) (Or.inl ⟨by rfl, ?_⟩) (unhide HH) ?_
      rotate_left 1
      · intro W1 hSW; have hc := hSW.cell (unhide HCY) (by simp; omega); clear hSW; go_simp; all_goals (with_reducible rfl)
      (try simp only [Act.put, List.setIfInBounds_toArray, List.set_cons_zero, List.set_cons_succ])
      refine takeL (i := 10) (v := ?_) rfl (by kernel_rfl) (by kernel_rfl) (by kernel_rfl) (fun _ _ _ h => h) (Or.inl ⟨by rfl, ?_⟩) (unhide HH) ?_
      rotate_left 1
      · intro W hSW; go_simp; all_goals (with_reducible rfl)
      (try simp only [Act.put, List.setIfInBounds_toArray, List.set_cons_zero, List.set_cons_succ])
      refine takeL (i := 11) (v := ?_) rfl (by kernel_rfl) (by kernel_rfl) (by kernel_rfl) (fun _ _ _ h => h) (Or.inl ⟨by rfl, ?_⟩) (unhide HH) ?_
      rotate_left 1
      · intro W hSW; go_simp; all_goals (with_reducible rfl)
      (try simp only [Act.put, List.setIfInBounds_toArray, List.set_cons_zero, List.set_cons_succ])
      refine wpAnyH_ready (rs := [12]) (by kernel_rfl) (by simp) ?_
      refine consL rfl (fun K hK => ?_) AllReadyH.nil
      have hc4 := ((unhide HBk).of (w' := wr.drew) rfl).cell (j := i) (by omega)
      have hf4 := ((unhide HBk).of (w' := wr.drew) rfl).free (j := i)
      have HH2 := HH
      go_simp
      refine hK.out _ _ ((unhide HH2).setCell ⟨w3.heap.size, i, none⟩ _ (.inl (by simp))) (fun hHeld => ?_)
      clear hHeld hK K hc4 hf4
      (try simp only [Act.put, List.setIfInBounds_toArray, List.set_cons_zero, List.set_cons_succ])
      refine wpAnyH_done (by kernel_rfl) ?_ _
      refine NoPanic.normal ?_
      go_wp2_with fail
      go_roundw
      case rel =>
        refine ⟨i + 1, s.set i (cf x i ^^^ cf y i), by go_num, by omega, by simp [hsl], ?_, ((unhide HBk).set i _ (by omega)).of rfl, ((unhide HK).setCell ⟨w3.heap.size, i, none⟩ _ (.inr (by omega))).drew, ((unhide HK4).setCell ⟨w3.heap.size, i, none⟩ _ (.inl (by simp))).drew⟩
        intro j
        rw [cf_set _ _ _ _ (by omega), unhide HSC]
        by_cases e : j = i
        · rw [if_pos e, if_pos (by omega), e]
        · rw [if_neg e]
          by_cases e2 : j < i
          · rw [if_pos e2, if_pos (by omega)]
          · rw [if_neg e2, if_neg (by omega)]
      case measure => simp [intOf]; omega
    · have hi2 : i = 24 := by omega
      subst hi2
      have hpl : (padd x y).length = 24 := by rw [padd_len (by rw [hlx, hly]), hlx]
      have hsx : s = padd x y := eq_of_cf (by rw [hsl, hpl]) (fun j => by
        rw [unhide HSC, cf_padd]
        by_cases e : j < 24
        · rw [if_pos e]
        · rw [if_neg e, cf_ge (p := x) (by omega), cf_ge (p := y) (by omega)]
          rfl)
      subst hsx
      have hlz := hpl
      have hbz : Bs (padd x y) := hbx.padd hby
      replace HA2 := hide ((unhide HA2).keep (unhide HK4) (by simp; omega))
      replace HA3 := hide ((unhide HA3).keep (unhide HK4) (by simp; omega))
      replace HT := hide (unhide HK).below
      have HZ : Hid (Arg wr (.slice (some ⟨w3.heap.size, 0, none⟩) 24 24) w3.heap.size (padd x y)) := by
        have h := (unhide HBk).arg hbz (c := 24) (by omega) (by unfold maxLen; omega)
        rw [hlz] at h
        exact h
      clear hi hsl hlt
      go_wp2_with fail
      refine (encode_any _ _ (x) _ (unhide HA2) hlx).mono ?_
      rintro e w11 ⟨v11, rfl, hF, hk⟩
      replace HA2 := hide ((unhide HA2).below hk)
      replace HA3 := hide ((unhide HA3).below hk)
      replace HZ := hide ((unhide HZ).below hk)
      replace HT := hide ((unhide HT).trans (hk.mono (unhide HT).size))
      obtain ⟨g11, hA, hge⟩ := hF.arg (encF_bs hbx)
      obtain ⟨⟨ao11, c11, rfl, h1, h2, h3, h4⟩, _⟩ := hA
      have HA11 : Hid (Arg w11 (.slice ao11 28 c11) g11 (encF (x))) := ⟨⟨ao11, c11, by rw [(encF_len hlx)], h1, h2, h3, h4⟩, (encF_bs hbx)⟩
      rw [show (encF (x)).length = 28 from (encF_len hlx)]
      clear h1 h2 h3 h4 hF hge
      clear hk
      go_wp2_with fail
      refine (encode_any _ _ (y) _ (unhide HA3) hly).mono ?_
      rintro e w12 ⟨v12, rfl, hF, hk⟩
      replace HA2 := hide ((unhide HA2).below hk)
      replace HA3 := hide ((unhide HA3).below hk)
      replace HZ := hide ((unhide HZ).below hk)
      replace HA11 := hide ((unhide HA11).below hk)
      replace HT := hide ((unhide HT).trans (hk.mono (unhide HT).size))
      obtain ⟨g12, hA, hge⟩ := hF.arg (encF_bs hby)
      obtain ⟨⟨ao12, c12, rfl, h1, h2, h3, h4⟩, _⟩ := hA
      have HA12 : Hid (Arg w12 (.slice ao12 28 c12) g12 (encF (y))) := ⟨⟨ao12, c12, by rw [(encF_len hly)], h1, h2, h3, h4⟩, (encF_bs hby)⟩
      rw [show (encF (y)).length = 28 from (encF_len hly)]
      clear h1 h2 h3 h4 hF hge
      clear hk
      go_wp2_with fail
      refine (encode_any _ _ (padd x y) _ (unhide HZ) hlz).mono ?_
      rintro e w13 ⟨v13, rfl, hF, hk⟩
      replace HA2 := hide ((unhide HA2).below hk)
      replace HA3 := hide ((unhide HA3).below hk)
      replace HZ := hide ((unhide HZ).below hk)
      replace HA11 := hide ((unhide HA11).below hk)
      replace HA12 := hide ((unhide HA12).below hk)
      replace HT := hide ((unhide HT).trans (hk.mono (unhide HT).size))
      obtain ⟨g13, hA, hge⟩ := hF.arg (encF_bs hbz)
      obtain ⟨⟨ao13, c13, rfl, h1, h2, h3, h4⟩, _⟩ := hA
      have HA13 : Hid (Arg w13 (.slice ao13 28 c13) g13 (encF (padd x y))) := ⟨⟨ao13, c13, by rw [(encF_len hlz)], h1, h2, h3, h4⟩, (encF_bs hbz)⟩
      rw [show (encF (padd x y)).length = 28 from (encF_len hlz)]
      clear h1 h2 h3 h4 hF hge
      clear hk
      go_wp2_with fail
      have hux := encF_sum hlx hly hbx hby
      obtain ⟨oV, eV, cV⟩ := (unhide HA11).cells (ne_len (encF_len hlx))
      obtain ⟨oW, eW, cW⟩ := (unhide HA12).cells (ne_len (encF_len hly))
      obtain ⟨oU, eU, cU⟩ := (unhide HA13).cells (ne_len (encF_len hlz))
      cases eV
      cases eW
      cases eU
      have CV := hide cV
      have CW := hide cW
      have CU := hide cU
      have HUX := hide hux
      clear cV cW cU hux
      go_loopw [12] (fun p w9 => ∃ (i : Nat), p = .int .i64 i ∧ i ≤ 28 ∧ Below w13.heap.size w13 w9) (fun p _ => 28 - (intOf p).toNat)
      case atStart => exact ⟨0, rfl, by omega, Below.refl _ _⟩
      case round =>
        obtain ⟨i, rfl, hi, hnd⟩ := hrel
        have HND := hide hnd
        by_cases hlt : i < 28
        · have hi1 : (i : Int) < 28 := by omega
          have k1 := unhide CU i (by rw [encF_len hlz]; exact hlt)
          have k2 := unhide CV i (by rw [encF_len hlx]; exact hlt)
          have k3 := unhide CW i (by rw [encF_len hly]; exact hlt)
          rw [unhide HUX, cf_padd] at k1
          replace k1 := (hnd.cell (block_lt_of_cell k1)).trans k1
          replace k2 := (hnd.cell (block_lt_of_cell k2)).trans k2
          replace k3 := (hnd.cell (block_lt_of_cell k3)).trans k3
          have hxor := bits_xor_u8 (encF_bs hbx i) (encF_bs hby i)
          clear hnd
          go_wp2_with fail
          go_quiet (fail)
          go_wp2_with fail
          go_roundw
          case rel => exact ⟨i + 1, by go_num, by omega, ⟨(unhide HND).os, (unhide HND).tape, (unhide HND).output, (unhide HND).size, (unhide HND).block⟩⟩
          case measure => simp [intOf]; omega
        · have hi2 : i = 28 := by omega
          subst hi2
          clear hnd
          replace HA2 := hide ((unhide HA2).below (unhide HND))
          replace HA3 := hide ((unhide HA3).below (unhide HND))
          replace HA11 := hide ((unhide HA11).below (unhide HND))
          replace HA12 := hide ((unhide HA12).below (unhide HND))
          replace HT := hide ((unhide HT).trans ((unhide HND).mono (unhide HT).size))
          go_wp2_with fail
          refine (apart_any _ _ _ _ (encF x) (encF y) _ (unhide HA11) (unhide HA12) (encF_len hlx) (encF_len hly)).mono ?_
          rintro e w20 ⟨aod, cd, rfl, hk⟩
          replace HA2 := hide ((unhide HA2).below hk)
          replace HA3 := hide ((unhide HA3).below hk)
          replace HT := hide ((unhide HT).trans (hk.mono (unhide HT).size))
          clear hk
          have hc1 := conv_arg (unhide HA2)
          have hc2 := conv_arg (unhide HA3)
          by_cases hxy : x = y
          · subst hxy
            rw [diff_self]
            go_wp2
            go_ret
            exact ⟨rfl, unhide HT⟩
          · have h9 := encF_apart hlx hly hbx hby hxy
            generalize (diff (encF x) (encF y)).length = n9 at h9 ⊢
            have h9i : (9 : Int) ≤ (n9 : Int) := by omega
            have h90 : ((n9 : Int) == 0) = false := by rw [beq_eq_false_iff_ne]; omega
            go_wp2
            go_ret
            exact ⟨rfl, unhide HT⟩

end Go.Proofs.Ytahjcahmlangiaa
