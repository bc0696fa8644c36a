/-
  The walk of BitsPlaces.
-/
import Derived.Test.YtoljplfijopcmaaH6k
import Derived.Test.YtoljplfijopcmaaH6w
import Derived.Test.YtoljplfijopcmaaB6f
import Derived.Test.YtoljplfijopcmaaM6
import Derived.Test.YtoljplfijopcmaaN6g
namespace Go.Proofs.Ytoljplfijopcmaa
open Go.RowKit Go.Shelf

set_option maxRecDepth 100000 in
set_option maxHeartbeats 8000000 in
theorem places_walk (u vl : Value) (ga gl : Nat) (b : List Nat) (zs : List Int) (z : Int) (w : World) (hA : Arg w u ga b) (hZ : ZArg w vl gl zs) :
    Calls Try.prog 7 #[u, vl, .int .i64 z] w fun e w' => e = .returned (.bool true) ∧ Below w.heap.size w w' := by
  have HA := hide hA
  have HL := hide hZ
  obtain ⟨⟨ao, ca, rfl, hc1, hc2, _, _⟩, hbb⟩ := hA
  obtain ⟨⟨lo, cl, rfl, hd1, hd2, hnil, _⟩, hbd⟩ := hZ
  have HNIL : Hid (lo = none → zs.length = 0 ∧ cl = 0) := fun h => by have := hnil h; omega
  obtain ⟨N, hN⟩ : ∃ n, b.length = n := ⟨_, rfl⟩
  obtain ⟨M, hM⟩ : ∃ n, zs.length = n := ⟨_, rfl⟩
  have HBL := hide hN
  have HZL := hide hM
  have HBD := hide hbd
  rw [hN] at HA hc1 ⊢
  rw [hM] at HL hd1 HNIL ⊢
  clear hN hM hbd hnil
  have ha1 : (N : Int) ≤ 9223372036854775807 := by unfold maxLen at hc2; omega
  have hb1 : (M : Int) ≤ 9223372036854775807 := by unfold maxLen at hd2; omega
  have HT : Hid (Below w.heap.size w w) := Below.refl _ _
  by_cases h60 : 60 < N
  · have h60' : (60 : Int) < (N : Int) := by omega
    go_enter Try.func7, Try.ntmps7
    go_wp2_with fail
    refine (known_any _).mono ?_
    rintro e w1 ⟨rfl, hk⟩
    replace HA := hide ((unhide HA).below hk)
    replace HL := hide ((unhide HL).below hk)
    replace HT := hide ((unhide HT).trans (hk.mono (unhide HT).size))
    clear hk
    go_wp2_with fail
    go_ret
    exact ⟨rfl, unhide HT⟩
  have h60' : (N : Int) ≤ 60 := by omega
  by_cases h30 : 30 < M
  · have h30' : (30 : Int) < (M : Int) := by omega
    go_enter Try.func7, Try.ntmps7
    go_wp2_with fail
    refine (known_any _).mono ?_
    rintro e w1 ⟨rfl, hk⟩
    replace HA := hide ((unhide HA).below hk)
    replace HL := hide ((unhide HL).below hk)
    replace HT := hide ((unhide HT).trans (hk.mono (unhide HT).size))
    clear hk
    go_wp2_with fail
    go_ret
    exact ⟨rfl, unhide HT⟩
  have h30' : (M : Int) ≤ 30 := by omega
  obtain ⟨r, hr, hrM⟩ : ∃ r : Nat, (M ≠ 0 → z % (M : Int) = (r : Int)) ∧ (M ≠ 0 → r < M) := by
    by_cases h0 : M = 0
    · exact ⟨0, fun h => absurd h0 h, fun h => absurd h0 h⟩
    · have h1 := Int.emod_nonneg z (show (M : Int) ≠ 0 by omega)
      have h2 := Int.emod_lt_of_pos z (show (0 : Int) < (M : Int) by omega)
      exact ⟨(z % (M : Int)).toNat, fun _ => by omega, fun _ => by omega⟩
  obtain ⟨q, hq⟩ : ∃ q : Nat, z % 99 = (q : Int) := ⟨(z % 99).toNat, by omega⟩
  have hq99 : q < 99 := by omega
  have HRR := hide hr
  have HRM := hide hrM
  have HQQ := hide hq
  clear hr hrM hq
  obtain ⟨i0, hi0, hz0, hz1, hz2⟩ := info_parts infoI
  have HI := hide hi0
  clear hi0
  go_enter Try.func7, Try.ntmps7
  go_wp2_with fail
  refine (known_any _).mono ?_
  rintro e w1 ⟨rfl, hk⟩
  replace HA := hide ((unhide HA).below hk)
  replace HL := hide ((unhide HL).below hk)
  replace HT := hide ((unhide HT).trans (hk.mono (unhide HT).size))
  clear hk
  go_wp2_with fail
  go_loopw [7, 8] (fun v p wr => ∃ i : Nat, p = .int .i64 i ∧ i ≤ M ∧ OwnZ w1.heap.size wr v (rotL zs r i) ∧ Below w1.heap.size w1 wr) (fun _ p _ => M - (intOf p).toNat)
  case atStart => exact ⟨0, rfl, by omega, OwnZ.nil _ _, Below.refl _ _⟩
  case round =>
    obtain ⟨i, rfl, hi, hO, hK⟩ := hrel
    have HK := hide hK
    have hzK := hK.size
    have HBI : Hid (∀ y ∈ rotL zs r i, -9223372036854775808 ≤ y ∧ y ≤ 9223372036854775807) := fun y hy => by
      by_cases h0 : 0 < zs.length
      · exact unhide HBD y (rotL_mem h0 hy)
      · have hi0 : i = 0 := by rw [unhide HZL] at h0; omega
        subst hi0
        cases hy
    obtain ⟨vo, vc, gv, rfl, hZv, _⟩ := hO.za (unhide HBI)
    have HO := hide hO
    have HZV := hide hZv
    rw [rotL_len] at HO HZV ⊢
    clear hO hK hZv
    by_cases hlt : i < M
    · have hi1 : (i : Int) < (M : Int) := by omega
      have hM0 : M ≠ 0 := by omega
      have hrl := unhide HRM hM0
      have HRS := hide (rotL_succ zs r i)
      rw [unhide HZL] at HRS
      obtain ⟨j, hj⟩ : ∃ j, (i + r) % M = j := ⟨_, rfl⟩
      have hjM : j < M := by rw [← hj]; exact Nat.mod_lt _ (by omega)
      have hj1 : (j : Int) < (M : Int) := by omega
      have q1 : ((i : Int) + (r : Int)) % (M : Int) = (j : Int) := by rw [← hj]; simp
      have q2 : ((i : Int) + (r : Int)).tmod (M : Int) = (j : Int) := by rw [Int.tmod_eq_emod_of_nonneg (by omega), q1]
      have hMne : ((M : Int) == 0) = false := by rw [beq_eq_false_iff_ne]; omega
      rw [hj] at HRS
      obtain ⟨ol, rfl, hcl⟩ := irow_some' (zarg_row ((unhide HL).below (unhide HK))) (by rw [unhide HZL]; omega)
      have hc := hcl j (by rw [unhide HZL]; exact hjM)
      obtain ⟨x, hx⟩ : ∃ x, zs.getD j 0 = x := ⟨_, rfl⟩
      rw [hx] at hc HRS
      clear hx hcl hj
      have HAL := hide ((Below.refl _ wr).alloc (Nat.le_refl _) (.cells #[.int .i64 x] 3))
      have HO2 : Hid (OwnZ w1.heap.size (wr.alloc (.cells #[.int .i64 x] 3)) (.slice vo i vc) (rotL zs r i)) := (unhide HO).below (unhide HAL)
      have HC2 := hide (cell_new' wr (.int .i64 x) 3).1
      go_wp2_with fail
      refine (within6_any z M wr (by omega) (by omega)).mono ?_
      rintro e w2 ⟨rfl, hw2⟩
      subst hw2
      rw [unhide HRR hM0]
      go_wp2_with (at_builtin; refine wpList_append_int _ rfl _ _ 23 rfl w1.heap.size 3 i0 Try.underlying23 (unhide HI) hz0 hz1 hz2 (.slice vo i vc) (rotL zs r i).length _ rfl (unhide HO2) w2.heap.size x rfl (unhide HC2) (by rw [rotL_len]; omega) (by simp; omega) ?_)
      intro v3 w3 ho hg
      rw [rotL_len] at ho
      have hO3 : OwnZ w1.heap.size w3 v3 (rotL zs r i ++ [x]) := OwnZ.snoc (by rw [rotL_len]; exact ho)
      rw [← unhide HRS] at hO3
      have HO3 := hide hO3
      have HK3 := hide (below_grown ((unhide HK).trans ((unhide HAL).mono hzK)) hg (by simp; omega) (fun k e => (unhide HO2).row k e))
      clear ho hg hO3
      go_wp2_with fail
      go_roundw
      case rel => exact ⟨i + 1, by go_num, by omega, unhide HO3, unhide HK3⟩
      case measure => simp [intOf]; omega
    · have hi2 : i = M := by omega
      subst hi2
      have HTU : Hid (flipZ b (rotL zs r i) = flipZ b zs) := by
        by_cases h0 : i = 0
        · have hz : zs = [] := List.eq_nil_of_length_eq_zero (by rw [unhide HZL]; exact h0)
          show _ = _
          rw [h0, hz]
          rfl
        · have h1 := rotL_count (l := zs) (r := r) (by rw [unhide HZL]; exact unhide HRM h0)
          rw [unhide HZL] at h1
          exact flip_perm hbb h1
      have HTW := hide (flip_two hbb zs)
      have HNO : Hid (flipZ b [-1, 8 * (N : Int), 8 * (N : Int) + (q : Int), 9223372036854775807, -9223372036854775808] = b) := flip_nowhere (fun y hy => by
        rw [unhide HBL]
        simp only [List.mem_cons, List.mem_nil_iff, or_false] at hy
        rcases hy with rfl | rfl | rfl | rfl | rfl <;> omega)
      have H5B : Hid (∀ y ∈ [-1, 8 * (N : Int), 8 * (N : Int) + (q : Int), 9223372036854775807, -9223372036854775808], -9223372036854775808 ≤ y ∧ y ≤ 9223372036854775807) := fun y hy => by
        simp only [List.mem_cons, List.mem_nil_iff, or_false] at hy
        rcases hy with rfl | rfl | rfl | rfl | rfl <;> omega
      have HF5 := hide (five_z wr (-1) (8 * (N : Int)) (8 * (N : Int) + (q : Int)) 9223372036854775807 (-9223372036854775808) (unhide H5B))
      obtain ⟨F, hF0⟩ : ∃ F, flipZ b zs = F := ⟨_, rfl⟩
      have HFL : Hid (F.length = N) := by show _ = _; rw [← hF0, flipZ_len]; exact unhide HBL
      have hfb : Bs F := by rw [← hF0]; exact flipZ_bs hbb _
      rw [hF0] at HTU
      have HF0 := hide hF0
      clear hF0
      have HBD2 : Hid (∀ y ∈ ([] ++ zs : List Int), -9223372036854775808 ≤ y ∧ y ≤ 9223372036854775807) := unhide HBD
      have HBD3 : Hid (∀ y ∈ (([] ++ zs : List Int) ++ zs), -9223372036854775808 ≤ y ∧ y ≤ 9223372036854775807) := fun y hy => by
        rcases List.mem_append.1 hy with h | h
        · exact unhide HBD2 y h
        · exact unhide HBD y h
      replace HT := hide ((unhide HT).trans ((unhide HK).mono (unhide HT).size))
      replace HA := hide ((unhide HA).below (unhide HK))
      replace HL := hide ((unhide HL).below (unhide HK))
      clear HK HO HBI HRM HRR
      go_wp2_with fail
      refine (within6_any z 99 wr (by omega) (by omega)).mono ?_
      rintro e w2 ⟨rfl, hw2⟩
      subst hw2
      rw [unhide HQQ]
      go_wp2_with fail
      have hk : Below w2.heap.size w2 (w2.alloc (.cells #[.int .i64 (-1), .int .i64 (8 * (N : Int)), .int .i64 (8 * (N : Int) + (q : Int)), .int .i64 9223372036854775807, .int .i64 (-9223372036854775808)] 3)) := (Below.refl _ _).alloc (Nat.le_refl _) _
      generalize w2.alloc (.cells #[.int .i64 (-1), .int .i64 (8 * (N : Int)), .int .i64 (8 * (N : Int) + (q : Int)), .int .i64 9223372036854775807, .int .i64 (-9223372036854775808)] 3) = w20 at hk HF5 ⊢
      replace HT := hide ((unhide HT).trans (hk.mono (unhide HT).size))
      replace HA := hide ((unhide HA).below hk)
      replace HL := hide ((unhide HL).below hk)
      replace HZV := hide ((unhide HZV).below hk)
      clear hk
      replace HT := hide ((unhide HT).drew)
      replace HA := hide ((unhide HA).below (Below.refl _ _).drew)
      replace HL := hide ((unhide HL).below (Below.refl _ _).drew)
      replace HZV := hide ((unhide HZV).below (Below.refl _ _).drew)
      replace HF5 := hide ((unhide HF5).below (Below.refl _ _).drew)
      refine wp_region_noPanic ?_
      refine wp_region_held_drew (S := fun W => Below w20.drew.heap.size w20.drew W) (by kernel_rfl) (Below.refl _ _) (fun hHeld => ?_)
      have HH := hide hHeld
      clear hHeld
      generalize w20.drew = w21 at HT HA HL HZV HF5 HH ⊢
      refine takeL (i := 0) (v := ?_) rfl (by kernel_rfl) (by kernel_rfl) (by kernel_rfl) (fun _ _ _ h => h) (Or.inl ⟨by rfl, ?_⟩) (unhide HH) ?_
      rotate_left 1
      · intro W hSW; go_simp; all_goals (with_reducible rfl)
      (try simp only [Act.put, List.setIfInBounds_toArray, List.set_cons_zero, List.set_cons_succ])
      refine takeL (i := 1) (v := ?_) rfl (by kernel_rfl) (by kernel_rfl) (by kernel_rfl) (fun _ _ _ h => h) (Or.inl ⟨by rfl, ?_⟩) (unhide HH) ?_
      rotate_left 1
      · intro W hSW; go_simp; all_goals (with_reducible rfl)
      (try simp only [Act.put, List.setIfInBounds_toArray, List.set_cons_zero, List.set_cons_succ])
      refine takeL (i := 4) (v := ?_) rfl (by kernel_rfl) (by kernel_rfl) (by kernel_rfl) (fun _ _ _ h => h) (Or.inl ⟨by rfl, ?_⟩) (unhide HH) ?_
      rotate_left 1
      · intro W hSW; go_simp; all_goals (with_reducible rfl)
      (try simp only [Act.put, List.setIfInBounds_toArray, List.set_cons_zero, List.set_cons_succ])
      refine takeL (i := 5) (v := ?_) rfl (by kernel_rfl) (by kernel_rfl) (by kernel_rfl) (fun _ _ _ h => h) (Or.inl ⟨by rfl, ?_⟩) (unhide HH) ?_
      rotate_left 1
      · intro W hSW; go_simp; all_goals (with_reducible rfl)
      (try simp only [Act.put, List.setIfInBounds_toArray, List.set_cons_zero, List.set_cons_succ])
      refine wpAnyH_ready (rs := [2]) (by kernel_rfl) (by simp) ?_
      refine consL rfl (fun K hK => ?_) AllReadyH.nil
      go_simp
      refine (flip6_any _ _ _ _ (b) (rotL zs r i) _ (unhide HA) (unhide HZV) (by rw [unhide HBL]; omega)).mono ?_
      rintro e w22 ⟨v22, rfl, hF, hk⟩
      rw [unhide HTU] at hF
      replace HA := hide ((unhide HA).below hk)
      replace HL := hide ((unhide HL).below hk)
      replace HZV := hide ((unhide HZV).below hk)
      replace HF5 := hide ((unhide HF5).below hk)
      replace HT := hide ((unhide HT).trans (hk.mono (unhide HT).size))
      obtain ⟨g22, hA, hge⟩ := hF.arg hfb
      obtain ⟨⟨ao22, c22, rfl, h1, h2, h3, h4⟩, _⟩ := hA
      have HA22 : Hid (Arg w22 (.slice ao22 N c22) g22 (F)) := ⟨⟨ao22, c22, by rw [(unhide HFL)], h1, h2, h3, h4⟩, hfb⟩
      rw [show (F).length = N from (unhide HFL)]
      clear h1 h2 h3 h4 hF hge
      go_wp2_with fail
      refine hK.out _ _ hk (fun hHeld => ?_)
      clear hK K HH hHeld
      (try simp only [Act.put, List.setIfInBounds_toArray, List.set_cons_zero, List.set_cons_succ])
      refine stronger (S' := fun W => Below w22.heap.size w22 W) (fun W h => hk.trans (h.mono hk.size)) _ _ _ _ ?_
      have HH : Hid (Below w22.heap.size w22 w22) := Below.refl _ _
      clear hk
      refine takeL (i := 3) (v := ?_) rfl (by kernel_rfl) (by kernel_rfl) (by kernel_rfl) (fun _ _ _ h => h) (Or.inl ⟨by rfl, ?_⟩) (unhide HH) ?_
      rotate_left 1
      · intro W1 hSW; have hcv := conv_arg ((unhide HA22).below hSW); clear hSW; go_simp; all_goals (with_reducible rfl)
      (try simp only [Act.put, List.setIfInBounds_toArray, List.set_cons_zero, List.set_cons_succ])
      refine wpAnyH_ready (rs := [6]) (by kernel_rfl) (by simp) ?_
      refine consL rfl (fun K hK => ?_) AllReadyH.nil
      go_simp
      refine (flip6_any _ _ _ _ (b) (zs) _ (unhide HA) (unhide HL) (by rw [unhide HBL]; omega)).mono ?_
      rintro e w23 ⟨v23, rfl, hF, hk⟩
      rw [unhide HF0] at hF
      replace HA := hide ((unhide HA).below hk)
      replace HL := hide ((unhide HL).below hk)
      replace HZV := hide ((unhide HZV).below hk)
      replace HF5 := hide ((unhide HF5).below hk)
      replace HA22 := hide ((unhide HA22).below hk)
      replace HT := hide ((unhide HT).trans (hk.mono (unhide HT).size))
      obtain ⟨g23, hA, hge⟩ := hF.arg hfb
      obtain ⟨⟨ao23, c23, rfl, h1, h2, h3, h4⟩, _⟩ := hA
      have HA23 : Hid (Arg w23 (.slice ao23 N c23) g23 (F)) := ⟨⟨ao23, c23, by rw [(unhide HFL)], h1, h2, h3, h4⟩, hfb⟩
      rw [show (F).length = N from (unhide HFL)]
      clear h1 h2 h3 h4 hF hge
      go_wp2_with fail
      refine hK.out _ _ hk (fun hHeld => ?_)
      clear hK K HH hHeld
      (try simp only [Act.put, List.setIfInBounds_toArray, List.set_cons_zero, List.set_cons_succ])
      refine stronger (S' := fun W => Below w23.heap.size w23 W) (fun W h => hk.trans (h.mono hk.size)) _ _ _ _ ?_
      have HH : Hid (Below w23.heap.size w23 w23) := Below.refl _ _
      clear hk
      refine takeL (i := 7) (v := ?_) rfl (by kernel_rfl) (by kernel_rfl) (by kernel_rfl) (fun _ _ _ h => h) (Or.inl ⟨by rfl, ?_⟩) (unhide HH) ?_
      rotate_left 1
      · intro W1 hSW; have hcv := conv_arg ((unhide HA23).below hSW); clear hSW; go_simp; all_goals (with_reducible rfl)
      (try simp only [Act.put, List.setIfInBounds_toArray, List.set_cons_zero, List.set_cons_succ])
      refine takeL (i := 8) (v := ?_) rfl (by kernel_rfl) (by kernel_rfl) (by kernel_rfl) (fun _ _ _ h => h) (Or.inl ⟨by rfl, ?_⟩) (unhide HH) ?_
      rotate_left 1
      · intro W hSW; go_simp; all_goals (with_reducible rfl)
      (try simp only [Act.put, List.setIfInBounds_toArray, List.set_cons_zero, List.set_cons_succ])
      refine takeL (i := 9) (v := ?_) rfl (by kernel_rfl) (by kernel_rfl) (by kernel_rfl) (fun _ _ _ h => h) (Or.inl ⟨by rfl, ?_⟩) (unhide HH) ?_
      rotate_left 1
      · intro W hSW; go_simp; all_goals (with_reducible rfl)
      (try simp only [Act.put, List.setIfInBounds_toArray, List.set_cons_zero, List.set_cons_succ])
      refine takeL (i := 10) (v := ?_) rfl (by kernel_rfl) (by kernel_rfl) (by kernel_rfl) (fun _ _ _ h => h) (Or.inl ⟨by rfl, ?_⟩) (unhide HH) ?_
      rotate_left 1
      · intro W hSW; go_simp; all_goals (with_reducible rfl)
      (try simp only [Act.put, List.setIfInBounds_toArray, List.set_cons_zero, List.set_cons_succ])
      refine takeL (i := 12) (v := ?_) rfl (by kernel_rfl) (by kernel_rfl) (by kernel_rfl) (fun _ _ _ h => h) (Or.inl ⟨by rfl, ?_⟩) (unhide HH) ?_
      rotate_left 1
      · intro W hSW; go_simp; all_goals (with_reducible rfl)
      (try simp only [Act.put, List.setIfInBounds_toArray, List.set_cons_zero, List.set_cons_succ])
      refine takeL (i := 14) (v := ?_) rfl (by kernel_rfl) (by kernel_rfl) (by kernel_rfl) (fun _ _ _ h => h) (Or.inl ⟨by rfl, ?_⟩) (unhide HH) ?_
      rotate_left 1
      · intro W hSW; go_simp; all_goals (with_reducible rfl)
      (try simp only [Act.put, List.setIfInBounds_toArray, List.set_cons_zero, List.set_cons_succ])
      refine takeL (i := 18) (v := ?_) rfl (by kernel_rfl) (by kernel_rfl) (by kernel_rfl) (fun _ _ _ h => h) (Or.inl ⟨by rfl, ?_⟩) (unhide HH) ?_
      rotate_left 1
      · intro W hSW; go_simp; all_goals (with_reducible rfl)
      (try simp only [Act.put, List.setIfInBounds_toArray, List.set_cons_zero, List.set_cons_succ])
      refine takeL (i := 19) (v := ?_) rfl (by kernel_rfl) (by kernel_rfl) (by kernel_rfl) (fun _ _ _ h => h) (Or.inl ⟨by rfl, ?_⟩) (unhide HH) ?_
      rotate_left 1
      · intro W1 hSW; have hcv := conv_arg ((unhide HA).below hSW); clear hSW; go_simp; all_goals (with_reducible rfl)
      (try simp only [Act.put, List.setIfInBounds_toArray, List.set_cons_zero, List.set_cons_succ])
      refine wpAnyH_ready (rs := [11]) (by kernel_rfl) (by simp) ?_
      refine consL rfl (fun K hK => ?_) AllReadyH.nil
      go_simp
      have hk : Below w23.heap.size w23 (w23.alloc (.cells #[] 3)) := (Below.refl _ _).alloc (Nat.le_refl _) _
      have hOZ := OwnZ.none w23
      generalize w23.alloc (.cells #[] 3) = w24 at hk hOZ ⊢
      have HO24 := hide hOZ
      clear hOZ
      refine hK.out _ _ hk (fun hHeld => ?_)
      clear hK K HH hk
      have HH := hide hHeld
      clear hHeld
      (try simp only [Act.put, List.setIfInBounds_toArray, List.set_cons_zero, List.set_cons_succ])
      refine wpAnyH_ready (rs := [13]) (by kernel_rfl) (by simp) ?_
      refine consL rfl (fun K hK => ?_) AllReadyH.nil
      rw [if_pos (by rfl)]
      refine wp_append_z (.tmp 62) (.tmp 63) (by rfl) w23.heap.size _ [] (zs) (by rfl) (unhide HO24) _ _ i _ (by rfl) (unhide HZL) (zarg_row ((unhide HL).below (unhide HH))) (unhide HNIL) (by simp; omega) (unhide HH).size ?_
      intro v25 w25 hOZ hg
      have hk : Below w23.heap.size w23 w25 := below_grown (unhide HH) hg (unhide HH).size (fun k hk => (unhide HO24).row k hk)
      obtain ⟨ao25, c25, g25, rfl, hZ, hN⟩ := hOZ.za (unhide HBD2)
      rw [show ([] ++ zs : List Int).length = i from (by simp [unhide HZL])] at hOZ hZ ⊢
      clear hg hN
      have HO25 := hide hOZ
      clear hOZ hZ
      refine hK.out _ _ hk (fun hHeld => ?_)
      clear hK K HH hk
      have HH := hide hHeld
      clear hHeld
      (try simp only [Act.put, List.setIfInBounds_toArray, List.set_cons_zero, List.set_cons_succ])
      refine wpAnyH_ready (rs := [15]) (by kernel_rfl) (by simp) ?_
      refine consL rfl (fun K hK => ?_) AllReadyH.nil
      rw [if_pos (by rfl)]
      refine wp_append_z (.tmp 64) (.tmp 65) (by rfl) w23.heap.size _ ([] ++ zs : List Int) (zs) (by rfl) (unhide HO25) _ _ i _ (by rfl) (unhide HZL) (zarg_row ((unhide HL).below (unhide HH))) (unhide HNIL) (by simp [unhide HZL]; omega) (unhide HH).size ?_
      intro v26 w26 hOZ hg
      have hk : Below w23.heap.size w23 w26 := below_grown (unhide HH) hg (unhide HH).size (fun k hk => (unhide HO25).row k hk)
      obtain ⟨ao26, c26, g26, rfl, hZ, hN⟩ := hOZ.za (unhide HBD3)
      rw [show (([] ++ zs : List Int) ++ zs : List Int).length = (i + i) from (by simp [unhide HZL])] at hOZ hZ ⊢
      clear hg hN
      clear hOZ
      replace HA := hide ((unhide HA).below hk)
      replace HL := hide ((unhide HL).below hk)
      replace HZV := hide ((unhide HZV).below hk)
      replace HF5 := hide ((unhide HF5).below hk)
      replace HA22 := hide ((unhide HA22).below hk)
      replace HA23 := hide ((unhide HA23).below hk)
      replace HT := hide ((unhide HT).trans (hk.mono (unhide HT).size))
      have HZ26 := hide hZ
      clear hZ
      refine hK.out _ _ hk (fun hHeld => ?_)
      clear hK K HH hHeld
      (try simp only [Act.put, List.setIfInBounds_toArray, List.set_cons_zero, List.set_cons_succ])
      refine stronger (S' := fun W => Below w26.heap.size w26 W) (fun W h => hk.trans (h.mono hk.size)) _ _ _ _ ?_
      have HH : Hid (Below w26.heap.size w26 w26) := Below.refl _ _
      clear hk
      refine wpAnyH_ready (rs := [16]) (by kernel_rfl) (by simp) ?_
      refine consL rfl (fun K hK => ?_) AllReadyH.nil
      go_simp
      refine (flip6_any _ _ _ _ (b) ((([] ++ zs : List Int) ++ zs : List Int)) _ (unhide HA) (unhide HZ26) (by rw [unhide HBL]; omega)).mono ?_
      rintro e w27 ⟨v27, rfl, hF, hk⟩
      rw [show flipZ b (([] ++ zs) ++ zs) = b from unhide HTW] at hF
      replace HA := hide ((unhide HA).below hk)
      replace HL := hide ((unhide HL).below hk)
      replace HZV := hide ((unhide HZV).below hk)
      replace HF5 := hide ((unhide HF5).below hk)
      replace HA22 := hide ((unhide HA22).below hk)
      replace HA23 := hide ((unhide HA23).below hk)
      replace HZ26 := hide ((unhide HZ26).below hk)
      replace HT := hide ((unhide HT).trans (hk.mono (unhide HT).size))
      obtain ⟨g27, hA, hge⟩ := hF.arg hbb
      obtain ⟨⟨ao27, c27, rfl, h1, h2, h3, h4⟩, _⟩ := hA
      have HA27 : Hid (Arg w27 (.slice ao27 N c27) g27 (b)) := ⟨⟨ao27, c27, by rw [(unhide HBL)], h1, h2, h3, h4⟩, hbb⟩
      rw [show (b).length = N from (unhide HBL)]
      clear h1 h2 h3 h4 hF hge
      go_wp2_with fail
      refine hK.out _ _ hk (fun hHeld => ?_)
      clear hK K HH hHeld
      (try simp only [Act.put, List.setIfInBounds_toArray, List.set_cons_zero, List.set_cons_succ])
      refine stronger (S' := fun W => Below w27.heap.size w27 W) (fun W h => hk.trans (h.mono hk.size)) _ _ _ _ ?_
      have HH : Hid (Below w27.heap.size w27 w27) := Below.refl _ _
      clear hk
      refine takeL (i := 17) (v := ?_) rfl (by kernel_rfl) (by kernel_rfl) (by kernel_rfl) (fun _ _ _ h => h) (Or.inl ⟨by rfl, ?_⟩) (unhide HH) ?_
      rotate_left 1
      · intro W1 hSW; have hcv := conv_arg ((unhide HA27).below hSW); clear hSW; go_simp; all_goals (with_reducible rfl)
      (try simp only [Act.put, List.setIfInBounds_toArray, List.set_cons_zero, List.set_cons_succ])
      refine takeL (i := 20) (v := ?_) rfl (by kernel_rfl) (by kernel_rfl) (by kernel_rfl) (fun _ _ _ h => h) (Or.inl ⟨by rfl, ?_⟩) (unhide HH) ?_
      rotate_left 1
      · intro W hSW; go_simp; all_goals (with_reducible rfl)
      (try simp only [Act.put, List.setIfInBounds_toArray, List.set_cons_zero, List.set_cons_succ])
      refine takeL (i := 21) (v := ?_) rfl (by kernel_rfl) (by kernel_rfl) (by kernel_rfl) (fun _ _ _ h => h) (Or.inl ⟨by rfl, ?_⟩) (unhide HH) ?_
      rotate_left 1
      · intro W hSW; go_simp; all_goals (with_reducible rfl)
      (try simp only [Act.put, List.setIfInBounds_toArray, List.set_cons_zero, List.set_cons_succ])
      refine takeL (i := 22) (v := ?_) rfl (by kernel_rfl) (by kernel_rfl) (by kernel_rfl) (fun _ _ _ h => h) (Or.inl ⟨by rfl, ?_⟩) (unhide HH) ?_
      rotate_left 1
      · intro W hSW; go_simp; all_goals (with_reducible rfl)
      (try simp only [Act.put, List.setIfInBounds_toArray, List.set_cons_zero, List.set_cons_succ])
      refine takeL (i := 23) (v := ?_) rfl (by kernel_rfl) (by kernel_rfl) (by kernel_rfl) (fun _ _ _ h => h) (Or.inl ⟨by rfl, ?_⟩) (unhide HH) ?_
      rotate_left 1
      · intro W hSW; go_simp; all_goals (with_reducible rfl)
      (try simp only [Act.put, List.setIfInBounds_toArray, List.set_cons_zero, List.set_cons_succ])
      refine takeL (i := 24) (v := ?_) rfl (by kernel_rfl) (by kernel_rfl) (by kernel_rfl) (fun _ _ _ h => h) (Or.inl ⟨by rfl, ?_⟩) (unhide HH) ?_
      rotate_left 1
      · intro W hSW; go_simp; all_goals (with_reducible rfl)
      (try simp only [Act.put, List.setIfInBounds_toArray, List.set_cons_zero, List.set_cons_succ])
      refine takeL (i := 27) (v := ?_) rfl (by kernel_rfl) (by kernel_rfl) (by kernel_rfl) (fun _ _ _ h => h) (Or.inl ⟨by rfl, ?_⟩) (unhide HH) ?_
      rotate_left 1
      · intro W hSW; go_simp; all_goals (with_reducible rfl)
      (try simp only [Act.put, List.setIfInBounds_toArray, List.set_cons_zero, List.set_cons_succ])
      refine takeL (i := 28) (v := ?_) rfl (by kernel_rfl) (by kernel_rfl) (by kernel_rfl) (fun _ _ _ h => h) (Or.inl ⟨by rfl, ?_⟩) (unhide HH) ?_
      rotate_left 1
      · intro W1 hSW; have hcv := conv_arg ((unhide HA).below hSW); clear hSW; go_simp; all_goals (with_reducible rfl)
      (try simp only [Act.put, List.setIfInBounds_toArray, List.set_cons_zero, List.set_cons_succ])
      refine wpAnyH_ready (rs := [25]) (by kernel_rfl) (by simp) ?_
      refine consL rfl (fun K hK => ?_) AllReadyH.nil
      go_simp
      refine (flip6_any _ _ _ _ (b) ([-1, 8 * (N : Int), 8 * (N : Int) + (q : Int), 9223372036854775807, -9223372036854775808]) _ (unhide HA) (unhide HF5) (by rw [unhide HBL]; omega)).mono ?_
      rintro e w28 ⟨v28, rfl, hF, hk⟩
      rw [unhide HNO] at hF
      replace HA := hide ((unhide HA).below hk)
      replace HL := hide ((unhide HL).below hk)
      replace HZV := hide ((unhide HZV).below hk)
      replace HF5 := hide ((unhide HF5).below hk)
      replace HA22 := hide ((unhide HA22).below hk)
      replace HA23 := hide ((unhide HA23).below hk)
      replace HZ26 := hide ((unhide HZ26).below hk)
      replace HA27 := hide ((unhide HA27).below hk)
      replace HT := hide ((unhide HT).trans (hk.mono (unhide HT).size))
      obtain ⟨g28, hA, hge⟩ := hF.arg hbb
      obtain ⟨⟨ao28, c28, rfl, h1, h2, h3, h4⟩, _⟩ := hA
      have HA28 : Hid (Arg w28 (.slice ao28 N c28) g28 (b)) := ⟨⟨ao28, c28, by rw [(unhide HBL)], h1, h2, h3, h4⟩, hbb⟩
      rw [show (b).length = N from (unhide HBL)]
      clear h1 h2 h3 h4 hF hge
      go_wp2_with fail
      refine hK.out _ _ hk (fun hHeld => ?_)
      clear hK K HH hHeld
      (try simp only [Act.put, List.setIfInBounds_toArray, List.set_cons_zero, List.set_cons_succ])
      refine stronger (S' := fun W => Below w28.heap.size w28 W) (fun W h => hk.trans (h.mono hk.size)) _ _ _ _ ?_
      have HH : Hid (Below w28.heap.size w28 w28) := Below.refl _ _
      clear hk
      refine takeL (i := 26) (v := ?_) rfl (by kernel_rfl) (by kernel_rfl) (by kernel_rfl) (fun _ _ _ h => h) (Or.inl ⟨by rfl, ?_⟩) (unhide HH) ?_
      rotate_left 1
      · intro W1 hSW; have hcv := conv_arg ((unhide HA28).below hSW); clear hSW; go_simp; all_goals (with_reducible rfl)
      (try simp only [Act.put, List.setIfInBounds_toArray, List.set_cons_zero, List.set_cons_succ])
      refine takeL (i := 29) (v := ?_) rfl (by kernel_rfl) (by kernel_rfl) (by kernel_rfl) (fun _ _ _ h => h) (Or.inl ⟨by rfl, ?_⟩) (unhide HH) ?_
      rotate_left 1
      · intro W hSW; go_simp; all_goals (with_reducible rfl)
      (try simp only [Act.put, List.setIfInBounds_toArray, List.set_cons_zero, List.set_cons_succ])
      refine takeL (i := 30) (v := ?_) rfl (by kernel_rfl) (by kernel_rfl) (by kernel_rfl) (fun _ _ _ h => h) (Or.inl ⟨by rfl, ?_⟩) (unhide HH) ?_
      rotate_left 1
      · intro W hSW; go_simp; all_goals (with_reducible rfl)
      (try simp only [Act.put, List.setIfInBounds_toArray, List.set_cons_zero, List.set_cons_succ])
      refine takeL (i := 31) (v := ?_) rfl (by kernel_rfl) (by kernel_rfl) (by kernel_rfl) (fun _ _ _ h => h) (Or.inl ⟨by rfl, ?_⟩) (unhide HH) ?_
      rotate_left 1
      · intro W hSW; go_simp; all_goals (with_reducible rfl)
      (try simp only [Act.put, List.setIfInBounds_toArray, List.set_cons_zero, List.set_cons_succ])
      refine wpAnyH_done (by kernel_rfl) ?_ _
      refine NoPanic.normal ?_
      go_wp2
      go_ret
      exact ⟨rfl, unhide HT⟩

end Go.Proofs.Ytoljplfijopcmaa
