/-
  The walk of BitsMix.
-/
import Derived.Test.YtoljplfijopcmaaH6k
import Derived.Test.YtoljplfijopcmaaB6h
import Derived.Test.YtoljplfijopcmaaM6
import Derived.Test.YtoljplfijopcmaaN6d
namespace Go.Proofs.Ytoljplfijopcmaa
open Go.RowKit Go.Shelf

set_option maxRecDepth 100000 in
set_option maxHeartbeats 8000000 in
theorem bmix_walk (u v m : Value) (ga gb gm : Nat) (a b mask : List Nat) (w : World) (hA : Arg w u ga a) (hB : Arg w v gb b) (hM : Arg w m gm mask) :
    Calls Try.prog 5 #[u, v, m] w fun e w' => e = .returned (.bool true) ∧ Below w.heap.size w w' := by
  have HA := hide hA
  have HB := hide hB
  obtain ⟨⟨ao, ca, rfl, hc1, hc2, _, _⟩, hba⟩ := hA
  obtain ⟨⟨bo, cb, rfl, hd1, hd2, _, _⟩, hbb⟩ := hB
  obtain ⟨la, hla⟩ : ∃ n, a.length = n := ⟨_, rfl⟩
  obtain ⟨lb, hlb⟩ : ∃ n, b.length = n := ⟨_, rfl⟩
  have HLA := hide hla
  have HLB := hide hlb
  rw [hla] at HA hc1 ⊢
  rw [hlb] at HB hd1 ⊢
  clear hla hlb
  have ha1 : (la : Int) ≤ 9223372036854775807 := by unfold maxLen at hc2; omega
  have hb1 : (lb : Int) ≤ 9223372036854775807 := by unfold maxLen at hd2; omega
  have HM := hide hM
  obtain ⟨⟨mo, cm, rfl, he1, he2, _, _⟩, hbm⟩ := hM
  obtain ⟨lm, hlm⟩ : ∃ n, mask.length = n := ⟨_, rfl⟩
  rw [hlm] at HM he1 ⊢
  clear hlm
  have hm1 : (lm : Int) ≤ 9223372036854775807 := by unfold maxLen at he2; omega
  obtain ⟨n, hn⟩ : ∃ n : Nat, min (min la lb) 60 = n := ⟨_, rfl⟩
  have hnl : n ≤ 60 := by omega
  have hna : n ≤ la := by omega
  have hnb : n ≤ lb := by omega
  have hmin : ∀ W : World, (Builtin.min_ #[3, 3, 3] 3 #[.int .i64 (la : Int), .int .i64 (lb : Int), .int .i64 60]).run Try.prog W = .ok (.int .i64 (n : Int)) W := fun W => by
    rw [min_three, show min (min (la : Int) (lb : Int)) 60 = (n : Int) from by omega]
  clear hn
  obtain ⟨X, hX⟩ : ∃ X, a.take n = X := ⟨_, rfl⟩
  obtain ⟨Y, hY⟩ : ∃ Y, b.take n = Y := ⟨_, rfl⟩
  have HX := hide ((unhide HA).front hna)
  have HY := hide ((unhide HB).front hnb)
  rw [hX] at HX
  rw [hY] at HY
  have hxl : X.length = n := by rw [← hX, List.length_take, unhide HLA]; omega
  have hyl : Y.length = n := by rw [← hY, List.length_take, unhide HLB]; omega
  have hxb : Bs X := (unhide HX).bs
  have hyb : Bs Y := (unhide HY).bs
  have HXL := hide hxl
  have HYL := hide hyl
  clear hX hY hxl hyl
  have hle : X.length = Y.length := by rw [unhide HXL, unhide HYL]
  have HFA := hide (mix_none hle)
  have HFB := hide (mix_all hle hxb hyb)
  obtain ⟨M, hMM⟩ : ∃ M, mixL X Y mask = M := ⟨_, rfl⟩
  have HML : Hid (M.length = n) := by show _ = _; rw [← hMM, mixL_len hle]; exact unhide HXL
  have hmb : Bs M := by rw [← hMM]; exact mixL_bs mask hxb hyb
  have hsum := mix_sum hle mask
  rw [hMM] at hsum
  have hs1 := ap_len X M
  have hs2 := ap_len M Y
  rw [unhide HXL] at hs1
  rw [unhide HML] at hs2
  obtain ⟨p, hp⟩ : ∃ p, (apL X M).length = p := ⟨_, rfl⟩
  obtain ⟨q, hq⟩ : ∃ p, (apL M Y).length = p := ⟨_, rfl⟩
  obtain ⟨r, hr⟩ : ∃ p, (apL X Y).length = p := ⟨_, rfl⟩
  rw [hp, hq, hr] at hsum
  rw [hp] at hs1
  rw [hq] at hs2
  have HP := hide hp
  have HQ := hide hq
  have HR := hide hr
  have HMM := hide hMM
  have hpq : (IntKind.i64.wrap ((p : Int) + (q : Int)) == (r : Int)) = true := by rw [IntWalk.i64_in _ ⟨by omega, by omega⟩, beq_iff_eq]; omega
  clear hle hp hq hr hMM hsum
  have HONE : Hid (∀ W : World, Arg (W.alloc (.cells #[.int .u8 255] 5)) (.slice (some ⟨W.heap.size, 0, none⟩) 1 1) W.heap.size [255]) := fun W => arg_one W 255 (by omega)
  have HT : Hid (Below w.heap.size w w) := Below.refl _ _
  by_cases h60 : 60 < lm
  · have h60' : (60 : Int) < (lm : Int) := by omega
    go_enter Try.func5, Try.ntmps5
    go_wp2_with fail
    refine (known_any _).mono ?_
    rintro e w1 ⟨rfl, hk⟩
    replace HX := hide ((unhide HX).below hk)
    replace HY := hide ((unhide HY).below hk)
    replace HM := hide ((unhide HM).below hk)
    replace HT := hide ((unhide HT).trans (hk.mono (unhide HT).size))
    clear hk
    go_wp2_with fail
    go_ret
    exact ⟨rfl, unhide HT⟩
  have h60' : (lm : Int) ≤ 60 := by omega
  go_enter Try.func5, Try.ntmps5
  go_wp2_with fail
  refine (known_any _).mono ?_
  rintro e w1 ⟨rfl, hk⟩
  replace HX := hide ((unhide HX).below hk)
  replace HY := hide ((unhide HY).below hk)
  replace HM := hide ((unhide HM).below hk)
  replace HT := hide ((unhide HT).trans (hk.mono (unhide HT).size))
  clear hk
  go_wp2_with fail
  clear hmin
  go_quiet (fail)
  have hk : Below w1.heap.size w1 (w1.drewN nq) := below_drewN w1 nq
  generalize w1.drewN nq = w2 at hk ⊢
  replace HX := hide ((unhide HX).below hk)
  replace HY := hide ((unhide HY).below hk)
  replace HM := hide ((unhide HM).below hk)
  replace HT := hide ((unhide HT).trans (hk.mono (unhide HT).size))
  clear hk
  go_wp2_with fail
  refine (mix_any _ _ _ _ _ _ (X) (Y) (mask) _ (unhide HX) (unhide HY) (unhide HM) (fun _ => by rw [unhide HXL]; omega)).mono ?_
  rintro e w3 ⟨v3, rfl, hF, hk⟩
  rw [unhide HMM] at hF
  replace HX := hide ((unhide HX).below hk)
  replace HY := hide ((unhide HY).below hk)
  replace HM := hide ((unhide HM).below hk)
  replace HT := hide ((unhide HT).trans (hk.mono (unhide HT).size))
  obtain ⟨g3, hA, hge⟩ := hF.arg hmb
  obtain ⟨⟨ao3, c3, rfl, h1, h2, h3, h4⟩, _⟩ := hA
  have HA3 : Hid (Arg w3 (.slice ao3 n c3) g3 (M)) := ⟨⟨ao3, c3, by rw [(unhide HML)], h1, h2, h3, h4⟩, hmb⟩
  rw [show (M).length = n from (unhide HML)]
  clear h1 h2 h3 h4 hF hge
  clear hk
  go_wp2_with fail
  replace HT := hide ((unhide HT).drew)
  replace HX := hide ((unhide HX).below (Below.refl _ _).drew)
  replace HY := hide ((unhide HY).below (Below.refl _ _).drew)
  replace HM := hide ((unhide HM).below (Below.refl _ _).drew)
  replace HA3 := hide ((unhide HA3).below (Below.refl _ _).drew)
  refine wp_region_noPanic ?_
  refine wp_region_held_drew (S := fun W => Below w3.drew.heap.size w3.drew W) (by kernel_rfl) (Below.refl _ _) (fun hHeld => ?_)
  have HH := hide hHeld
  clear hHeld
  generalize w3.drew = w4 at HT HX HY HM HA3 HH ⊢
  refine takeL (i := 0) (v := ?_) rfl (by kernel_rfl) (by kernel_rfl) (by kernel_rfl) (fun _ _ _ h => h) (Or.inl ⟨by rfl, ?_⟩) (unhide HH) ?_
  rotate_left 1
  · intro W hSW; go_simp; all_goals (with_reducible rfl)
  (try simp only [Act.put, List.setIfInBounds_toArray, List.set_cons_zero, List.set_cons_succ])
  refine takeL (i := 1) (v := ?_) rfl (by kernel_rfl) (by kernel_rfl) (by kernel_rfl) (fun _ _ _ h => h) (Or.inl ⟨by rfl, ?_⟩) (unhide HH) ?_
  rotate_left 1
  · intro W hSW; go_simp; all_goals (with_reducible rfl)
  (try simp only [Act.put, List.setIfInBounds_toArray, List.set_cons_zero, List.set_cons_succ])
  refine takeL (i := 4) (v := ?_) rfl (by kernel_rfl) (by kernel_rfl) (by kernel_rfl) (fun _ _ _ h => h) (Or.inl ⟨by rfl, ?_⟩) (unhide HH) ?_
  rotate_left 1
  · intro W hSW; go_simp; all_goals (with_reducible rfl)
  (try simp only [Act.put, List.setIfInBounds_toArray, List.set_cons_zero, List.set_cons_succ])
  refine takeL (i := 5) (v := ?_) rfl (by kernel_rfl) (by kernel_rfl) (by kernel_rfl) (fun _ _ _ h => h) (Or.inl ⟨by rfl, ?_⟩) (unhide HH) ?_
  rotate_left 1
  · intro W1 hSW; have hcv := conv_arg ((unhide HX).below hSW); clear hSW; go_simp; all_goals (with_reducible rfl)
  (try simp only [Act.put, List.setIfInBounds_toArray, List.set_cons_zero, List.set_cons_succ])
  refine wpAnyH_ready (rs := [2]) (by kernel_rfl) (by simp) ?_
  refine consL rfl (fun K hK => ?_) AllReadyH.nil
  go_simp
  refine (mix_any _ _ _ _ _ _ (X) (Y) ([]) _ (unhide HX) (unhide HY) (unhide (hide (nil_arg _))) (fun _ => by rw [unhide HXL]; omega)).mono ?_
  rintro e w5 ⟨v5, rfl, hF, hk⟩
  rw [unhide HFA] at hF
  replace HX := hide ((unhide HX).below hk)
  replace HY := hide ((unhide HY).below hk)
  replace HM := hide ((unhide HM).below hk)
  replace HA3 := hide ((unhide HA3).below hk)
  replace HT := hide ((unhide HT).trans (hk.mono (unhide HT).size))
  obtain ⟨g5, hA, hge⟩ := hF.arg hxb
  obtain ⟨⟨ao5, c5, rfl, h1, h2, h3, h4⟩, _⟩ := hA
  have HA5 : Hid (Arg w5 (.slice ao5 n c5) g5 (X)) := ⟨⟨ao5, c5, by rw [(unhide HXL)], h1, h2, h3, h4⟩, hxb⟩
  rw [show (X).length = n from (unhide HXL)]
  clear h1 h2 h3 h4 hF hge
  go_wp2_with fail
  refine hK.out _ _ hk (fun hHeld => ?_)
  clear hK K HH hHeld
  (try simp only [Act.put, List.setIfInBounds_toArray, List.set_cons_zero, List.set_cons_succ])
  refine stronger (S' := fun W => Below w5.heap.size w5 W) (fun W h => hk.trans (h.mono hk.size)) _ _ _ _ ?_
  have HH : Hid (Below w5.heap.size w5 w5) := Below.refl _ _
  clear hk
  refine takeL (i := 3) (v := ?_) rfl (by kernel_rfl) (by kernel_rfl) (by kernel_rfl) (fun _ _ _ h => h) (Or.inl ⟨by rfl, ?_⟩) (unhide HH) ?_
  rotate_left 1
  · intro W1 hSW; have hcv := conv_arg ((unhide HA5).below hSW); clear hSW; go_simp; all_goals (with_reducible rfl)
  (try simp only [Act.put, List.setIfInBounds_toArray, List.set_cons_zero, List.set_cons_succ])
  refine takeL (i := 6) (v := ?_) rfl (by kernel_rfl) (by kernel_rfl) (by kernel_rfl) (fun _ _ _ h => h) (Or.inl ⟨by rfl, ?_⟩) (unhide HH) ?_
  rotate_left 1
  · intro W hSW; go_simp; all_goals (with_reducible rfl)
  (try simp only [Act.put, List.setIfInBounds_toArray, List.set_cons_zero, List.set_cons_succ])
  refine takeL (i := 7) (v := ?_) rfl (by kernel_rfl) (by kernel_rfl) (by kernel_rfl) (fun _ _ _ h => h) (Or.inl ⟨by rfl, ?_⟩) (unhide HH) ?_
  rotate_left 1
  · intro W hSW; go_simp; all_goals (with_reducible rfl)
  (try simp only [Act.put, List.setIfInBounds_toArray, List.set_cons_zero, List.set_cons_succ])
  refine takeL (i := 8) (v := ?_) rfl (by kernel_rfl) (by kernel_rfl) (by kernel_rfl) (fun _ _ _ h => h) (Or.inl ⟨by rfl, ?_⟩) (unhide HH) ?_
  rotate_left 1
  · intro W hSW; go_simp; all_goals (with_reducible rfl)
  (try simp only [Act.put, List.setIfInBounds_toArray, List.set_cons_zero, List.set_cons_succ])
  refine takeL (i := 9) (v := ?_) rfl (by kernel_rfl) (by kernel_rfl) (by kernel_rfl) (fun _ _ _ h => h) (Or.inl ⟨by rfl, ?_⟩) (unhide HH) ?_
  rotate_left 1
  · intro W hSW; go_simp; all_goals (with_reducible rfl)
  (try simp only [Act.put, List.setIfInBounds_toArray, List.set_cons_zero, List.set_cons_succ])
  refine takeL (i := 13) (v := ?_) rfl (by kernel_rfl) (by kernel_rfl) (by kernel_rfl) (fun _ _ _ h => h) (Or.inl ⟨by rfl, ?_⟩) (unhide HH) ?_
  rotate_left 1
  · intro W hSW; go_simp; all_goals (with_reducible rfl)
  (try simp only [Act.put, List.setIfInBounds_toArray, List.set_cons_zero, List.set_cons_succ])
  refine takeL (i := 14) (v := ?_) rfl (by kernel_rfl) (by kernel_rfl) (by kernel_rfl) (fun _ _ _ h => h) (Or.inl ⟨by rfl, ?_⟩) (unhide HH) ?_
  rotate_left 1
  · intro W1 hSW; have hcv := conv_arg ((unhide HY).below hSW); clear hSW; go_simp; all_goals (with_reducible rfl)
  (try simp only [Act.put, List.setIfInBounds_toArray, List.set_cons_zero, List.set_cons_succ])
  refine wpAnyH_ready (rs := [10]) (by kernel_rfl) (by simp) ?_
  refine consL rfl (fun K hK => ?_) AllReadyH.nil
  go_simp
  have hk : Below w5.heap.size w5 (w5.alloc (.cells #[.int .u8 255] 5)) := (Below.refl _ _).alloc (Nat.le_refl _) _
  have hA := unhide HONE w5
  generalize w5.alloc (.cells #[.int .u8 255] 5) = w6 at hk hA ⊢
  replace HX := hide ((unhide HX).below hk)
  replace HY := hide ((unhide HY).below hk)
  replace HM := hide ((unhide HM).below hk)
  replace HA3 := hide ((unhide HA3).below hk)
  replace HA5 := hide ((unhide HA5).below hk)
  replace HT := hide ((unhide HT).trans (hk.mono (unhide HT).size))
  have HA6 := hide hA
  clear hA
  refine hK.out _ _ hk (fun hHeld => ?_)
  clear hK K HH hHeld
  (try simp only [Act.put, List.setIfInBounds_toArray, List.set_cons_zero, List.set_cons_succ])
  refine stronger (S' := fun W => Below w6.heap.size w6 W) (fun W h => hk.trans (h.mono hk.size)) _ _ _ _ ?_
  have HH : Hid (Below w6.heap.size w6 w6) := Below.refl _ _
  clear hk
  refine wpAnyH_ready (rs := [11]) (by kernel_rfl) (by simp) ?_
  refine consL rfl (fun K hK => ?_) AllReadyH.nil
  go_simp
  refine (mix_any _ _ _ _ _ _ (X) (Y) ([255]) _ (unhide HX) (unhide HY) (unhide HA6) (fun _ => by rw [unhide HXL]; omega)).mono ?_
  rintro e w7 ⟨v7, rfl, hF, hk⟩
  rw [unhide HFB] at hF
  replace HX := hide ((unhide HX).below hk)
  replace HY := hide ((unhide HY).below hk)
  replace HM := hide ((unhide HM).below hk)
  replace HA3 := hide ((unhide HA3).below hk)
  replace HA5 := hide ((unhide HA5).below hk)
  replace HA6 := hide ((unhide HA6).below hk)
  replace HT := hide ((unhide HT).trans (hk.mono (unhide HT).size))
  obtain ⟨g7, hA, hge⟩ := hF.arg hyb
  obtain ⟨⟨ao7, c7, rfl, h1, h2, h3, h4⟩, _⟩ := hA
  have HA7 : Hid (Arg w7 (.slice ao7 n c7) g7 (Y)) := ⟨⟨ao7, c7, by rw [(unhide HYL)], h1, h2, h3, h4⟩, hyb⟩
  rw [show (Y).length = n from (unhide HYL)]
  clear h1 h2 h3 h4 hF hge
  go_wp2_with fail
  refine hK.out _ _ hk (fun hHeld => ?_)
  clear hK K HH hHeld
  (try simp only [Act.put, List.setIfInBounds_toArray, List.set_cons_zero, List.set_cons_succ])
  refine stronger (S' := fun W => Below w7.heap.size w7 W) (fun W h => hk.trans (h.mono hk.size)) _ _ _ _ ?_
  have HH : Hid (Below w7.heap.size w7 w7) := Below.refl _ _
  clear hk
  refine takeL (i := 12) (v := ?_) rfl (by kernel_rfl) (by kernel_rfl) (by kernel_rfl) (fun _ _ _ h => h) (Or.inl ⟨by rfl, ?_⟩) (unhide HH) ?_
  rotate_left 1
  · intro W1 hSW; have hcv := conv_arg ((unhide HA7).below hSW); clear hSW; go_simp; all_goals (with_reducible rfl)
  (try simp only [Act.put, List.setIfInBounds_toArray, List.set_cons_zero, List.set_cons_succ])
  refine takeL (i := 15) (v := ?_) rfl (by kernel_rfl) (by kernel_rfl) (by kernel_rfl) (fun _ _ _ h => h) (Or.inl ⟨by rfl, ?_⟩) (unhide HH) ?_
  rotate_left 1
  · intro W hSW; go_simp; all_goals (with_reducible rfl)
  (try simp only [Act.put, List.setIfInBounds_toArray, List.set_cons_zero, List.set_cons_succ])
  refine takeL (i := 16) (v := ?_) rfl (by kernel_rfl) (by kernel_rfl) (by kernel_rfl) (fun _ _ _ h => h) (Or.inl ⟨by rfl, ?_⟩) (unhide HH) ?_
  rotate_left 1
  · intro W hSW; go_simp; all_goals (with_reducible rfl)
  (try simp only [Act.put, List.setIfInBounds_toArray, List.set_cons_zero, List.set_cons_succ])
  refine takeL (i := 17) (v := ?_) rfl (by kernel_rfl) (by kernel_rfl) (by kernel_rfl) (fun _ _ _ h => h) (Or.inl ⟨by rfl, ?_⟩) (unhide HH) ?_
  rotate_left 1
  · intro W hSW; go_simp; all_goals (with_reducible rfl)
  (try simp only [Act.put, List.setIfInBounds_toArray, List.set_cons_zero, List.set_cons_succ])
  refine takeL (i := 18) (v := ?_) rfl (by kernel_rfl) (by kernel_rfl) (by kernel_rfl) (fun _ _ _ h => h) (Or.inl ⟨by rfl, ?_⟩) (unhide HH) ?_
  rotate_left 1
  · intro W hSW; go_simp; all_goals (with_reducible rfl)
  (try simp only [Act.put, List.setIfInBounds_toArray, List.set_cons_zero, List.set_cons_succ])
  refine takeL (i := 19) (v := ?_) rfl (by kernel_rfl) (by kernel_rfl) (by kernel_rfl) (fun _ _ _ h => h) (Or.inl ⟨by rfl, ?_⟩) (unhide HH) ?_
  rotate_left 1
  · intro W hSW; go_simp; all_goals (with_reducible rfl)
  (try simp only [Act.put, List.setIfInBounds_toArray, List.set_cons_zero, List.set_cons_succ])
  refine takeL (i := 20) (v := ?_) rfl (by kernel_rfl) (by kernel_rfl) (by kernel_rfl) (fun _ _ _ h => h) (Or.inl ⟨by rfl, ?_⟩) (unhide HH) ?_
  rotate_left 1
  · intro W hSW; go_simp; all_goals (with_reducible rfl)
  (try simp only [Act.put, List.setIfInBounds_toArray, List.set_cons_zero, List.set_cons_succ])
  refine takeL (i := 21) (v := ?_) rfl (by kernel_rfl) (by kernel_rfl) (by kernel_rfl) (fun _ _ _ h => h) (Or.inl ⟨by rfl, ?_⟩) (unhide HH) ?_
  rotate_left 1
  · intro W hSW; go_simp; all_goals (with_reducible rfl)
  (try simp only [Act.put, List.setIfInBounds_toArray, List.set_cons_zero, List.set_cons_succ])
  refine takeL (i := 22) (v := ?_) rfl (by kernel_rfl) (by kernel_rfl) (by kernel_rfl) (fun _ _ _ h => h) (Or.inl ⟨by rfl, ?_⟩) (unhide HH) ?_
  rotate_left 1
  · intro W hSW; go_simp; all_goals (with_reducible rfl)
  (try simp only [Act.put, List.setIfInBounds_toArray, List.set_cons_zero, List.set_cons_succ])
  refine takeL (i := 23) (v := ?_) rfl (by kernel_rfl) (by kernel_rfl) (by kernel_rfl) (fun _ _ _ h => h) (Or.inl ⟨by rfl, ?_⟩) (unhide HH) ?_
  rotate_left 1
  · intro W hSW; go_simp; all_goals (with_reducible rfl)
  (try simp only [Act.put, List.setIfInBounds_toArray, List.set_cons_zero, List.set_cons_succ])
  refine takeL (i := 24) (v := ?_) rfl (by kernel_rfl) (by kernel_rfl) (by kernel_rfl) (fun _ _ _ h => h) (Or.inl ⟨by rfl, ?_⟩) (unhide HH) ?_
  rotate_left 1
  · intro W hSW; go_simp; all_goals (with_reducible rfl)
  (try simp only [Act.put, List.setIfInBounds_toArray, List.set_cons_zero, List.set_cons_succ])
  refine takeL (i := 25) (v := ?_) rfl (by kernel_rfl) (by kernel_rfl) (by kernel_rfl) (fun _ _ _ h => h) (Or.inl ⟨by rfl, ?_⟩) (unhide HH) ?_
  rotate_left 1
  · intro W hSW; go_simp; all_goals (with_reducible rfl)
  (try simp only [Act.put, List.setIfInBounds_toArray, List.set_cons_zero, List.set_cons_succ])
  refine takeL (i := 28) (v := ?_) rfl (by kernel_rfl) (by kernel_rfl) (by kernel_rfl) (fun _ _ _ h => h) (Or.inl ⟨by rfl, ?_⟩) (unhide HH) ?_
  rotate_left 1
  · intro W hSW; go_simp; all_goals (with_reducible rfl)
  (try simp only [Act.put, List.setIfInBounds_toArray, List.set_cons_zero, List.set_cons_succ])
  refine takeL (i := 29) (v := ?_) rfl (by kernel_rfl) (by kernel_rfl) (by kernel_rfl) (fun _ _ _ h => h) (Or.inl ⟨by rfl, ?_⟩) (unhide HH) ?_
  rotate_left 1
  · intro W hSW; go_simp; all_goals (with_reducible rfl)
  (try simp only [Act.put, List.setIfInBounds_toArray, List.set_cons_zero, List.set_cons_succ])
  refine takeL (i := 33) (v := ?_) rfl (by kernel_rfl) (by kernel_rfl) (by kernel_rfl) (fun _ _ _ h => h) (Or.inl ⟨by rfl, ?_⟩) (unhide HH) ?_
  rotate_left 1
  · intro W hSW; go_simp; all_goals (with_reducible rfl)
  (try simp only [Act.put, List.setIfInBounds_toArray, List.set_cons_zero, List.set_cons_succ])
  refine takeL (i := 34) (v := ?_) rfl (by kernel_rfl) (by kernel_rfl) (by kernel_rfl) (fun _ _ _ h => h) (Or.inl ⟨by rfl, ?_⟩) (unhide HH) ?_
  rotate_left 1
  · intro W hSW; go_simp; all_goals (with_reducible rfl)
  (try simp only [Act.put, List.setIfInBounds_toArray, List.set_cons_zero, List.set_cons_succ])
  refine wpAnyH_ready (rs := [26]) (by kernel_rfl) (by simp) ?_
  refine consL rfl (fun K hK => ?_) AllReadyH.nil
  go_simp
  refine (apart_any _ _ _ _ (X) (M) _ (unhide HX) (unhide HA3) (fun _ => by rw [unhide HXL]; omega)).mono ?_
  rintro e w8 ⟨v8, rfl, hO, hk⟩
  replace HX := hide ((unhide HX).below hk)
  replace HY := hide ((unhide HY).below hk)
  replace HM := hide ((unhide HM).below hk)
  replace HA3 := hide ((unhide HA3).below hk)
  replace HA5 := hide ((unhide HA5).below hk)
  replace HA6 := hide ((unhide HA6).below hk)
  replace HA7 := hide ((unhide HA7).below hk)
  replace HT := hide ((unhide HT).trans (hk.mono (unhide HT).size))
  obtain ⟨ao8, c8, g8, rfl, hZ⟩ := hO.za (fun k h => by have := ap_lt h; have := unhide HXL; omega)
  rw [show (apL (X) (M)).length = p from unhide HP] at hZ ⊢
  have HZ8 := hide hZ
  clear hZ hO
  go_wp2_with fail
  refine hK.out _ _ hk (fun hHeld => ?_)
  clear hK K HH hHeld
  (try simp only [Act.put, List.setIfInBounds_toArray, List.set_cons_zero, List.set_cons_succ])
  refine stronger (S' := fun W => Below w8.heap.size w8 W) (fun W h => hk.trans (h.mono hk.size)) _ _ _ _ ?_
  have HH : Hid (Below w8.heap.size w8 w8) := Below.refl _ _
  clear hk
  refine takeL (i := 27) (v := ?_) rfl (by kernel_rfl) (by kernel_rfl) (by kernel_rfl) (fun _ _ _ h => h) (Or.inl ⟨by rfl, ?_⟩) (unhide HH) ?_
  rotate_left 1
  · intro W hSW; go_simp; all_goals (with_reducible rfl)
  (try simp only [Act.put, List.setIfInBounds_toArray, List.set_cons_zero, List.set_cons_succ])
  refine wpAnyH_ready (rs := [30]) (by kernel_rfl) (by simp) ?_
  refine consL rfl (fun K hK => ?_) AllReadyH.nil
  go_simp
  refine (apart_any _ _ _ _ (M) (Y) _ (unhide HA3) (unhide HY) (fun _ => by rw [unhide HML]; omega)).mono ?_
  rintro e w9 ⟨v9, rfl, hO, hk⟩
  replace HX := hide ((unhide HX).below hk)
  replace HY := hide ((unhide HY).below hk)
  replace HM := hide ((unhide HM).below hk)
  replace HA3 := hide ((unhide HA3).below hk)
  replace HA5 := hide ((unhide HA5).below hk)
  replace HA6 := hide ((unhide HA6).below hk)
  replace HA7 := hide ((unhide HA7).below hk)
  replace HZ8 := hide ((unhide HZ8).below hk)
  replace HT := hide ((unhide HT).trans (hk.mono (unhide HT).size))
  obtain ⟨ao9, c9, g9, rfl, hZ⟩ := hO.za (fun k h => by have := ap_lt h; have := unhide HML; omega)
  rw [show (apL (M) (Y)).length = q from unhide HQ] at hZ ⊢
  have HZ9 := hide hZ
  clear hZ hO
  go_wp2_with fail
  refine hK.out _ _ hk (fun hHeld => ?_)
  clear hK K HH hHeld
  (try simp only [Act.put, List.setIfInBounds_toArray, List.set_cons_zero, List.set_cons_succ])
  refine stronger (S' := fun W => Below w9.heap.size w9 W) (fun W h => hk.trans (h.mono hk.size)) _ _ _ _ ?_
  have HH : Hid (Below w9.heap.size w9 w9) := Below.refl _ _
  clear hk
  refine takeL (i := 31) (v := ?_) rfl (by kernel_rfl) (by kernel_rfl) (by kernel_rfl) (fun _ _ _ h => h) (Or.inl ⟨by rfl, ?_⟩) (unhide HH) ?_
  rotate_left 1
  · intro W hSW; go_simp; all_goals (with_reducible rfl)
  (try simp only [Act.put, List.setIfInBounds_toArray, List.set_cons_zero, List.set_cons_succ])
  refine takeL (i := 32) (v := ?_) rfl (by kernel_rfl) (by kernel_rfl) (by kernel_rfl) (fun _ _ _ h => h) (Or.inl ⟨by rfl, ?_⟩) (unhide HH) ?_
  rotate_left 1
  · intro W hSW; go_simp; all_goals (with_reducible rfl)
  (try simp only [Act.put, List.setIfInBounds_toArray, List.set_cons_zero, List.set_cons_succ])
  refine wpAnyH_ready (rs := [35]) (by kernel_rfl) (by simp) ?_
  refine consL rfl (fun K hK => ?_) AllReadyH.nil
  go_simp
  refine (apart_any _ _ _ _ (X) (Y) _ (unhide HX) (unhide HY) (fun _ => by rw [unhide HXL]; omega)).mono ?_
  rintro e w10 ⟨v10, rfl, hO, hk⟩
  replace HX := hide ((unhide HX).below hk)
  replace HY := hide ((unhide HY).below hk)
  replace HM := hide ((unhide HM).below hk)
  replace HA3 := hide ((unhide HA3).below hk)
  replace HA5 := hide ((unhide HA5).below hk)
  replace HA6 := hide ((unhide HA6).below hk)
  replace HA7 := hide ((unhide HA7).below hk)
  replace HZ8 := hide ((unhide HZ8).below hk)
  replace HZ9 := hide ((unhide HZ9).below hk)
  replace HT := hide ((unhide HT).trans (hk.mono (unhide HT).size))
  obtain ⟨ao10, c10, g10, rfl, hZ⟩ := hO.za (fun k h => by have := ap_lt h; have := unhide HXL; omega)
  rw [show (apL (X) (Y)).length = r from unhide HR] at hZ ⊢
  have HZ10 := hide hZ
  clear hZ hO
  go_wp2_with fail
  refine hK.out _ _ hk (fun hHeld => ?_)
  clear hK K HH hHeld
  (try simp only [Act.put, List.setIfInBounds_toArray, List.set_cons_zero, List.set_cons_succ])
  refine stronger (S' := fun W => Below w10.heap.size w10 W) (fun W h => hk.trans (h.mono hk.size)) _ _ _ _ ?_
  have HH : Hid (Below w10.heap.size w10 w10) := Below.refl _ _
  clear hk
  refine takeL (i := 36) (v := ?_) rfl (by kernel_rfl) (by kernel_rfl) (by kernel_rfl) (fun _ _ _ h => h) (Or.inl ⟨by rfl, ?_⟩) (unhide HH) ?_
  rotate_left 1
  · intro W hSW; go_simp; all_goals (with_reducible rfl)
  (try simp only [Act.put, List.setIfInBounds_toArray, List.set_cons_zero, List.set_cons_succ])
  refine takeL (i := 37) (v := ?_) rfl (by kernel_rfl) (by kernel_rfl) (by kernel_rfl) (fun _ _ _ h => h) (Or.inl ⟨by rfl, ?_⟩) (unhide HH) ?_
  rotate_left 1
  · intro W hSW; go_simp; all_goals (with_reducible rfl)
  (try simp only [Act.put, List.setIfInBounds_toArray, List.set_cons_zero, List.set_cons_succ])
  refine takeL (i := 38) (v := ?_) rfl (by kernel_rfl) (by kernel_rfl) (by kernel_rfl) (fun _ _ _ h => h) (Or.inl ⟨by rfl, ?_⟩) (unhide HH) ?_
  rotate_left 1
  · intro W hSW; go_simp; all_goals (with_reducible rfl)
  (try simp only [Act.put, List.setIfInBounds_toArray, List.set_cons_zero, List.set_cons_succ])
  refine takeL (i := 39) (v := ?_) rfl (by kernel_rfl) (by kernel_rfl) (by kernel_rfl) (fun _ _ _ h => h) (Or.inl ⟨by rfl, ?_⟩) (unhide HH) ?_
  rotate_left 1
  · intro W hSW; go_simp; all_goals (with_reducible rfl)
  (try simp only [Act.put, List.setIfInBounds_toArray, List.set_cons_zero, List.set_cons_succ])
  refine wpAnyH_done (by kernel_rfl) ?_ _
  refine NoPanic.normal ?_
  go_wp2
  go_ret
  exact ⟨rfl, unhide HT⟩

end Go.Proofs.Ytoljplfijopcmaa
