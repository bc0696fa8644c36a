/-
  The walk of BitsTwice.
-/
import Derived.Test.YtoljplfijopcmabH6k
import Derived.Test.YtoljplfijopcmabB6h
import Derived.Test.YtoljplfijopcmabM6
import Derived.Test.YtoljplfijopcmabN6t
namespace Go.Proofs.Ytoljplfijopcmab
open Go.RowKit Go.Shelf

set_option maxRecDepth 100000 in
set_option maxHeartbeats 8000000 in
theorem twice_walk (u v : Value) (ga gb : Nat) (a b : List Nat) (zm zn : Int) (w : World) (hA : Arg w u ga a) (hB : Arg w v gb b) (hzm : 0 ≤ zm ∧ zm ≤ 255) (hzn : 0 ≤ zn ∧ zn ≤ 255) :
    Calls Try.prog 3 #[u, v, .int .u8 zm, .int .u8 zn] w fun e w' => e = .returned (.bool true) ∧ Below w.heap.size w w' := by
  obtain ⟨m, rfl⟩ := Int.eq_ofNat_of_zero_le hzm.1
  obtain ⟨d, rfl⟩ := Int.eq_ofNat_of_zero_le hzn.1
  have hm8 : m < 256 := by omega
  have hd8 : d < 256 := by omega
  clear hzm hzn
  have HA := hide hA
  have HB := hide hB
  obtain ⟨⟨ao, ca, rfl, hc1, hc2, _, _⟩, hba⟩ := hA
  obtain ⟨⟨bo, cb, rfl, hd1, hd2, _, _⟩, hbb⟩ := hB
  obtain ⟨la, hla⟩ : ∃ n, a.length = n := ⟨_, rfl⟩
  obtain ⟨lb, hlb⟩ : ∃ n, b.length = n := ⟨_, rfl⟩
  have HLA := hide hla
  have HLB := hide hlb
  rw [hla] at HA hc1 ⊢
  rw [hlb] at HB hd1 ⊢
  clear hla hlb
  have ha1 : (la : Int) ≤ 9223372036854775807 := by unfold maxLen at hc2; omega
  have hb1 : (lb : Int) ≤ 9223372036854775807 := by unfold maxLen at hd2; omega
  obtain ⟨n, hn⟩ : ∃ n : Nat, min (min la lb) 60 = n := ⟨_, rfl⟩
  have hnl : n ≤ 60 := by omega
  have hna : n ≤ la := by omega
  have hnb : n ≤ lb := by omega
  have hmin : ∀ W : World, (Builtin.min_ #[3, 3, 3] 3 #[.int .i64 (la : Int), .int .i64 (lb : Int), .int .i64 60]).run Try.prog W = .ok (.int .i64 (n : Int)) W := fun W => by
    rw [min_three, show min (min (la : Int) (lb : Int)) 60 = (n : Int) from by omega]
  clear hn
  obtain ⟨X, hX⟩ : ∃ X, a.take n = X := ⟨_, rfl⟩
  obtain ⟨Y, hY⟩ : ∃ Y, b.take n = Y := ⟨_, rfl⟩
  have HX := hide ((unhide HA).front hna)
  have HY := hide ((unhide HB).front hnb)
  rw [hX] at HX
  rw [hY] at HY
  have hxl : X.length = n := by rw [← hX, List.length_take, unhide HLA]; omega
  have hyl : Y.length = n := by rw [← hY, List.length_take, unhide HLB]; omega
  have hxb : Bs X := (unhide HX).bs
  have hyb : Bs Y := (unhide HY).bs
  have HXL := hide hxl
  have HYL := hide hyl
  clear hX hY hxl hyl
  have hle : X.length = Y.length := by rw [unhide HXL, unhide HYL]
  have hor : bits .or .u8 (m : Int) (d : Int) = ((m ||| d : Nat) : Int) := (bits_nat .u8 8 (by decide) wraps_u8 m d hm8 hd8).2
  have hmd : m ||| d < 256 := Nat.or_lt_two_pow (n := 8) hm8 hd8
  obtain ⟨M, hMM⟩ : ∃ M, mixL X Y [m] = M := ⟨_, rfl⟩
  obtain ⟨R, hRR⟩ : ∃ R, mixL X Y [m ||| d] = R := ⟨_, rfl⟩
  have HML : Hid (M.length = n) := by show _ = _; rw [← hMM, mixL_len hle]; exact unhide HXL
  have hmb : Bs M := by rw [← hMM]; exact mixL_bs _ hxb hyb
  have HRL : Hid (R.length = n) := by show _ = _; rw [← hRR, mixL_len hle]; exact unhide HXL
  have hrb : Bs R := by rw [← hRR]; exact mixL_bs _ hxb hyb
  have HS1 : Hid (mixL M Y [m] = M) := by show _ = _; rw [← hMM]; exact mix_same hle m hxb hyb
  have HS2 : Hid (mixL M Y [d] = R) := by show _ = _; rw [← hMM, ← hRR]; exact mix_both hle m d hxb hyb
  obtain ⟨o, ho⟩ : ∃ o, m ||| d = o := ⟨_, rfl⟩
  rw [ho] at hor hmd hRR
  have HMM := hide hMM
  have HRR := hide hRR
  clear hle hMM hRR ho
  have HONEm : Hid (∀ W : World, Arg (W.alloc (.cells #[.int .u8 (m : Int)] 5)) (.slice (some ⟨W.heap.size, 0, none⟩) 1 1) W.heap.size [m]) := fun W => arg_one W m hm8
  have HONEd : Hid (∀ W : World, Arg (W.alloc (.cells #[.int .u8 (d : Int)] 5)) (.slice (some ⟨W.heap.size, 0, none⟩) 1 1) W.heap.size [d]) := fun W => arg_one W d hd8
  have HONEo : Hid (∀ W : World, Arg (W.alloc (.cells #[.int .u8 (o : Int)] 5)) (.slice (some ⟨W.heap.size, 0, none⟩) 1 1) W.heap.size [o]) := fun W => arg_one W o hmd
  have HT : Hid (Below w.heap.size w w) := Below.refl _ _
  go_enter Try.func3, Try.ntmps3
  go_wp2_with fail
  refine (known_any _).mono ?_
  rintro e w1 ⟨rfl, hk⟩
  replace HX := hide ((unhide HX).below hk)
  replace HY := hide ((unhide HY).below hk)
  replace HT := hide ((unhide HT).trans (hk.mono (unhide HT).size))
  clear hk
  go_wp2_with fail
  clear hmin
  go_quiet (fail)
  have hk : Below w1.heap.size w1 (w1.drewN nq) := below_drewN w1 nq
  generalize w1.drewN nq = w2 at hk ⊢
  replace HX := hide ((unhide HX).below hk)
  replace HY := hide ((unhide HY).below hk)
  replace HT := hide ((unhide HT).trans (hk.mono (unhide HT).size))
  clear hk
  go_wp2_with fail
  have hk : Below w2.heap.size w2 (w2.alloc (.cells #[.int .u8 (m : Int)] 5)) := (Below.refl _ _).alloc (Nat.le_refl _) _
  have hA := unhide HONEm w2
  generalize w2.alloc (.cells #[.int .u8 (m : Int)] 5) = w3 at hk hA ⊢
  replace HX := hide ((unhide HX).below hk)
  replace HY := hide ((unhide HY).below hk)
  replace HT := hide ((unhide HT).trans (hk.mono (unhide HT).size))
  have HA3 := hide hA
  clear hA
  clear hk
  refine (mix_any _ _ _ _ _ _ (X) (Y) ([m]) _ (unhide HX) (unhide HY) (unhide HA3) (fun _ => by rw [unhide HXL]; omega)).mono ?_
  rintro e w4 ⟨v4, rfl, hF, hk⟩
  rw [unhide HMM] at hF
  replace HX := hide ((unhide HX).below hk)
  replace HY := hide ((unhide HY).below hk)
  replace HA3 := hide ((unhide HA3).below hk)
  replace HT := hide ((unhide HT).trans (hk.mono (unhide HT).size))
  obtain ⟨g4, hA, hge⟩ := hF.arg hmb
  obtain ⟨⟨ao4, c4, rfl, h1, h2, h3, h4⟩, _⟩ := hA
  have HA4 : Hid (Arg w4 (.slice ao4 n c4) g4 (M)) := ⟨⟨ao4, c4, by rw [(unhide HML)], h1, h2, h3, h4⟩, hmb⟩
  rw [show (M).length = n from (unhide HML)]
  clear h1 h2 h3 h4 hF hge
  clear hk
  go_wp2_with fail
  replace HT := hide ((unhide HT).drew)
  replace HX := hide ((unhide HX).below (Below.refl _ _).drew)
  replace HY := hide ((unhide HY).below (Below.refl _ _).drew)
  replace HA3 := hide ((unhide HA3).below (Below.refl _ _).drew)
  replace HA4 := hide ((unhide HA4).below (Below.refl _ _).drew)
  refine wp_region_noPanic ?_
  refine wp_region_held_drew (S := fun W => Below w4.drew.heap.size w4.drew W) (by kernel_rfl) (Below.refl _ _) (fun hHeld => ?_)
  have HH := hide hHeld
  clear hHeld
  generalize w4.drew = w5 at HT HX HY HA3 HA4 HH ⊢
  refine takeL (i := 0) (v := ?_) rfl (by kernel_rfl) (by kernel_rfl) (by kernel_rfl) (fun _ _ _ h => h) (Or.inl ⟨by rfl, ?_⟩) (unhide HH) ?_
  rotate_left 1
  · intro W hSW; go_simp; all_goals (with_reducible rfl)
  (try simp only [Act.put, List.setIfInBounds_toArray, List.set_cons_zero, List.set_cons_succ])
  refine takeL (i := 1) (v := ?_) rfl (by kernel_rfl) (by kernel_rfl) (by kernel_rfl) (fun _ _ _ h => h) (Or.inl ⟨by rfl, ?_⟩) (unhide HH) ?_
  rotate_left 1
  · intro W hSW; go_simp; all_goals (with_reducible rfl)
  (try simp only [Act.put, List.setIfInBounds_toArray, List.set_cons_zero, List.set_cons_succ])
  refine takeL (i := 2) (v := ?_) rfl (by kernel_rfl) (by kernel_rfl) (by kernel_rfl) (fun _ _ _ h => h) (Or.inl ⟨by rfl, ?_⟩) (unhide HH) ?_
  rotate_left 1
  · intro W hSW; go_simp; all_goals (with_reducible rfl)
  (try simp only [Act.put, List.setIfInBounds_toArray, List.set_cons_zero, List.set_cons_succ])
  refine takeL (i := 3) (v := ?_) rfl (by kernel_rfl) (by kernel_rfl) (by kernel_rfl) (fun _ _ _ h => h) (Or.inl ⟨by rfl, ?_⟩) (unhide HH) ?_
  rotate_left 1
  · intro W hSW; go_simp; all_goals (with_reducible rfl)
  (try simp only [Act.put, List.setIfInBounds_toArray, List.set_cons_zero, List.set_cons_succ])
  refine takeL (i := 4) (v := ?_) rfl (by kernel_rfl) (by kernel_rfl) (by kernel_rfl) (fun _ _ _ h => h) (Or.inl ⟨by rfl, ?_⟩) (unhide HH) ?_
  rotate_left 1
  · intro W hSW; go_simp; all_goals (with_reducible rfl)
  (try simp only [Act.put, List.setIfInBounds_toArray, List.set_cons_zero, List.set_cons_succ])
  refine takeL (i := 5) (v := ?_) rfl (by kernel_rfl) (by kernel_rfl) (by kernel_rfl) (fun _ _ _ h => h) (Or.inl ⟨by rfl, ?_⟩) (unhide HH) ?_
  rotate_left 1
  · intro W hSW; go_simp; all_goals (with_reducible rfl)
  (try simp only [Act.put, List.setIfInBounds_toArray, List.set_cons_zero, List.set_cons_succ])
  refine takeL (i := 6) (v := ?_) rfl (by kernel_rfl) (by kernel_rfl) (by kernel_rfl) (fun _ _ _ h => h) (Or.inl ⟨by rfl, ?_⟩) (unhide HH) ?_
  rotate_left 1
  · intro W hSW; go_simp; all_goals (with_reducible rfl)
  (try simp only [Act.put, List.setIfInBounds_toArray, List.set_cons_zero, List.set_cons_succ])
  refine takeL (i := 7) (v := ?_) rfl (by kernel_rfl) (by kernel_rfl) (by kernel_rfl) (fun _ _ _ h => h) (Or.inl ⟨by rfl, ?_⟩) (unhide HH) ?_
  rotate_left 1
  · intro W hSW; go_simp; all_goals (with_reducible rfl)
  (try simp only [Act.put, List.setIfInBounds_toArray, List.set_cons_zero, List.set_cons_succ])
  refine takeL (i := 11) (v := ?_) rfl (by kernel_rfl) (by kernel_rfl) (by kernel_rfl) (fun _ _ _ h => h) (Or.inl ⟨by rfl, ?_⟩) (unhide HH) ?_
  rotate_left 1
  · intro W hSW; go_simp; all_goals (with_reducible rfl)
  (try simp only [Act.put, List.setIfInBounds_toArray, List.set_cons_zero, List.set_cons_succ])
  refine takeL (i := 12) (v := ?_) rfl (by kernel_rfl) (by kernel_rfl) (by kernel_rfl) (fun _ _ _ h => h) (Or.inl ⟨by rfl, ?_⟩) (unhide HH) ?_
  rotate_left 1
  · intro W1 hSW; have hcv := conv_arg ((unhide HA4).below hSW); clear hSW; go_simp; all_goals (with_reducible rfl)
  (try simp only [Act.put, List.setIfInBounds_toArray, List.set_cons_zero, List.set_cons_succ])
  refine wpAnyH_ready (rs := [8]) (by kernel_rfl) (by simp) ?_
  refine consL rfl (fun K hK => ?_) AllReadyH.nil
  go_simp
  have hk : Below w5.heap.size w5 (w5.alloc (.cells #[.int .u8 (m : Int)] 5)) := (Below.refl _ _).alloc (Nat.le_refl _) _
  have hA := unhide HONEm w5
  generalize w5.alloc (.cells #[.int .u8 (m : Int)] 5) = w6 at hk hA ⊢
  replace HX := hide ((unhide HX).below hk)
  replace HY := hide ((unhide HY).below hk)
  replace HA3 := hide ((unhide HA3).below hk)
  replace HA4 := hide ((unhide HA4).below hk)
  replace HT := hide ((unhide HT).trans (hk.mono (unhide HT).size))
  have HA6 := hide hA
  clear hA
  refine hK.out _ _ hk (fun hHeld => ?_)
  clear hK K HH hHeld
  (try simp only [Act.put, List.setIfInBounds_toArray, List.set_cons_zero, List.set_cons_succ])
  refine stronger (S' := fun W => Below w6.heap.size w6 W) (fun W h => hk.trans (h.mono hk.size)) _ _ _ _ ?_
  have HH : Hid (Below w6.heap.size w6 w6) := Below.refl _ _
  clear hk
  refine wpAnyH_ready (rs := [9]) (by kernel_rfl) (by simp) ?_
  refine consL rfl (fun K hK => ?_) AllReadyH.nil
  go_simp
  refine (mix_any _ _ _ _ _ _ (M) (Y) ([m]) _ (unhide HA4) (unhide HY) (unhide HA6) (fun _ => by rw [unhide HML]; omega)).mono ?_
  rintro e w7 ⟨v7, rfl, hF, hk⟩
  rw [unhide HS1] at hF
  replace HX := hide ((unhide HX).below hk)
  replace HY := hide ((unhide HY).below hk)
  replace HA3 := hide ((unhide HA3).below hk)
  replace HA4 := hide ((unhide HA4).below hk)
  replace HA6 := hide ((unhide HA6).below hk)
  replace HT := hide ((unhide HT).trans (hk.mono (unhide HT).size))
  obtain ⟨g7, hA, hge⟩ := hF.arg hmb
  obtain ⟨⟨ao7, c7, rfl, h1, h2, h3, h4⟩, _⟩ := hA
  have HA7 : Hid (Arg w7 (.slice ao7 n c7) g7 (M)) := ⟨⟨ao7, c7, by rw [(unhide HML)], h1, h2, h3, h4⟩, hmb⟩
  rw [show (M).length = n from (unhide HML)]
  clear h1 h2 h3 h4 hF hge
  go_wp2_with fail
  refine hK.out _ _ hk (fun hHeld => ?_)
  clear hK K HH hHeld
  (try simp only [Act.put, List.setIfInBounds_toArray, List.set_cons_zero, List.set_cons_succ])
  refine stronger (S' := fun W => Below w7.heap.size w7 W) (fun W h => hk.trans (h.mono hk.size)) _ _ _ _ ?_
  have HH : Hid (Below w7.heap.size w7 w7) := Below.refl _ _
  clear hk
  refine takeL (i := 10) (v := ?_) rfl (by kernel_rfl) (by kernel_rfl) (by kernel_rfl) (fun _ _ _ h => h) (Or.inl ⟨by rfl, ?_⟩) (unhide HH) ?_
  rotate_left 1
  · intro W1 hSW; have hcv := conv_arg ((unhide HA7).below hSW); clear hSW; go_simp; all_goals (with_reducible rfl)
  (try simp only [Act.put, List.setIfInBounds_toArray, List.set_cons_zero, List.set_cons_succ])
  refine takeL (i := 13) (v := ?_) rfl (by kernel_rfl) (by kernel_rfl) (by kernel_rfl) (fun _ _ _ h => h) (Or.inl ⟨by rfl, ?_⟩) (unhide HH) ?_
  rotate_left 1
  · intro W hSW; go_simp; all_goals (with_reducible rfl)
  (try simp only [Act.put, List.setIfInBounds_toArray, List.set_cons_zero, List.set_cons_succ])
  refine takeL (i := 14) (v := ?_) rfl (by kernel_rfl) (by kernel_rfl) (by kernel_rfl) (fun _ _ _ h => h) (Or.inl ⟨by rfl, ?_⟩) (unhide HH) ?_
  rotate_left 1
  · intro W hSW; go_simp; all_goals (with_reducible rfl)
  (try simp only [Act.put, List.setIfInBounds_toArray, List.set_cons_zero, List.set_cons_succ])
  refine takeL (i := 15) (v := ?_) rfl (by kernel_rfl) (by kernel_rfl) (by kernel_rfl) (fun _ _ _ h => h) (Or.inl ⟨by rfl, ?_⟩) (unhide HH) ?_
  rotate_left 1
  · intro W hSW; go_simp; all_goals (with_reducible rfl)
  (try simp only [Act.put, List.setIfInBounds_toArray, List.set_cons_zero, List.set_cons_succ])
  refine takeL (i := 16) (v := ?_) rfl (by kernel_rfl) (by kernel_rfl) (by kernel_rfl) (fun _ _ _ h => h) (Or.inl ⟨by rfl, ?_⟩) (unhide HH) ?_
  rotate_left 1
  · intro W hSW; go_simp; all_goals (with_reducible rfl)
  (try simp only [Act.put, List.setIfInBounds_toArray, List.set_cons_zero, List.set_cons_succ])
  refine takeL (i := 17) (v := ?_) rfl (by kernel_rfl) (by kernel_rfl) (by kernel_rfl) (fun _ _ _ h => h) (Or.inl ⟨by rfl, ?_⟩) (unhide HH) ?_
  rotate_left 1
  · intro W hSW; go_simp; all_goals (with_reducible rfl)
  (try simp only [Act.put, List.setIfInBounds_toArray, List.set_cons_zero, List.set_cons_succ])
  refine takeL (i := 18) (v := ?_) rfl (by kernel_rfl) (by kernel_rfl) (by kernel_rfl) (fun _ _ _ h => h) (Or.inl ⟨by rfl, ?_⟩) (unhide HH) ?_
  rotate_left 1
  · intro W hSW; go_simp; all_goals (with_reducible rfl)
  (try simp only [Act.put, List.setIfInBounds_toArray, List.set_cons_zero, List.set_cons_succ])
  refine takeL (i := 22) (v := ?_) rfl (by kernel_rfl) (by kernel_rfl) (by kernel_rfl) (fun _ _ _ h => h) (Or.inl ⟨by rfl, ?_⟩) (unhide HH) ?_
  rotate_left 1
  · intro W hSW; go_simp; all_goals (with_reducible rfl)
  (try simp only [Act.put, List.setIfInBounds_toArray, List.set_cons_zero, List.set_cons_succ])
  refine takeL (i := 23) (v := ?_) rfl (by kernel_rfl) (by kernel_rfl) (by kernel_rfl) (fun _ _ _ h => h) (Or.inl ⟨by rfl, ?_⟩) (unhide HH) ?_
  rotate_left 1
  · intro W hSW; go_simp; all_goals (with_reducible rfl)
  (try simp only [Act.put, List.setIfInBounds_toArray, List.set_cons_zero, List.set_cons_succ])
  refine takeL (i := 24) (v := ?_) rfl (by kernel_rfl) (by kernel_rfl) (by kernel_rfl) (fun _ _ _ h => h) (Or.inl ⟨by rfl, ?_⟩) (unhide HH) ?_
  rotate_left 1
  · intro W hSW; go_simp; all_goals (with_reducible rfl)
  (try simp only [Act.put, List.setIfInBounds_toArray, List.set_cons_zero, List.set_cons_succ])
  refine takeL (i := 25) (v := ?_) rfl (by kernel_rfl) (by kernel_rfl) (by kernel_rfl) (fun _ _ _ h => h) (Or.inl ⟨by rfl, ?_⟩) (unhide HH) ?_
  rotate_left 1
  · intro W hSW; go_simp; all_goals (with_reducible rfl)
  (try simp only [Act.put, List.setIfInBounds_toArray, List.set_cons_zero, List.set_cons_succ])
  refine takeL (i := 26) (v := ?_) rfl (by kernel_rfl) (by kernel_rfl) (by kernel_rfl) (fun _ _ _ h => h) (Or.inl ⟨by rfl, ?_⟩) (unhide HH) ?_
  rotate_left 1
  · intro W hSW; go_simp; all_goals (with_reducible rfl)
  (try simp only [Act.put, List.setIfInBounds_toArray, List.set_cons_zero, List.set_cons_succ])
  refine wpAnyH_ready (rs := [19, 27]) (by kernel_rfl) (by simp) ?_
  refine consL rfl (fun K hK => ?_) (consL rfl (fun K hK => ?_) AllReadyH.nil)
  focus
    go_simp
    have hk : Below w7.heap.size w7 (w7.alloc (.cells #[.int .u8 (d : Int)] 5)) := (Below.refl _ _).alloc (Nat.le_refl _) _
    have hA := unhide HONEd w7
    generalize w7.alloc (.cells #[.int .u8 (d : Int)] 5) = w8 at hk hA ⊢
    replace HX := hide ((unhide HX).below hk)
    replace HY := hide ((unhide HY).below hk)
    replace HA3 := hide ((unhide HA3).below hk)
    replace HA4 := hide ((unhide HA4).below hk)
    replace HA6 := hide ((unhide HA6).below hk)
    replace HA7 := hide ((unhide HA7).below hk)
    replace HT := hide ((unhide HT).trans (hk.mono (unhide HT).size))
    have HA8 := hide hA
    clear hA
    refine hK.out _ _ hk (fun hHeld => ?_)
    clear hK K HH hHeld
    (try simp only [Act.put, List.setIfInBounds_toArray, List.set_cons_zero, List.set_cons_succ])
    refine stronger (S' := fun W => Below w8.heap.size w8 W) (fun W h => hk.trans (h.mono hk.size)) _ _ _ _ ?_
    have HH : Hid (Below w8.heap.size w8 w8) := Below.refl _ _
    clear hk
    refine wpAnyH_ready (rs := [20, 27]) (by kernel_rfl) (by simp) ?_
    refine consL rfl (fun K hK => ?_) (consL rfl (fun K hK => ?_) AllReadyH.nil)
    focus
      go_simp
      refine (mix_any _ _ _ _ _ _ (M) (Y) ([d]) _ (unhide HA4) (unhide HY) (unhide HA8) (fun _ => by rw [unhide HML]; omega)).mono ?_
      rintro e w9 ⟨v9, rfl, hF, hk⟩
      rw [unhide HS2] at hF
      replace HX := hide ((unhide HX).below hk)
      replace HY := hide ((unhide HY).below hk)
      replace HA3 := hide ((unhide HA3).below hk)
      replace HA4 := hide ((unhide HA4).below hk)
      replace HA6 := hide ((unhide HA6).below hk)
      replace HA7 := hide ((unhide HA7).below hk)
      replace HA8 := hide ((unhide HA8).below hk)
      replace HT := hide ((unhide HT).trans (hk.mono (unhide HT).size))
      obtain ⟨g9, hA, hge⟩ := hF.arg hrb
      obtain ⟨⟨ao9, c9, rfl, h1, h2, h3, h4⟩, _⟩ := hA
      have HA9 : Hid (Arg w9 (.slice ao9 n c9) g9 (R)) := ⟨⟨ao9, c9, by rw [(unhide HRL)], h1, h2, h3, h4⟩, hrb⟩
      rw [show (R).length = n from (unhide HRL)]
      clear h1 h2 h3 h4 hF hge
      go_wp2_with fail
      refine hK.out _ _ hk (fun hHeld => ?_)
      clear hK K HH hHeld
      (try simp only [Act.put, List.setIfInBounds_toArray, List.set_cons_zero, List.set_cons_succ])
      refine stronger (S' := fun W => Below w9.heap.size w9 W) (fun W h => hk.trans (h.mono hk.size)) _ _ _ _ ?_
      have HH : Hid (Below w9.heap.size w9 w9) := Below.refl _ _
      clear hk
      refine takeL (i := 21) (v := ?_) rfl (by kernel_rfl) (by kernel_rfl) (by kernel_rfl) (fun _ _ _ h => h) (Or.inl ⟨by rfl, ?_⟩) (unhide HH) ?_
      rotate_left 1
      · intro W1 hSW; have hcv := conv_arg ((unhide HA9).below hSW); clear hSW; go_simp; all_goals (with_reducible rfl)
      (try simp only [Act.put, List.setIfInBounds_toArray, List.set_cons_zero, List.set_cons_succ])
      refine wpAnyH_ready (rs := [27]) (by kernel_rfl) (by simp) ?_
      refine consL rfl (fun K hK => ?_) AllReadyH.nil
      go_simp
      have hk : Below w9.heap.size w9 (w9.alloc (.cells #[.int .u8 (o : Int)] 5)) := (Below.refl _ _).alloc (Nat.le_refl _) _
      have hA := unhide HONEo w9
      generalize w9.alloc (.cells #[.int .u8 (o : Int)] 5) = w10 at hk hA ⊢
      replace HX := hide ((unhide HX).below hk)
      replace HY := hide ((unhide HY).below hk)
      replace HA3 := hide ((unhide HA3).below hk)
      replace HA4 := hide ((unhide HA4).below hk)
      replace HA6 := hide ((unhide HA6).below hk)
      replace HA7 := hide ((unhide HA7).below hk)
      replace HA8 := hide ((unhide HA8).below hk)
      replace HA9 := hide ((unhide HA9).below hk)
      replace HT := hide ((unhide HT).trans (hk.mono (unhide HT).size))
      have HA10 := hide hA
      clear hA
      refine hK.out _ _ hk (fun hHeld => ?_)
      clear hK K HH hHeld
      (try simp only [Act.put, List.setIfInBounds_toArray, List.set_cons_zero, List.set_cons_succ])
      refine stronger (S' := fun W => Below w10.heap.size w10 W) (fun W h => hk.trans (h.mono hk.size)) _ _ _ _ ?_
      have HH : Hid (Below w10.heap.size w10 w10) := Below.refl _ _
      clear hk
      refine wpAnyH_ready (rs := [28]) (by kernel_rfl) (by simp) ?_
      refine consL rfl (fun K hK => ?_) AllReadyH.nil
      go_simp
      refine (mix_any _ _ _ _ _ _ (X) (Y) ([o]) _ (unhide HX) (unhide HY) (unhide HA10) (fun _ => by rw [unhide HXL]; omega)).mono ?_
      rintro e w11 ⟨v11, rfl, hF, hk⟩
      rw [unhide HRR] at hF
      replace HX := hide ((unhide HX).below hk)
      replace HY := hide ((unhide HY).below hk)
      replace HA3 := hide ((unhide HA3).below hk)
      replace HA4 := hide ((unhide HA4).below hk)
      replace HA6 := hide ((unhide HA6).below hk)
      replace HA7 := hide ((unhide HA7).below hk)
      replace HA8 := hide ((unhide HA8).below hk)
      replace HA9 := hide ((unhide HA9).below hk)
      replace HA10 := hide ((unhide HA10).below hk)
      replace HT := hide ((unhide HT).trans (hk.mono (unhide HT).size))
      obtain ⟨g11, hA, hge⟩ := hF.arg hrb
      obtain ⟨⟨ao11, c11, rfl, h1, h2, h3, h4⟩, _⟩ := hA
      have HA11 : Hid (Arg w11 (.slice ao11 n c11) g11 (R)) := ⟨⟨ao11, c11, by rw [(unhide HRL)], h1, h2, h3, h4⟩, hrb⟩
      rw [show (R).length = n from (unhide HRL)]
      clear h1 h2 h3 h4 hF hge
      go_wp2_with fail
      refine hK.out _ _ hk (fun hHeld => ?_)
      clear hK K HH hHeld
      (try simp only [Act.put, List.setIfInBounds_toArray, List.set_cons_zero, List.set_cons_succ])
      refine stronger (S' := fun W => Below w11.heap.size w11 W) (fun W h => hk.trans (h.mono hk.size)) _ _ _ _ ?_
      have HH : Hid (Below w11.heap.size w11 w11) := Below.refl _ _
      clear hk
      refine takeL (i := 29) (v := ?_) rfl (by kernel_rfl) (by kernel_rfl) (by kernel_rfl) (fun _ _ _ h => h) (Or.inl ⟨by rfl, ?_⟩) (unhide HH) ?_
      rotate_left 1
      · intro W1 hSW; have hcv := conv_arg ((unhide HA11).below hSW); clear hSW; go_simp; all_goals (with_reducible rfl)
      (try simp only [Act.put, List.setIfInBounds_toArray, List.set_cons_zero, List.set_cons_succ])
      refine takeL (i := 30) (v := ?_) rfl (by kernel_rfl) (by kernel_rfl) (by kernel_rfl) (fun _ _ _ h => h) (Or.inl ⟨by rfl, ?_⟩) (unhide HH) ?_
      rotate_left 1
      · intro W hSW; go_simp; all_goals (with_reducible rfl)
      (try simp only [Act.put, List.setIfInBounds_toArray, List.set_cons_zero, List.set_cons_succ])
      refine takeL (i := 31) (v := ?_) rfl (by kernel_rfl) (by kernel_rfl) (by kernel_rfl) (fun _ _ _ h => h) (Or.inl ⟨by rfl, ?_⟩) (unhide HH) ?_
      rotate_left 1
      · intro W hSW; go_simp; all_goals (with_reducible rfl)
      (try simp only [Act.put, List.setIfInBounds_toArray, List.set_cons_zero, List.set_cons_succ])
      refine takeL (i := 32) (v := ?_) rfl (by kernel_rfl) (by kernel_rfl) (by kernel_rfl) (fun _ _ _ h => h) (Or.inl ⟨by rfl, ?_⟩) (unhide HH) ?_
      rotate_left 1
      · intro W hSW; go_simp; all_goals (with_reducible rfl)
      (try simp only [Act.put, List.setIfInBounds_toArray, List.set_cons_zero, List.set_cons_succ])
      refine wpAnyH_done (by kernel_rfl) ?_ _
      refine NoPanic.normal ?_
      go_wp2
      go_ret
      exact ⟨rfl, unhide HT⟩
    focus
      go_simp
      have hk : Below w8.heap.size w8 (w8.alloc (.cells #[.int .u8 (o : Int)] 5)) := (Below.refl _ _).alloc (Nat.le_refl _) _
      have hA := unhide HONEo w8
      generalize w8.alloc (.cells #[.int .u8 (o : Int)] 5) = w9 at hk hA ⊢
      replace HX := hide ((unhide HX).below hk)
      replace HY := hide ((unhide HY).below hk)
      replace HA3 := hide ((unhide HA3).below hk)
      replace HA4 := hide ((unhide HA4).below hk)
      replace HA6 := hide ((unhide HA6).below hk)
      replace HA7 := hide ((unhide HA7).below hk)
      replace HA8 := hide ((unhide HA8).below hk)
      replace HT := hide ((unhide HT).trans (hk.mono (unhide HT).size))
      have HA9 := hide hA
      clear hA
      refine hK.out _ _ hk (fun hHeld => ?_)
      clear hK K HH hHeld
      (try simp only [Act.put, List.setIfInBounds_toArray, List.set_cons_zero, List.set_cons_succ])
      refine stronger (S' := fun W => Below w9.heap.size w9 W) (fun W h => hk.trans (h.mono hk.size)) _ _ _ _ ?_
      have HH : Hid (Below w9.heap.size w9 w9) := Below.refl _ _
      clear hk
      refine wpAnyH_ready (rs := [20]) (by kernel_rfl) (by simp) ?_
      refine consL rfl (fun K hK => ?_) AllReadyH.nil
      go_simp
      refine (mix_any _ _ _ _ _ _ (M) (Y) ([d]) _ (unhide HA4) (unhide HY) (unhide HA8) (fun _ => by rw [unhide HML]; omega)).mono ?_
      rintro e w10 ⟨v10, rfl, hF, hk⟩
      rw [unhide HS2] at hF
      replace HX := hide ((unhide HX).below hk)
      replace HY := hide ((unhide HY).below hk)
      replace HA3 := hide ((unhide HA3).below hk)
      replace HA4 := hide ((unhide HA4).below hk)
      replace HA6 := hide ((unhide HA6).below hk)
      replace HA7 := hide ((unhide HA7).below hk)
      replace HA8 := hide ((unhide HA8).below hk)
      replace HA9 := hide ((unhide HA9).below hk)
      replace HT := hide ((unhide HT).trans (hk.mono (unhide HT).size))
      obtain ⟨g10, hA, hge⟩ := hF.arg hrb
      obtain ⟨⟨ao10, c10, rfl, h1, h2, h3, h4⟩, _⟩ := hA
      have HA10 : Hid (Arg w10 (.slice ao10 n c10) g10 (R)) := ⟨⟨ao10, c10, by rw [(unhide HRL)], h1, h2, h3, h4⟩, hrb⟩
      rw [show (R).length = n from (unhide HRL)]
      clear h1 h2 h3 h4 hF hge
      go_wp2_with fail
      refine hK.out _ _ hk (fun hHeld => ?_)
      clear hK K HH hHeld
      (try simp only [Act.put, List.setIfInBounds_toArray, List.set_cons_zero, List.set_cons_succ])
      refine stronger (S' := fun W => Below w10.heap.size w10 W) (fun W h => hk.trans (h.mono hk.size)) _ _ _ _ ?_
      have HH : Hid (Below w10.heap.size w10 w10) := Below.refl _ _
      clear hk
      refine takeL (i := 21) (v := ?_) rfl (by kernel_rfl) (by kernel_rfl) (by kernel_rfl) (fun _ _ _ h => h) (Or.inl ⟨by rfl, ?_⟩) (unhide HH) ?_
      rotate_left 1
      · intro W1 hSW; have hcv := conv_arg ((unhide HA10).below hSW); clear hSW; go_simp; all_goals (with_reducible rfl)
      (try simp only [Act.put, List.setIfInBounds_toArray, List.set_cons_zero, List.set_cons_succ])
      refine wpAnyH_ready (rs := [28]) (by kernel_rfl) (by simp) ?_
      refine consL rfl (fun K hK => ?_) AllReadyH.nil
      go_simp
      refine (mix_any _ _ _ _ _ _ (X) (Y) ([o]) _ (unhide HX) (unhide HY) (unhide HA9) (fun _ => by rw [unhide HXL]; omega)).mono ?_
      rintro e w11 ⟨v11, rfl, hF, hk⟩
      rw [unhide HRR] at hF
      replace HX := hide ((unhide HX).below hk)
      replace HY := hide ((unhide HY).below hk)
      replace HA3 := hide ((unhide HA3).below hk)
      replace HA4 := hide ((unhide HA4).below hk)
      replace HA6 := hide ((unhide HA6).below hk)
      replace HA7 := hide ((unhide HA7).below hk)
      replace HA8 := hide ((unhide HA8).below hk)
      replace HA9 := hide ((unhide HA9).below hk)
      replace HA10 := hide ((unhide HA10).below hk)
      replace HT := hide ((unhide HT).trans (hk.mono (unhide HT).size))
      obtain ⟨g11, hA, hge⟩ := hF.arg hrb
      obtain ⟨⟨ao11, c11, rfl, h1, h2, h3, h4⟩, _⟩ := hA
      have HA11 : Hid (Arg w11 (.slice ao11 n c11) g11 (R)) := ⟨⟨ao11, c11, by rw [(unhide HRL)], h1, h2, h3, h4⟩, hrb⟩
      rw [show (R).length = n from (unhide HRL)]
      clear h1 h2 h3 h4 hF hge
      go_wp2_with fail
      refine hK.out _ _ hk (fun hHeld => ?_)
      clear hK K HH hHeld
      (try simp only [Act.put, List.setIfInBounds_toArray, List.set_cons_zero, List.set_cons_succ])
      refine stronger (S' := fun W => Below w11.heap.size w11 W) (fun W h => hk.trans (h.mono hk.size)) _ _ _ _ ?_
      have HH : Hid (Below w11.heap.size w11 w11) := Below.refl _ _
      clear hk
      refine takeL (i := 29) (v := ?_) rfl (by kernel_rfl) (by kernel_rfl) (by kernel_rfl) (fun _ _ _ h => h) (Or.inl ⟨by rfl, ?_⟩) (unhide HH) ?_
      rotate_left 1
      · intro W1 hSW; have hcv := conv_arg ((unhide HA11).below hSW); clear hSW; go_simp; all_goals (with_reducible rfl)
      (try simp only [Act.put, List.setIfInBounds_toArray, List.set_cons_zero, List.set_cons_succ])
      refine takeL (i := 30) (v := ?_) rfl (by kernel_rfl) (by kernel_rfl) (by kernel_rfl) (fun _ _ _ h => h) (Or.inl ⟨by rfl, ?_⟩) (unhide HH) ?_
      rotate_left 1
      · intro W hSW; go_simp; all_goals (with_reducible rfl)
      (try simp only [Act.put, List.setIfInBounds_toArray, List.set_cons_zero, List.set_cons_succ])
      refine takeL (i := 31) (v := ?_) rfl (by kernel_rfl) (by kernel_rfl) (by kernel_rfl) (fun _ _ _ h => h) (Or.inl ⟨by rfl, ?_⟩) (unhide HH) ?_
      rotate_left 1
      · intro W hSW; go_simp; all_goals (with_reducible rfl)
      (try simp only [Act.put, List.setIfInBounds_toArray, List.set_cons_zero, List.set_cons_succ])
      refine takeL (i := 32) (v := ?_) rfl (by kernel_rfl) (by kernel_rfl) (by kernel_rfl) (fun _ _ _ h => h) (Or.inl ⟨by rfl, ?_⟩) (unhide HH) ?_
      rotate_left 1
      · intro W hSW; go_simp; all_goals (with_reducible rfl)
      (try simp only [Act.put, List.setIfInBounds_toArray, List.set_cons_zero, List.set_cons_succ])
      refine wpAnyH_done (by kernel_rfl) ?_ _
      refine NoPanic.normal ?_
      go_wp2
      go_ret
      exact ⟨rfl, unhide HT⟩
  focus
    go_simp
    have hk : Below w7.heap.size w7 (w7.alloc (.cells #[.int .u8 (o : Int)] 5)) := (Below.refl _ _).alloc (Nat.le_refl _) _
    have hA := unhide HONEo w7
    generalize w7.alloc (.cells #[.int .u8 (o : Int)] 5) = w8 at hk hA ⊢
    replace HX := hide ((unhide HX).below hk)
    replace HY := hide ((unhide HY).below hk)
    replace HA3 := hide ((unhide HA3).below hk)
    replace HA4 := hide ((unhide HA4).below hk)
    replace HA6 := hide ((unhide HA6).below hk)
    replace HA7 := hide ((unhide HA7).below hk)
    replace HT := hide ((unhide HT).trans (hk.mono (unhide HT).size))
    have HA8 := hide hA
    clear hA
    refine hK.out _ _ hk (fun hHeld => ?_)
    clear hK K HH hHeld
    (try simp only [Act.put, List.setIfInBounds_toArray, List.set_cons_zero, List.set_cons_succ])
    refine stronger (S' := fun W => Below w8.heap.size w8 W) (fun W h => hk.trans (h.mono hk.size)) _ _ _ _ ?_
    have HH : Hid (Below w8.heap.size w8 w8) := Below.refl _ _
    clear hk
    refine wpAnyH_ready (rs := [19]) (by kernel_rfl) (by simp) ?_
    refine consL rfl (fun K hK => ?_) AllReadyH.nil
    go_simp
    have hk : Below w8.heap.size w8 (w8.alloc (.cells #[.int .u8 (d : Int)] 5)) := (Below.refl _ _).alloc (Nat.le_refl _) _
    have hA := unhide HONEd w8
    generalize w8.alloc (.cells #[.int .u8 (d : Int)] 5) = w9 at hk hA ⊢
    replace HX := hide ((unhide HX).below hk)
    replace HY := hide ((unhide HY).below hk)
    replace HA3 := hide ((unhide HA3).below hk)
    replace HA4 := hide ((unhide HA4).below hk)
    replace HA6 := hide ((unhide HA6).below hk)
    replace HA7 := hide ((unhide HA7).below hk)
    replace HA8 := hide ((unhide HA8).below hk)
    replace HT := hide ((unhide HT).trans (hk.mono (unhide HT).size))
    have HA9 := hide hA
    clear hA
    refine hK.out _ _ hk (fun hHeld => ?_)
    clear hK K HH hHeld
    (try simp only [Act.put, List.setIfInBounds_toArray, List.set_cons_zero, List.set_cons_succ])
    refine stronger (S' := fun W => Below w9.heap.size w9 W) (fun W h => hk.trans (h.mono hk.size)) _ _ _ _ ?_
    have HH : Hid (Below w9.heap.size w9 w9) := Below.refl _ _
    clear hk
    refine wpAnyH_ready (rs := [20]) (by kernel_rfl) (by simp) ?_
    refine consL rfl (fun K hK => ?_) AllReadyH.nil
    go_simp
    refine (mix_any _ _ _ _ _ _ (M) (Y) ([d]) _ (unhide HA4) (unhide HY) (unhide HA9) (fun _ => by rw [unhide HML]; omega)).mono ?_
    rintro e w10 ⟨v10, rfl, hF, hk⟩
    rw [unhide HS2] at hF
    replace HX := hide ((unhide HX).below hk)
    replace HY := hide ((unhide HY).below hk)
    replace HA3 := hide ((unhide HA3).below hk)
    replace HA4 := hide ((unhide HA4).below hk)
    replace HA6 := hide ((unhide HA6).below hk)
    replace HA7 := hide ((unhide HA7).below hk)
    replace HA8 := hide ((unhide HA8).below hk)
    replace HA9 := hide ((unhide HA9).below hk)
    replace HT := hide ((unhide HT).trans (hk.mono (unhide HT).size))
    obtain ⟨g10, hA, hge⟩ := hF.arg hrb
    obtain ⟨⟨ao10, c10, rfl, h1, h2, h3, h4⟩, _⟩ := hA
    have HA10 : Hid (Arg w10 (.slice ao10 n c10) g10 (R)) := ⟨⟨ao10, c10, by rw [(unhide HRL)], h1, h2, h3, h4⟩, hrb⟩
    rw [show (R).length = n from (unhide HRL)]
    clear h1 h2 h3 h4 hF hge
    go_wp2_with fail
    refine hK.out _ _ hk (fun hHeld => ?_)
    clear hK K HH hHeld
    (try simp only [Act.put, List.setIfInBounds_toArray, List.set_cons_zero, List.set_cons_succ])
    refine stronger (S' := fun W => Below w10.heap.size w10 W) (fun W h => hk.trans (h.mono hk.size)) _ _ _ _ ?_
    have HH : Hid (Below w10.heap.size w10 w10) := Below.refl _ _
    clear hk
    refine takeL (i := 21) (v := ?_) rfl (by kernel_rfl) (by kernel_rfl) (by kernel_rfl) (fun _ _ _ h => h) (Or.inl ⟨by rfl, ?_⟩) (unhide HH) ?_
    rotate_left 1
    · intro W1 hSW; have hcv := conv_arg ((unhide HA10).below hSW); clear hSW; go_simp; all_goals (with_reducible rfl)
    (try simp only [Act.put, List.setIfInBounds_toArray, List.set_cons_zero, List.set_cons_succ])
    refine wpAnyH_ready (rs := [28]) (by kernel_rfl) (by simp) ?_
    refine consL rfl (fun K hK => ?_) AllReadyH.nil
    go_simp
    refine (mix_any _ _ _ _ _ _ (X) (Y) ([o]) _ (unhide HX) (unhide HY) (unhide HA8) (fun _ => by rw [unhide HXL]; omega)).mono ?_
    rintro e w11 ⟨v11, rfl, hF, hk⟩
    rw [unhide HRR] at hF
    replace HX := hide ((unhide HX).below hk)
    replace HY := hide ((unhide HY).below hk)
    replace HA3 := hide ((unhide HA3).below hk)
    replace HA4 := hide ((unhide HA4).below hk)
    replace HA6 := hide ((unhide HA6).below hk)
    replace HA7 := hide ((unhide HA7).below hk)
    replace HA8 := hide ((unhide HA8).below hk)
    replace HA9 := hide ((unhide HA9).below hk)
    replace HA10 := hide ((unhide HA10).below hk)
    replace HT := hide ((unhide HT).trans (hk.mono (unhide HT).size))
    obtain ⟨g11, hA, hge⟩ := hF.arg hrb
    obtain ⟨⟨ao11, c11, rfl, h1, h2, h3, h4⟩, _⟩ := hA
    have HA11 : Hid (Arg w11 (.slice ao11 n c11) g11 (R)) := ⟨⟨ao11, c11, by rw [(unhide HRL)], h1, h2, h3, h4⟩, hrb⟩
    rw [show (R).length = n from (unhide HRL)]
    clear h1 h2 h3 h4 hF hge
    go_wp2_with fail
    refine hK.out _ _ hk (fun hHeld => ?_)
    clear hK K HH hHeld
    (try simp only [Act.put, List.setIfInBounds_toArray, List.set_cons_zero, List.set_cons_succ])
    refine stronger (S' := fun W => Below w11.heap.size w11 W) (fun W h => hk.trans (h.mono hk.size)) _ _ _ _ ?_
    have HH : Hid (Below w11.heap.size w11 w11) := Below.refl _ _
    clear hk
    refine takeL (i := 29) (v := ?_) rfl (by kernel_rfl) (by kernel_rfl) (by kernel_rfl) (fun _ _ _ h => h) (Or.inl ⟨by rfl, ?_⟩) (unhide HH) ?_
    rotate_left 1
    · intro W1 hSW; have hcv := conv_arg ((unhide HA11).below hSW); clear hSW; go_simp; all_goals (with_reducible rfl)
    (try simp only [Act.put, List.setIfInBounds_toArray, List.set_cons_zero, List.set_cons_succ])
    refine takeL (i := 30) (v := ?_) rfl (by kernel_rfl) (by kernel_rfl) (by kernel_rfl) (fun _ _ _ h => h) (Or.inl ⟨by rfl, ?_⟩) (unhide HH) ?_
    rotate_left 1
    · intro W hSW; go_simp; all_goals (with_reducible rfl)
    (try simp only [Act.put, List.setIfInBounds_toArray, List.set_cons_zero, List.set_cons_succ])
    refine takeL (i := 31) (v := ?_) rfl (by kernel_rfl) (by kernel_rfl) (by kernel_rfl) (fun _ _ _ h => h) (Or.inl ⟨by rfl, ?_⟩) (unhide HH) ?_
    rotate_left 1
    · intro W hSW; go_simp; all_goals (with_reducible rfl)
    (try simp only [Act.put, List.setIfInBounds_toArray, List.set_cons_zero, List.set_cons_succ])
    refine takeL (i := 32) (v := ?_) rfl (by kernel_rfl) (by kernel_rfl) (by kernel_rfl) (fun _ _ _ h => h) (Or.inl ⟨by rfl, ?_⟩) (unhide HH) ?_
    rotate_left 1
    · intro W hSW; go_simp; all_goals (with_reducible rfl)
    (try simp only [Act.put, List.setIfInBounds_toArray, List.set_cons_zero, List.set_cons_succ])
    refine wpAnyH_done (by kernel_rfl) ?_ _
    refine NoPanic.normal ?_
    go_wp2
    go_ret
    exact ⟨rfl, unhide HT⟩

end Go.Proofs.Ytoljplfijopcmab
