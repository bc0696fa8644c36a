/-
  The walk of PageMarker.
-/
import Derived.Test.YtkhpoomajebgoaaMaz
import Derived.Test.YtkhpoomajebgoaaMay
import Derived.Test.YtkhpoomajebgoaaMai
import Derived.Test.YtkhpoomajebgoaaMba
namespace Go.Proofs.Ytkhpoomajebgoaa
open Go.RowKit Go.Shelf

set_option maxRecDepth 100000 in
set_option maxHeartbeats 8000000 in
theorem marker_walk (va vm : Value) (ga gm : Nat) (b mk : List Nat) (w : World) (hA : Arg w va ga b) (hM : Arg w vm gm mk) :
    Calls Try.prog 7 #[va, vm] w fun x w' => x = .returned (.bool true) ∧ Below w.heap.size w w' := by
  have HA := hide hA
  have HM := hide hM
  obtain ⟨⟨ao, c, rfl, _⟩, _⟩ := hA
  obtain ⟨⟨mo, cm, rfl, _⟩, _⟩ := hM
  have HZ4 := hide (fun W : World => zeros_arg 4 (by omega) W)
  have hmk4 : ∀ w : World, (Instr.makeSlice 22 (.int .i64 4) (.int .i64 4)).run Try.prog w = .ok (.slice (some ⟨w.heap.size, 0, none⟩) 4 4) (w.alloc (.cells (List.replicate 4 (Value.int .u8 0)).toArray 5)) := run_zeros 4 (by omega)
  obtain ⟨z4, hz4⟩ : ∃ z, (List.replicate 4 (Value.int .u8 0)).toArray = z := ⟨_, rfl⟩
  rw [hz4] at HZ4
  simp only [hz4] at hmk4
  clear hz4
  go_enter Try.func7, Try.ntmps7
  go_wp2_with fail
  refine (known8_any _).mono ?_
  rintro e w1 ⟨rfl, hk⟩
  replace HA := hide ((unhide HA).below hk)
  replace HM := hide ((unhide HM).below hk)
  have HT := hide hk
  clear hk
  go_wp2_with fail
  refine (data_det _ _ b 48 (by omega) _ (unhide HA)).mono ?_
  rintro e w2 ⟨v2, rfl, hF, hk⟩
  replace HA := hide ((unhide HA).below hk)
  replace HM := hide ((unhide HM).below hk)
  replace HT := hide ((unhide HT).trans (hk.mono (unhide HT).size))
  have hld := dataF_len b 48
  have hbd := dataF_bs b 48
  obtain ⟨d, hd⟩ : ∃ d, dataF b 48 = d := ⟨_, rfl⟩
  rw [hd] at hF hld hbd
  obtain ⟨g2, hD, _⟩ := hF.arg hbd
  have HD := hide hD
  obtain ⟨to, tc, hv⟩ := Fr.shape hF
  rw [hld] at hv
  subst hv
  have HDD := hide hd
  clear hF hk hD hd
  go_wp2_with fail
  refine (pencode_any _ g2 d _ (unhide HD) hld).mono ?_
  rintro e w3 ⟨v3, rfl, hF, hk⟩
  replace HA := hide ((unhide HA).below hk)
  replace HM := hide ((unhide HM).below hk)
  replace HT := hide ((unhide HT).trans (hk.mono (unhide HT).size))
  have hpl := pageF_len hld
  obtain ⟨g3, ec, hv, h31, h32, h33, h34⟩ := hF.blk (by intro e; rw [e] at hpl; simp at hpl)
  have hE := h33.arg (c := ec) (pageF_bs hbd) h31 h32
  rw [hpl] at hv hE h31
  subst hv
  have HE4 : Hid (Arg w3 (.slice (some ⟨g3, 0, none⟩) 4 ec) g3 (List.replicate 4 0)) := by
    have h := hE.front (m := 4) (by omega)
    rwa [show (pageF d).take 4 = List.replicate 4 0 from by rw [pageF, List.take_left' (by simp)]] at h
  obtain ⟨P, hP⟩ : ∃ P, encF (d.take 24) ++ encF (d.drop 24) = P := ⟨_, rfl⟩
  have hPl : P.length = 56 := by rw [← hP, List.length_append, encF_len (by rw [List.length_take, hld]; rfl), encF_len (by rw [List.length_drop, hld])]
  have hPb : Bs P := by rw [← hP]; exact bs_append (encF_bs (bs_take hbd _)) (encF_bs (bs_drop hbd _))
  have HEP : Hid (Arg w3 (.slice (some ⟨g3, 4, none⟩) 56 (ec - 4)) g3 P) := by
    have h := hE.rest (k := 4) (by omega)
    rwa [show (pageF d).drop 4 = P from by rw [pageF, List.drop_left' (by simp), hP], Nat.zero_add] at h
  have HPP := hide hP
  have HPL := hide hPl
  have hec : (4 : Int) ≤ (ec : Int) := by omega
  have hec2 : (60 : Int) ≤ (ec : Int) := by omega
  have hec3 : ¬ ec = 4 := by omega
  clear hF hk HD h31 h32 h33 h34 hE hpl hP hPl
  go_wp2_with fail
  replace HT := hide ((unhide HT).drew)
  replace HA := hide ((unhide HA).below (Below.refl _ _).drew)
  replace HM := hide ((unhide HM).below (Below.refl _ _).drew)
  replace HE4 := hide ((unhide HE4).below (Below.refl _ _).drew)
  replace HEP := hide ((unhide HEP).below (Below.refl _ _).drew)
  refine wp_region_noPanic ?_
  refine wp_region_held_drew (S := fun W => Below w3.drew.heap.size w3.drew W) (by kernel_rfl) (Below.refl _ _) (fun hHeld => ?_)
  have HH := hide hHeld
  clear hHeld
  generalize w3.drew = w4 at HT HA HM HE4 HEP HH ⊢
  refine takeL (i := 0) (v := ?_) rfl (by kernel_rfl) (by kernel_rfl) (by kernel_rfl) (fun _ _ _ h => h) (Or.inl ⟨by rfl, ?_⟩) (unhide HH) ?_
  rotate_left 1
  · intro W hSW; go_simp; all_goals (with_reducible rfl)
  (try simp only [Act.put, List.setIfInBounds_toArray, List.set_cons_zero, List.set_cons_succ])
  refine takeL (i := 1) (v := ?_) rfl (by kernel_rfl) (by kernel_rfl) (by kernel_rfl) (fun _ _ _ h => h) (Or.inl ⟨by rfl, ?_⟩) (unhide HH) ?_
  rotate_left 1
  · intro W hSW; go_simp; all_goals (with_reducible rfl)
  (try simp only [Act.put, List.setIfInBounds_toArray, List.set_cons_zero, List.set_cons_succ])
  refine takeL (i := 2) (v := ?_) rfl (by kernel_rfl) (by kernel_rfl) (by kernel_rfl) (fun _ _ _ h => h) (Or.inl ⟨by rfl, ?_⟩) (unhide HH) ?_
  rotate_left 1
  · intro W hSW; go_simp; all_goals (with_reducible rfl)
  (try simp only [Act.put, List.setIfInBounds_toArray, List.set_cons_zero, List.set_cons_succ])
  refine takeL (i := 3) (v := ?_) rfl (by kernel_rfl) (by kernel_rfl) (by kernel_rfl) (fun _ _ _ h => h) (Or.inl ⟨by rfl, ?_⟩) (unhide HH) ?_
  rotate_left 1
  · intro W hSW; go_simp; all_goals (with_reducible rfl)
  (try simp only [Act.put, List.setIfInBounds_toArray, List.set_cons_zero, List.set_cons_succ])
  refine takeL (i := 4) (v := ?_) rfl (by kernel_rfl) (by kernel_rfl) (by kernel_rfl) (fun _ _ _ h => h) (Or.inl ⟨by rfl, ?_⟩) (unhide HH) ?_
  rotate_left 1
  · intro W hSW; go_simp; all_goals (with_reducible rfl)
  (try simp only [Act.put, List.setIfInBounds_toArray, List.set_cons_zero, List.set_cons_succ])
  refine takeL (i := 5) (v := ?_) rfl (by kernel_rfl) (by kernel_rfl) (by kernel_rfl) (fun _ _ _ h => h) (Or.inl ⟨by rfl, ?_⟩) (unhide HH) ?_
  rotate_left 1
  · intro W hSW; go_simp; all_goals (with_reducible rfl)
  (try simp only [Act.put, List.setIfInBounds_toArray, List.set_cons_zero, List.set_cons_succ])
  refine takeL (i := 6) (v := ?_) rfl (by kernel_rfl) (by kernel_rfl) (by kernel_rfl) (fun _ _ _ h => h) (Or.inl ⟨by rfl, ?_⟩) (unhide HH) ?_
  rotate_left 1
  · intro W1 hSW; have hcv := conv_arg ((unhide HE4).below hSW); clear hSW; go_simp; all_goals (with_reducible rfl)
  (try simp only [Act.put, List.setIfInBounds_toArray, List.set_cons_zero, List.set_cons_succ])
  refine wpAnyH_ready (rs := [7]) (by kernel_rfl) (by simp) ?_
  refine consL rfl (fun K hK => ?_) AllReadyH.nil
  go_simp
  have hk : Below w4.heap.size w4 (w4.alloc (.cells z4 5)) := (Below.refl _ _).alloc (Nat.le_refl _) _
  have hA := unhide HZ4 w4
  generalize w4.alloc (.cells z4 5) = w5 at hk hA  ⊢
  replace HA := hide ((unhide HA).below hk)
  replace HM := hide ((unhide HM).below hk)
  replace HE4 := hide ((unhide HE4).below hk)
  replace HEP := hide ((unhide HEP).below hk)
  replace HT := hide ((unhide HT).trans (hk.mono (unhide HT).size))
  have HA5 := hide hA
  clear hA
  refine hK.out _ _ hk (fun hHeld => ?_)
  clear hK K HH hHeld
  (try simp only [Act.put, List.setIfInBounds_toArray, List.set_cons_zero, List.set_cons_succ])
  refine stronger (S' := fun W => Below w5.heap.size w5 W) (fun W h => hk.trans (h.mono hk.size)) _ _ _ _ ?_
  have HH : Hid (Below w5.heap.size w5 w5) := Below.refl _ _
  clear hk
  refine takeL (i := 8) (v := ?_) rfl (by kernel_rfl) (by kernel_rfl) (by kernel_rfl) (fun _ _ _ h => h) (Or.inl ⟨by rfl, ?_⟩) (unhide HH) ?_
  rotate_left 1
  · intro W1 hSW; have hcv := conv_arg ((unhide HA5).below hSW); clear hSW; go_simp; all_goals (with_reducible rfl)
  (try simp only [Act.put, List.setIfInBounds_toArray, List.set_cons_zero, List.set_cons_succ])
  refine takeL (i := 9) (v := ?_) rfl (by kernel_rfl) (by kernel_rfl) (by kernel_rfl) (fun _ _ _ h => h) (Or.inl ⟨by rfl, ?_⟩) (unhide HH) ?_
  rotate_left 1
  · intro W hSW; go_simp; all_goals (with_reducible rfl)
  (try simp only [Act.put, List.setIfInBounds_toArray, List.set_cons_zero, List.set_cons_succ])
  refine takeL (i := 10) (v := ?_) rfl (by kernel_rfl) (by kernel_rfl) (by kernel_rfl) (fun _ _ _ h => h) (Or.inl ⟨by rfl, ?_⟩) (unhide HH) ?_
  rotate_left 1
  · intro W hSW; go_simp; all_goals (with_reducible rfl)
  (try simp only [Act.put, List.setIfInBounds_toArray, List.set_cons_zero, List.set_cons_succ])
  refine wpAnyH_done (by kernel_rfl) ?_ _
  refine NoPanic.normal ?_
  go_wp2_with fail
  refine (data_det _ _ mk 4 (by omega) _ (unhide HM)).mono ?_
  rintro e w6 ⟨v6, rfl, hF, hk⟩
  replace HA := hide ((unhide HA).below hk)
  replace HM := hide ((unhide HM).below hk)
  replace HE4 := hide ((unhide HE4).below hk)
  replace HEP := hide ((unhide HEP).below hk)
  replace HA5 := hide ((unhide HA5).below hk)
  replace HT := hide ((unhide HT).trans (hk.mono (unhide HT).size))
  have hlm := dataF_len mk 4
  have hbm := dataF_bs mk 4
  obtain ⟨m, hm⟩ : ∃ m, dataF mk 4 = m := ⟨_, rfl⟩
  rw [hm] at hF hlm hbm
  obtain ⟨gm4, cm4, hv, h41, h42, h43, h44⟩ := hF.blk (by intro e; rw [e] at hlm; simp at hlm)
  have hM4 := h43.arg (c := cm4) hbm h41 h42
  rw [hlm] at hv hM4
  subst hv
  have HM4 := hide hM4
  have HLM := hide hlm
  clear hF hk hM4 h41 h42 h43 h44 hm hlm
  go_wp2_with fail
  replace HT := hide ((unhide HT).drew)
  replace HA := hide ((unhide HA).below (Below.refl _ _).drew)
  replace HM := hide ((unhide HM).below (Below.refl _ _).drew)
  replace HE4 := hide ((unhide HE4).below (Below.refl _ _).drew)
  replace HEP := hide ((unhide HEP).below (Below.refl _ _).drew)
  replace HA5 := hide ((unhide HA5).below (Below.refl _ _).drew)
  replace HM4 := hide ((unhide HM4).below (Below.refl _ _).drew)
  refine wp_region_noPanic ?_
  refine wp_region_held_drew (S := fun W => Below w6.drew.heap.size w6.drew W) (by kernel_rfl) (Below.refl _ _) (fun hHeld => ?_)
  have HH := hide hHeld
  clear hHeld
  generalize w6.drew = w7 at HT HA HM HE4 HEP HA5 HM4 HH ⊢
  refine takeL (i := 1) (v := ?_) rfl (by kernel_rfl) (by kernel_rfl) (by kernel_rfl) (fun _ _ _ h => h) (Or.inl ⟨by rfl, ?_⟩) (unhide HH) ?_
  rotate_left 1
  · intro W hSW; go_simp; all_goals (with_reducible rfl)
  (try simp only [Act.put, List.setIfInBounds_toArray, List.set_cons_zero, List.set_cons_succ])
  refine takeL (i := 3) (v := ?_) rfl (by kernel_rfl) (by kernel_rfl) (by kernel_rfl) (fun _ _ _ h => h) (Or.inl ⟨by rfl, ?_⟩) (unhide HH) ?_
  rotate_left 1
  · intro W hSW; go_simp; all_goals (with_reducible rfl)
  (try simp only [Act.put, List.setIfInBounds_toArray, List.set_cons_zero, List.set_cons_succ])
  refine takeL (i := 4) (v := ?_) rfl (by kernel_rfl) (by kernel_rfl) (by kernel_rfl) (fun _ _ _ h => h) (Or.inl ⟨by rfl, ?_⟩) (unhide HH) ?_
  rotate_left 1
  · intro W hSW; go_simp; all_goals (with_reducible rfl)
  (try simp only [Act.put, List.setIfInBounds_toArray, List.set_cons_zero, List.set_cons_succ])
  refine wpAnyH_ready (rs := [0]) (by kernel_rfl) (by simp) ?_
  refine consL rfl (fun K hK => ?_) AllReadyH.nil
  go_simp
  have hk : Below w7.heap.size w7 (w7.alloc (.cells #[] 5)) := (Below.refl _ _).alloc (Nat.le_refl _) _
  have hOZ := own_none w7 5
  generalize w7.alloc (.cells #[] 5) = w8 at hk hOZ ⊢
  have HO8 := hide hOZ
  clear hOZ
  refine hK.out _ _ hk (fun hHeld => ?_)
  clear hK K HH hk
  have HH := hide hHeld
  clear hHeld
  (try simp only [Act.put, List.setIfInBounds_toArray, List.set_cons_zero, List.set_cons_succ])
  refine wpAnyH_ready (rs := [2]) (by kernel_rfl) (by simp) ?_
  refine consL rfl (fun K hK => ?_) AllReadyH.nil
  rw [if_pos (by rfl)]
  refine wp_append_b (.tmp 27) (.tmp 28) (by rfl) w7.heap.size _ 0 _ (ints (m)) (by rfl) (unhide HO8) _ _ 4 _ (by rfl) (by rw [ints_len]; exact unhide HLM) (arg_row ((unhide HM4).below (unhide HH))) (fun h => by cases h) (by omega) (unhide HH).size ?_
  intro v9 w9 ho hg
  have ho2 : w9.ownsRow w7.heap.size 5 1 v9 4 ((ints (m)).map (Value.int .u8)) := by simpa using ho
  have hk : Below w7.heap.size w7 w9 := below_grown (unhide HH) hg (unhide HH).size (fun k hk => ((unhide HO8).lt k hk).1)
  obtain ⟨g9, c9, rfl⟩ := ownsRow_succ (k := 3) ho2
  clear ho hg
  have HO9 := hide ho2
  clear ho2
  refine hK.out _ _ hk (fun hHeld => ?_)
  clear hK K HH hk
  have HH := hide hHeld
  clear hHeld
  (try simp only [Act.put, List.setIfInBounds_toArray, List.set_cons_zero, List.set_cons_succ])
  refine wpAnyH_ready (rs := [5]) (by kernel_rfl) (by simp) ?_
  refine consL rfl (fun K hK => ?_) AllReadyH.nil
  rw [if_pos (by rfl)]
  refine wp_append_b (.tmp 29) (.tmp 31) (by rfl) w7.heap.size _ 4 _ (ints (P)) (by rfl) (unhide HO9) _ _ 56 _ (by rfl) (by rw [ints_len]; exact unhide HPL) (arg_row ((unhide HEP).below (unhide HH))) (fun h => by cases h) (by omega) (unhide HH).size ?_
  intro v10 w10 ho hg
  have ho2 : w10.ownsRow w7.heap.size 5 1 v10 60 ((ints ((m : List Nat) ++ P : List Nat)).map (Value.int .u8)) := app_owns (n := 4) (m := 56) ho
  have hk : Below w7.heap.size w7 w10 := below_grown (unhide HH) hg (unhide HH).size (fun k hk => ((unhide HO9).lt k hk).1)
  obtain ⟨g10, c10, rfl⟩ := ownsRow_succ (k := 59) ho2
  clear ho hg
  have hF := (owns_fr ho2).2
  have HA10 : Hid (Arg w10 (.slice (some ⟨g10, 0, none⟩) 60 c10) g10 ((m : List Nat) ++ P : List Nat)) := by
    obtain ⟨q, cq, hv, h1, h2, h3, h4⟩ := hF.blk (by intro e; have h := (show (m ++ P).length = 60 from by rw [List.length_append, unhide HLM, unhide HPL]); rw [e] at h; simp at h)
    rw [(show (m ++ P).length = 60 from by rw [List.length_append, unhide HLM, unhide HPL])] at hv
    cases hv
    have h := h3.arg (c := c10) (bs_append hbm hPb) h1 h2
    rw [(show (m ++ P).length = 60 from by rw [List.length_append, unhide HLM, unhide HPL])] at h
    exact h
  clear ho2 hF
  replace HA := hide ((unhide HA).below hk)
  replace HM := hide ((unhide HM).below hk)
  replace HE4 := hide ((unhide HE4).below hk)
  replace HEP := hide ((unhide HEP).below hk)
  replace HA5 := hide ((unhide HA5).below hk)
  replace HM4 := hide ((unhide HM4).below hk)
  replace HT := hide ((unhide HT).trans (hk.mono (unhide HT).size))
  refine hK.out _ _ hk (fun hHeld => ?_)
  clear hK K HH hHeld
  (try simp only [Act.put, List.setIfInBounds_toArray, List.set_cons_zero, List.set_cons_succ])
  refine stronger (S' := fun W => Below w10.heap.size w10 W) (fun W h => hk.trans (h.mono hk.size)) _ _ _ _ ?_
  have HH : Hid (Below w10.heap.size w10 w10) := Below.refl _ _
  clear hk
  refine takeL (i := 6) (v := ?_) rfl (by kernel_rfl) (by kernel_rfl) (by kernel_rfl) (fun _ _ _ h => h) (Or.inl ⟨by rfl, ?_⟩) (unhide HH) ?_
  rotate_left 1
  · intro W hSW; go_simp; all_goals (with_reducible rfl)
  (try simp only [Act.put, List.setIfInBounds_toArray, List.set_cons_zero, List.set_cons_succ])
  refine wpAnyH_done (by kernel_rfl) ?_ _
  refine NoPanic.normal ?_
  go_wp2_with fail
  refine (pdecode_any _ _ _ _ (unhide HA10)).mono ?_
  rintro e w11 ⟨v11, rfl, hF, hk⟩
  replace HA := hide ((unhide HA).below hk)
  replace HM := hide ((unhide HM).below hk)
  replace HE4 := hide ((unhide HE4).below hk)
  replace HEP := hide ((unhide HEP).below hk)
  replace HA5 := hide ((unhide HA5).below hk)
  replace HM4 := hide ((unhide HM4).below hk)
  replace HA10 := hide ((unhide HA10).below hk)
  replace HT := hide ((unhide HT).trans (hk.mono (unhide HT).size))
  have hD := page_marked (unhide HLM) (unhide HPP) hld hbd
  obtain ⟨st, hst⟩ : ∃ st, pageD (m ++ P) = st := ⟨_, rfl⟩
  rw [hst] at hF hD ⊢
  obtain ⟨qo, qc, hv⟩ := Fr.shape hF
  subst hv
  have hbp : Bs st.2 := by rw [← hst]; exact pageD_bs (bs_append hbm hPb)
  obtain ⟨gp, hAp, _⟩ := hF.arg hbp
  obtain ⟨s1, s2⟩ := st
  dsimp only at hAp hF hbp ⊢
  have HSP := hide hAp
  have HDD2 := hide hD
  clear hF hk hD hst hAp
  have HPG := hide (PgB.new w11 (.int .i64 s1) (.slice qo s2.length qc))
  have hk : Below w11.heap.size w11 (w11.alloc (.cells #[.int .i64 s1, .slice qo s2.length qc] 32)) := (Below.refl _ _).alloc (Nat.le_refl _) _
  replace HA := hide ((unhide HA).below hk)
  replace HM := hide ((unhide HM).below hk)
  replace HE4 := hide ((unhide HE4).below hk)
  replace HEP := hide ((unhide HEP).below hk)
  replace HA5 := hide ((unhide HA5).below hk)
  replace HM4 := hide ((unhide HM4).below hk)
  replace HA10 := hide ((unhide HA10).below hk)
  replace HSP := hide ((unhide HSP).below hk)
  replace HT := hide ((unhide HT).trans (hk.mono (unhide HT).size))
  go_wp2_with fail
  refine (rones_any _ _ m _ (unhide HM4) (by rw [unhide HLM]; omega)).mono ?_
  rw [unhide HLM]
  obtain ⟨on, hon⟩ : ∃ on, (onF (cf m) 4).length = on := ⟨_, rfl⟩
  rw [hon] at HDD2 ⊢
  rintro e w12 ⟨rfl, hwk⟩
  generalize w11.alloc (.cells #[.int .i64 s1, .slice qo s2.length qc] 32) = wa at hwk HT HPG HA HM HE4 HEP HA5 HM4 HA10 HSP ⊢
  subst hwk
  clear hk hon
  by_cases h16 : 16 < on
  · have h16' : (16 : Int) < (on : Int) := by omega
    have hs := (unhide HDD2).1 h16
    cases hs
    have hc0 := PgB.c0 (unhide HPG)
    have hc1 := PgB.c1 (unhide HPG)
    go_wp2
    go_ret
    exact ⟨rfl, unhide HT⟩
  · have h16' : ¬ (16 : Int) < (on : Int) := by omega
    have hs := (unhide HDD2).2 (by omega)
    cases hs
    rw [hld] at HSP
    go_wp2_with fail
    replace HT := hide ((unhide HT).drew)
    replace HA := hide ((unhide HA).below (Below.refl _ _).drew)
    replace HM := hide ((unhide HM).below (Below.refl _ _).drew)
    replace HE4 := hide ((unhide HE4).below (Below.refl _ _).drew)
    replace HEP := hide ((unhide HEP).below (Below.refl _ _).drew)
    replace HA5 := hide ((unhide HA5).below (Below.refl _ _).drew)
    replace HM4 := hide ((unhide HM4).below (Below.refl _ _).drew)
    replace HA10 := hide ((unhide HA10).below (Below.refl _ _).drew)
    replace HSP := hide ((unhide HSP).below (Below.refl _ _).drew)
    replace HPG := hide (PgB.below (unhide HPG) (Below.refl _ _).drew)
    refine wp_region_noPanic ?_
    refine wp_region_held_drew (S := fun W => Below w12.drew.heap.size w12.drew W) (by kernel_rfl) (Below.refl _ _) (fun hHeld => ?_)
    have HH := hide hHeld
    clear hHeld
    generalize w12.drew = w13 at HT HA HM HE4 HEP HA5 HM4 HA10 HSP HPG HH ⊢
    refine takeL (i := 0) (v := ?_) rfl (by kernel_rfl) (by kernel_rfl) (by kernel_rfl) (fun _ _ _ h => h) (Or.inl ⟨by rfl, ?_⟩) (unhide HH) ?_
    rotate_left 1
    · intro W hSW; go_simp; all_goals (with_reducible rfl)
    (try simp only [Act.put, List.setIfInBounds_toArray, List.set_cons_zero, List.set_cons_succ])
    refine takeL (i := 1) (v := ?_) rfl (by kernel_rfl) (by kernel_rfl) (by kernel_rfl) (fun _ _ _ h => h) (Or.inl ⟨by rfl, ?_⟩) (unhide HH) ?_
    rotate_left 1
    · intro W1 hSW; have hc := PgB.c0 (PgB.below (unhide HPG) hSW); clear hSW; go_simp; all_goals (with_reducible rfl)
    (try simp only [Act.put, List.setIfInBounds_toArray, List.set_cons_zero, List.set_cons_succ])
    refine takeL (i := 2) (v := ?_) rfl (by kernel_rfl) (by kernel_rfl) (by kernel_rfl) (fun _ _ _ h => h) (Or.inl ⟨by rfl, ?_⟩) (unhide HH) ?_
    rotate_left 1
    · intro W hSW; go_simp; all_goals (with_reducible rfl)
    (try simp only [Act.put, List.setIfInBounds_toArray, List.set_cons_zero, List.set_cons_succ])
    refine takeL (i := 3) (v := ?_) rfl (by kernel_rfl) (by kernel_rfl) (by kernel_rfl) (fun _ _ _ h => h) (Or.inl ⟨by rfl, ?_⟩) (unhide HH) ?_
    rotate_left 1
    · intro W hSW; go_simp; all_goals (with_reducible rfl)
    (try simp only [Act.put, List.setIfInBounds_toArray, List.set_cons_zero, List.set_cons_succ])
    refine takeL (i := 4) (v := ?_) rfl (by kernel_rfl) (by kernel_rfl) (by kernel_rfl) (fun _ _ _ h => h) (Or.inl ⟨by rfl, ?_⟩) (unhide HH) ?_
    rotate_left 1
    · intro W hSW; go_simp; all_goals (with_reducible rfl)
    (try simp only [Act.put, List.setIfInBounds_toArray, List.set_cons_zero, List.set_cons_succ])
    refine takeL (i := 5) (v := ?_) rfl (by kernel_rfl) (by kernel_rfl) (by kernel_rfl) (fun _ _ _ h => h) (Or.inl ⟨by rfl, ?_⟩) (unhide HH) ?_
    rotate_left 1
    · intro W1 hSW; have hc := PgB.c1 (PgB.below (unhide HPG) hSW); clear hSW; go_simp; all_goals (with_reducible rfl)
    (try simp only [Act.put, List.setIfInBounds_toArray, List.set_cons_zero, List.set_cons_succ])
    refine takeL (i := 6) (v := ?_) rfl (by kernel_rfl) (by kernel_rfl) (by kernel_rfl) (fun _ _ _ h => h) (Or.inl ⟨by rfl, ?_⟩) (unhide HH) ?_
    rotate_left 1
    · intro W1 hSW; have hcv := conv_arg ((unhide HSP).below hSW); clear hSW; go_simp; all_goals (with_reducible rfl)
    (try simp only [Act.put, List.setIfInBounds_toArray, List.set_cons_zero, List.set_cons_succ])
    refine takeL (i := 7) (v := ?_) rfl (by kernel_rfl) (by kernel_rfl) (by kernel_rfl) (fun _ _ _ h => h) (Or.inl ⟨by rfl, ?_⟩) (unhide HH) ?_
    rotate_left 1
    · intro W hSW; go_simp; all_goals (with_reducible rfl)
    (try simp only [Act.put, List.setIfInBounds_toArray, List.set_cons_zero, List.set_cons_succ])
    refine wpAnyH_ready (rs := [8]) (by kernel_rfl) (by simp) ?_
    refine consL rfl (fun K hK => ?_) AllReadyH.nil
    go_simp
    refine (data_det _ _ b 48 (by omega) _ (unhide HA)).mono ?_
    rintro e w14 ⟨v14, rfl, hF, hk⟩
    rw [unhide HDD] at hF
    replace HA := hide ((unhide HA).below hk)
    replace HM := hide ((unhide HM).below hk)
    replace HE4 := hide ((unhide HE4).below hk)
    replace HEP := hide ((unhide HEP).below hk)
    replace HA5 := hide ((unhide HA5).below hk)
    replace HM4 := hide ((unhide HM4).below hk)
    replace HA10 := hide ((unhide HA10).below hk)
    replace HSP := hide ((unhide HSP).below hk)
    replace HPG := hide (PgB.below (unhide HPG) hk)
    replace HT := hide ((unhide HT).trans (hk.mono (unhide HT).size))
    obtain ⟨g14, hA, hge⟩ := hF.arg hbd
    obtain ⟨⟨ao14, c14, rfl, h1, h2, h3, h4⟩, _⟩ := hA
    have HA14 : Hid (Arg w14 (.slice ao14 48 c14) g14 (d)) := ⟨⟨ao14, c14, by rw [hld], h1, h2, h3, h4⟩, hbd⟩
    rw [show (d).length = 48 from hld]
    clear h1 h2 h3 h4 hF hge
    go_wp2_with fail
    refine hK.out _ _ hk (fun hHeld => ?_)
    clear hK K HH hHeld
    (try simp only [Act.put, List.setIfInBounds_toArray, List.set_cons_zero, List.set_cons_succ])
    refine stronger (S' := fun W => Below w14.heap.size w14 W) (fun W h => hk.trans (h.mono hk.size)) _ _ _ _ ?_
    have HH : Hid (Below w14.heap.size w14 w14) := Below.refl _ _
    clear hk
    refine takeL (i := 9) (v := ?_) rfl (by kernel_rfl) (by kernel_rfl) (by kernel_rfl) (fun _ _ _ h => h) (Or.inl ⟨by rfl, ?_⟩) (unhide HH) ?_
    rotate_left 1
    · intro W1 hSW; have hcv := conv_arg ((unhide HA14).below hSW); clear hSW; go_simp; all_goals (with_reducible rfl)
    (try simp only [Act.put, List.setIfInBounds_toArray, List.set_cons_zero, List.set_cons_succ])
    refine takeL (i := 10) (v := ?_) rfl (by kernel_rfl) (by kernel_rfl) (by kernel_rfl) (fun _ _ _ h => h) (Or.inl ⟨by rfl, ?_⟩) (unhide HH) ?_
    rotate_left 1
    · intro W hSW; go_simp; all_goals (with_reducible rfl)
    (try simp only [Act.put, List.setIfInBounds_toArray, List.set_cons_zero, List.set_cons_succ])
    refine takeL (i := 11) (v := ?_) rfl (by kernel_rfl) (by kernel_rfl) (by kernel_rfl) (fun _ _ _ h => h) (Or.inl ⟨by rfl, ?_⟩) (unhide HH) ?_
    rotate_left 1
    · intro W hSW; go_simp; all_goals (with_reducible rfl)
    (try simp only [Act.put, List.setIfInBounds_toArray, List.set_cons_zero, List.set_cons_succ])
    refine takeL (i := 12) (v := ?_) rfl (by kernel_rfl) (by kernel_rfl) (by kernel_rfl) (fun _ _ _ h => h) (Or.inl ⟨by rfl, ?_⟩) (unhide HH) ?_
    rotate_left 1
    · intro W hSW; go_simp; all_goals (with_reducible rfl)
    (try simp only [Act.put, List.setIfInBounds_toArray, List.set_cons_zero, List.set_cons_succ])
    refine wpAnyH_done (by kernel_rfl) ?_ _
    refine NoPanic.normal ?_
    go_wp2
    go_ret
    exact ⟨rfl, unhide HT⟩

end Go.Proofs.Ytkhpoomajebgoaa
