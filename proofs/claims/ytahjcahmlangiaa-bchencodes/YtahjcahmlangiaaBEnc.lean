/-
  The walk of BchEncodes.
-/
import Derived.Test.YtahjcahmlangiaaLp
import Derived.Test.YtahjcahmlangiaaHd
import Derived.Test.YtahjcahmlangiaaR4e
namespace Go.Proofs.Ytahjcahmlangiaa
open Go.RowKit

theorem zeros8 {c : List Nat} (hc : Code c) : synF c = List.replicate 8 0 := by
  rw [synF_eq, hc.syn 1 (by omega) (by omega), hc.syn 2 (by omega) (by omega), hc.syn 3 (by omega) (by omega), hc.syn 4 (by omega) (by omega), hc.syn 5 (by omega) (by omega), hc.syn 6 (by omega) (by omega), hc.syn 7 (by omega) (by omega), hc.syn 8 (by omega) (by omega)]
  rfl

set_option maxRecDepth 100000 in
set_option maxHeartbeats 8000000 in
theorem encs_walk (va vb : Value) (ga gb : Nat) (b rw0 : List Nat) (w : World) (hA : Arg w va ga b) (hB : Arg w vb gb rw0) :
    Calls Try.prog 3 #[va, vb] w fun x w' => x = .returned (.bool true) ∧ Below w.heap.size w w' := by
  have HA := hide hA
  have HB := hide hB
  obtain ⟨⟨ao, c, rfl, _⟩, _⟩ := hA
  obtain ⟨⟨bo, d2, rfl, _⟩, _⟩ := hB
  have hmk8 : ∀ w : World, (Instr.makeSlice 22 (.int .i64 8) (.int .i64 8)).run Try.prog w = .ok (.slice (some ⟨w.heap.size, 0, none⟩) 8 8) (w.alloc (.cells (List.replicate 8 (Value.int .u8 0)).toArray 5)) := run_zeros 8 (by omega)
  have HZ8 := hide (fun W : World => zeros_arg 8 (by omega) W)

  obtain ⟨z8, hz8⟩ : ∃ z, (List.replicate 8 (Value.int .u8 0)).toArray = z := ⟨_, rfl⟩
  rw [hz8] at HZ8
  simp only [hz8] at hmk8
  clear hz8
  by_cases hla : 40 < rw0.length
  · have hla' : (40 : Int) < (rw0.length : Int) := by omega
    go_enter Try.func3, Try.ntmps3
    go_wp2_with fail
    refine (known_any w).mono ?_
    rintro x w1 ⟨rfl, hk1⟩
    have HK1 := hide hk1
    clear hk1
    go_wp2
    go_ret
    exact ⟨rfl, unhide HK1⟩
  · have hla' : (rw0.length : Int) ≤ 40 := by omega
    have hbr : Bs rw0 := (unhide HB).bs
    by_cases h24 : rw0.length = 24
    · have H24 := hide h24
      clear h24
      have HT : Hid (Below w.heap.size w w) := Below.refl _ _
      go_enter Try.func3, Try.ntmps3
      go_wp2_with fail
      refine (known_any _).mono ?_
      rintro e w1 ⟨rfl, hk⟩
      replace HA := hide ((unhide HA).below hk)
      replace HB := hide ((unhide HB).below hk)
      replace HT := hide ((unhide HT).trans (hk.mono (unhide HT).size))
      clear hk
      go_wp2_with fail
      refine (data_any _ _ b 24 (by omega) _ (unhide HA)).mono ?_
      rintro e w2 ⟨v2, d, rfl, hld, hbd, hF, hk⟩
      replace HA := hide ((unhide HA).below hk)
      replace HB := hide ((unhide HB).below hk)
      replace HT := hide ((unhide HT).trans (hk.mono (unhide HT).size))
      obtain ⟨g2, hA, hge⟩ := hF.arg hbd
      obtain ⟨⟨ao2, c2, rfl, h1, h2, h3, h4⟩, _⟩ := hA
      have HA2 : Hid (Arg w2 (.slice ao2 24 c2) g2 (d)) := ⟨⟨ao2, c2, by rw [hld], h1, h2, h3, h4⟩, hbd⟩
      rw [show (d).length = 24 from hld]
      clear h1 h2 h3 h4 hF hge
      clear hk
      go_wp2_with fail
      refine (encode_any _ _ (d) _ (unhide HA2) hld).mono ?_
      rintro e w3 ⟨v3, rfl, hF, hk⟩
      replace HA := hide ((unhide HA).below hk)
      replace HB := hide ((unhide HB).below hk)
      replace HA2 := hide ((unhide HA2).below hk)
      replace HT := hide ((unhide HT).trans (hk.mono (unhide HT).size))
      obtain ⟨g3, hA, hge⟩ := hF.arg (encF_bs hbd)
      obtain ⟨⟨ao3, c3, rfl, h1, h2, h3, h4⟩, _⟩ := hA
      have HA3 : Hid (Arg w3 (.slice ao3 28 c3) g3 (encF (d))) := ⟨⟨ao3, c3, by rw [(encF_len hld)], h1, h2, h3, h4⟩, (encF_bs hbd)⟩
      rw [show (encF (d)).length = 28 from (encF_len hld)]
      clear h1 h2 h3 h4 hF hge
      clear hk
      go_wp2_with fail
      replace HT := hide ((unhide HT).drew)
      replace HA := hide ((unhide HA).below (Below.refl _ _).drew)
      replace HB := hide ((unhide HB).below (Below.refl _ _).drew)
      replace HA2 := hide ((unhide HA2).below (Below.refl _ _).drew)
      replace HA3 := hide ((unhide HA3).below (Below.refl _ _).drew)
      refine wp_region_noPanic ?_
      refine wp_region_held_drew (S := fun W => Below w3.drew.heap.size w3.drew W) (by kernel_rfl) (Below.refl _ _) (fun hHeld => ?_)
      have HH := hide hHeld
      clear hHeld
      generalize w3.drew = w4 at HT HA HB HA2 HA3 HH ⊢
      refine takeL (i := 0) (v := ?_) rfl (by kernel_rfl) (by kernel_rfl) (by kernel_rfl) (fun _ _ _ h => h) (Or.inl ⟨by rfl, ?_⟩) (unhide HH) ?_
      rotate_left 1
      · intro W hSW; go_simp; all_goals (with_reducible rfl)
      (try simp only [Act.put, List.setIfInBounds_toArray, List.set_cons_zero, List.set_cons_succ])
      refine takeL (i := 1) (v := ?_) rfl (by kernel_rfl) (by kernel_rfl) (by kernel_rfl) (fun _ _ _ h => h) (Or.inl ⟨by rfl, ?_⟩) (unhide HH) ?_
      rotate_left 1
      · intro W1 hSW; have hcv := conv_arg ((unhide HA3).below hSW); clear hSW; go_simp; all_goals (with_reducible rfl)
      (try simp only [Act.put, List.setIfInBounds_toArray, List.set_cons_zero, List.set_cons_succ])
      refine takeL (i := 2) (v := ?_) rfl (by kernel_rfl) (by kernel_rfl) (by kernel_rfl) (fun _ _ _ h => h) (Or.inl ⟨by rfl, ?_⟩) (unhide HH) ?_
      rotate_left 1
      · intro W hSW; go_simp; all_goals (with_reducible rfl)
      (try simp only [Act.put, List.setIfInBounds_toArray, List.set_cons_zero, List.set_cons_succ])
      refine wpAnyH_ready (rs := [3]) (by kernel_rfl) (by simp) ?_
      refine consL rfl (fun K hK => ?_) AllReadyH.nil
      go_simp
      refine (rencode_any _ _ d _ (unhide HA2) hld).mono ?_
      rintro e w5 ⟨v5, rfl, hF, hk⟩
      replace HA := hide ((unhide HA).below hk)
      replace HB := hide ((unhide HB).below hk)
      replace HA2 := hide ((unhide HA2).below hk)
      replace HA3 := hide ((unhide HA3).below hk)
      replace HT := hide ((unhide HT).trans (hk.mono (unhide HT).size))
      obtain ⟨g5, hA, hge⟩ := hF.arg (encF_bs hbd)
      obtain ⟨⟨ao5, c5, rfl, h1, h2, h3, h4⟩, _⟩ := hA
      have HA5 : Hid (Arg w5 (.slice ao5 28 c5) g5 (encF d)) := ⟨⟨ao5, c5, by rw [(encF_len hld)], h1, h2, h3, h4⟩, (encF_bs hbd)⟩
      rw [show (encF d).length = 28 from (encF_len hld)]
      clear h1 h2 h3 h4 hF hge
      go_wp2_with fail
      refine hK.out _ _ hk (fun hHeld => ?_)
      clear hK K HH hHeld
      (try simp only [Act.put, List.setIfInBounds_toArray, List.set_cons_zero, List.set_cons_succ])
      refine stronger (S' := fun W => Below w5.heap.size w5 W) (fun W h => hk.trans (h.mono hk.size)) _ _ _ _ ?_
      have HH : Hid (Below w5.heap.size w5 w5) := Below.refl _ _
      clear hk
      refine takeL (i := 4) (v := ?_) rfl (by kernel_rfl) (by kernel_rfl) (by kernel_rfl) (fun _ _ _ h => h) (Or.inl ⟨by rfl, ?_⟩) (unhide HH) ?_
      rotate_left 1
      · intro W1 hSW; have hcv := conv_arg ((unhide HA5).below hSW); clear hSW; go_simp; all_goals (with_reducible rfl)
      (try simp only [Act.put, List.setIfInBounds_toArray, List.set_cons_zero, List.set_cons_succ])
      refine takeL (i := 5) (v := ?_) rfl (by kernel_rfl) (by kernel_rfl) (by kernel_rfl) (fun _ _ _ h => h) (Or.inl ⟨by rfl, ?_⟩) (unhide HH) ?_
      rotate_left 1
      · intro W hSW; go_simp; all_goals (with_reducible rfl)
      (try simp only [Act.put, List.setIfInBounds_toArray, List.set_cons_zero, List.set_cons_succ])
      refine takeL (i := 6) (v := ?_) rfl (by kernel_rfl) (by kernel_rfl) (by kernel_rfl) (fun _ _ _ h => h) (Or.inl ⟨by rfl, ?_⟩) (unhide HH) ?_
      rotate_left 1
      · intro W hSW; go_simp; all_goals (with_reducible rfl)
      (try simp only [Act.put, List.setIfInBounds_toArray, List.set_cons_zero, List.set_cons_succ])
      refine takeL (i := 7) (v := ?_) rfl (by kernel_rfl) (by kernel_rfl) (by kernel_rfl) (fun _ _ _ h => h) (Or.inl ⟨by rfl, ?_⟩) (unhide HH) ?_
      rotate_left 1
      · intro W hSW; go_simp; all_goals (with_reducible rfl)
      (try simp only [Act.put, List.setIfInBounds_toArray, List.set_cons_zero, List.set_cons_succ])
      refine takeL (i := 10) (v := ?_) rfl (by kernel_rfl) (by kernel_rfl) (by kernel_rfl) (fun _ _ _ h => h) (Or.inl ⟨by rfl, ?_⟩) (unhide HH) ?_
      rotate_left 1
      · intro W hSW; go_simp; all_goals (with_reducible rfl)
      (try simp only [Act.put, List.setIfInBounds_toArray, List.set_cons_zero, List.set_cons_succ])
      refine wpAnyH_ready (rs := [8]) (by kernel_rfl) (by simp) ?_
      refine consL rfl (fun K hK => ?_) AllReadyH.nil
      go_simp
      refine (encode_any _ _ rw0 _ (unhide HB) (unhide H24)).mono ?_
      rintro e w6 ⟨v6, rfl, hF, hk⟩
      replace HA := hide ((unhide HA).below hk)
      replace HB := hide ((unhide HB).below hk)
      replace HA2 := hide ((unhide HA2).below hk)
      replace HA3 := hide ((unhide HA3).below hk)
      replace HA5 := hide ((unhide HA5).below hk)
      replace HT := hide ((unhide HT).trans (hk.mono (unhide HT).size))
      obtain ⟨g6, hA, hge⟩ := hF.arg (encF_bs hbr)
      obtain ⟨⟨ao6, c6, rfl, h1, h2, h3, h4⟩, _⟩ := hA
      have HA6 : Hid (Arg w6 (.slice ao6 28 c6) g6 (encF rw0)) := ⟨⟨ao6, c6, by rw [(encF_len (unhide H24))], h1, h2, h3, h4⟩, (encF_bs hbr)⟩
      rw [show (encF rw0).length = 28 from (encF_len (unhide H24))]
      clear h1 h2 h3 h4 hF hge
      go_wp2_with fail
      refine hK.out _ _ hk (fun hHeld => ?_)
      clear hK K HH hHeld
      (try simp only [Act.put, List.setIfInBounds_toArray, List.set_cons_zero, List.set_cons_succ])
      refine stronger (S' := fun W => Below w6.heap.size w6 W) (fun W h => hk.trans (h.mono hk.size)) _ _ _ _ ?_
      have HH : Hid (Below w6.heap.size w6 w6) := Below.refl _ _
      clear hk
      refine takeL (i := 9) (v := ?_) rfl (by kernel_rfl) (by kernel_rfl) (by kernel_rfl) (fun _ _ _ h => h) (Or.inl ⟨by rfl, ?_⟩) (unhide HH) ?_
      rotate_left 1
      · intro W1 hSW; have hcv := conv_arg ((unhide HA6).below hSW); clear hSW; go_simp; all_goals (with_reducible rfl)
      (try simp only [Act.put, List.setIfInBounds_toArray, List.set_cons_zero, List.set_cons_succ])
      refine wpAnyH_ready (rs := [11]) (by kernel_rfl) (by simp) ?_
      refine consL rfl (fun K hK => ?_) AllReadyH.nil
      go_simp
      refine (rencode_any _ _ rw0 _ (unhide HB) (unhide H24)).mono ?_
      rintro e w7 ⟨v7, rfl, hF, hk⟩
      replace HA := hide ((unhide HA).below hk)
      replace HB := hide ((unhide HB).below hk)
      replace HA2 := hide ((unhide HA2).below hk)
      replace HA3 := hide ((unhide HA3).below hk)
      replace HA5 := hide ((unhide HA5).below hk)
      replace HA6 := hide ((unhide HA6).below hk)
      replace HT := hide ((unhide HT).trans (hk.mono (unhide HT).size))
      obtain ⟨g7, hA, hge⟩ := hF.arg (encF_bs hbr)
      obtain ⟨⟨ao7, c7, rfl, h1, h2, h3, h4⟩, _⟩ := hA
      have HA7 : Hid (Arg w7 (.slice ao7 28 c7) g7 (encF rw0)) := ⟨⟨ao7, c7, by rw [(encF_len (unhide H24))], h1, h2, h3, h4⟩, (encF_bs hbr)⟩
      rw [show (encF rw0).length = 28 from (encF_len (unhide H24))]
      clear h1 h2 h3 h4 hF hge
      go_wp2_with fail
      refine hK.out _ _ hk (fun hHeld => ?_)
      clear hK K HH hHeld
      (try simp only [Act.put, List.setIfInBounds_toArray, List.set_cons_zero, List.set_cons_succ])
      refine stronger (S' := fun W => Below w7.heap.size w7 W) (fun W h => hk.trans (h.mono hk.size)) _ _ _ _ ?_
      have HH : Hid (Below w7.heap.size w7 w7) := Below.refl _ _
      clear hk
      refine takeL (i := 12) (v := ?_) rfl (by kernel_rfl) (by kernel_rfl) (by kernel_rfl) (fun _ _ _ h => h) (Or.inl ⟨by rfl, ?_⟩) (unhide HH) ?_
      rotate_left 1
      · intro W1 hSW; have hcv := conv_arg ((unhide HA7).below hSW); clear hSW; go_simp; all_goals (with_reducible rfl)
      (try simp only [Act.put, List.setIfInBounds_toArray, List.set_cons_zero, List.set_cons_succ])
      refine takeL (i := 13) (v := ?_) rfl (by kernel_rfl) (by kernel_rfl) (by kernel_rfl) (fun _ _ _ h => h) (Or.inl ⟨by rfl, ?_⟩) (unhide HH) ?_
      rotate_left 1
      · intro W hSW; go_simp; all_goals (with_reducible rfl)
      (try simp only [Act.put, List.setIfInBounds_toArray, List.set_cons_zero, List.set_cons_succ])
      refine takeL (i := 14) (v := ?_) rfl (by kernel_rfl) (by kernel_rfl) (by kernel_rfl) (fun _ _ _ h => h) (Or.inl ⟨by rfl, ?_⟩) (unhide HH) ?_
      rotate_left 1
      · intro W hSW; go_simp; all_goals (with_reducible rfl)
      (try simp only [Act.put, List.setIfInBounds_toArray, List.set_cons_zero, List.set_cons_succ])
      refine takeL (i := 15) (v := ?_) rfl (by kernel_rfl) (by kernel_rfl) (by kernel_rfl) (fun _ _ _ h => h) (Or.inl ⟨by rfl, ?_⟩) (unhide HH) ?_
      rotate_left 1
      · intro W hSW; go_simp; all_goals (with_reducible rfl)
      (try simp only [Act.put, List.setIfInBounds_toArray, List.set_cons_zero, List.set_cons_succ])
      refine wpAnyH_ready (rs := [16]) (by kernel_rfl) (by simp) ?_
      refine consL rfl (fun K hK => ?_) AllReadyH.nil
      go_simp
      refine (generator_any _).mono ?_
      rintro e w8 ⟨v8, rfl, hF, hk⟩
      replace HA := hide ((unhide HA).below hk)
      replace HB := hide ((unhide HB).below hk)
      replace HA2 := hide ((unhide HA2).below hk)
      replace HA3 := hide ((unhide HA3).below hk)
      replace HA5 := hide ((unhide HA5).below hk)
      replace HA6 := hide ((unhide HA6).below hk)
      replace HA7 := hide ((unhide HA7).below hk)
      replace HT := hide ((unhide HT).trans (hk.mono (unhide HT).size))
      obtain ⟨g8, hA, hge⟩ := hF.arg genP_bin.bs
      obtain ⟨⟨ao8, c8, rfl, h1, h2, h3, h4⟩, _⟩ := hA
      have HA8 : Hid (Arg w8 (.slice ao8 33 c8) g8 (genP)) := ⟨⟨ao8, c8, by rw [genP_facts.1], h1, h2, h3, h4⟩, genP_bin.bs⟩
      rw [show (genP).length = 33 from genP_facts.1]
      clear h1 h2 h3 h4 hF hge
      go_wp2_with fail
      refine hK.out _ _ hk (fun hHeld => ?_)
      clear hK K HH hHeld
      (try simp only [Act.put, List.setIfInBounds_toArray, List.set_cons_zero, List.set_cons_succ])
      refine stronger (S' := fun W => Below w8.heap.size w8 W) (fun W h => hk.trans (h.mono hk.size)) _ _ _ _ ?_
      have HH : Hid (Below w8.heap.size w8 w8) := Below.refl _ _
      clear hk
      refine takeL (i := 17) (v := ?_) rfl (by kernel_rfl) (by kernel_rfl) (by kernel_rfl) (fun _ _ _ h => h) (Or.inl ⟨by rfl, ?_⟩) (unhide HH) ?_
      rotate_left 1
      · intro W1 hSW; have hcv := conv_arg ((unhide HA8).below hSW); clear hSW; go_simp; all_goals (with_reducible rfl)
      (try simp only [Act.put, List.setIfInBounds_toArray, List.set_cons_zero, List.set_cons_succ])
      refine wpAnyH_ready (rs := [18]) (by kernel_rfl) (by simp) ?_
      refine consL rfl (fun K hK => ?_) AllReadyH.nil
      go_simp
      refine (rgen_any _).mono ?_
      rintro e w9 ⟨v9, rfl, hF, hk⟩
      replace HA := hide ((unhide HA).below hk)
      replace HB := hide ((unhide HB).below hk)
      replace HA2 := hide ((unhide HA2).below hk)
      replace HA3 := hide ((unhide HA3).below hk)
      replace HA5 := hide ((unhide HA5).below hk)
      replace HA6 := hide ((unhide HA6).below hk)
      replace HA7 := hide ((unhide HA7).below hk)
      replace HA8 := hide ((unhide HA8).below hk)
      replace HT := hide ((unhide HT).trans (hk.mono (unhide HT).size))
      obtain ⟨g9, hA, hge⟩ := hF.arg genP_bin.bs
      obtain ⟨⟨ao9, c9, rfl, h1, h2, h3, h4⟩, _⟩ := hA
      have HA9 : Hid (Arg w9 (.slice ao9 33 c9) g9 (genP)) := ⟨⟨ao9, c9, by rw [genP_facts.1], h1, h2, h3, h4⟩, genP_bin.bs⟩
      rw [show (genP).length = 33 from genP_facts.1]
      clear h1 h2 h3 h4 hF hge
      go_wp2_with fail
      refine hK.out _ _ hk (fun hHeld => ?_)
      clear hK K HH hHeld
      (try simp only [Act.put, List.setIfInBounds_toArray, List.set_cons_zero, List.set_cons_succ])
      refine stronger (S' := fun W => Below w9.heap.size w9 W) (fun W h => hk.trans (h.mono hk.size)) _ _ _ _ ?_
      have HH : Hid (Below w9.heap.size w9 w9) := Below.refl _ _
      clear hk
      refine takeL (i := 19) (v := ?_) rfl (by kernel_rfl) (by kernel_rfl) (by kernel_rfl) (fun _ _ _ h => h) (Or.inl ⟨by rfl, ?_⟩) (unhide HH) ?_
      rotate_left 1
      · intro W1 hSW; have hcv := conv_arg ((unhide HA9).below hSW); clear hSW; go_simp; all_goals (with_reducible rfl)
      (try simp only [Act.put, List.setIfInBounds_toArray, List.set_cons_zero, List.set_cons_succ])
      refine takeL (i := 20) (v := ?_) rfl (by kernel_rfl) (by kernel_rfl) (by kernel_rfl) (fun _ _ _ h => h) (Or.inl ⟨by rfl, ?_⟩) (unhide HH) ?_
      rotate_left 1
      · intro W hSW; go_simp; all_goals (with_reducible rfl)
      (try simp only [Act.put, List.setIfInBounds_toArray, List.set_cons_zero, List.set_cons_succ])
      refine takeL (i := 21) (v := ?_) rfl (by kernel_rfl) (by kernel_rfl) (by kernel_rfl) (fun _ _ _ h => h) (Or.inl ⟨by rfl, ?_⟩) (unhide HH) ?_
      rotate_left 1
      · intro W hSW; go_simp; all_goals (with_reducible rfl)
      (try simp only [Act.put, List.setIfInBounds_toArray, List.set_cons_zero, List.set_cons_succ])
      refine wpAnyH_done (by kernel_rfl) ?_ _
      refine NoPanic.normal ?_
      go_wp2_with fail
      obtain ⟨oE, eE, cE⟩ := (unhide HA3).cells (ne_len (encF_len hld))
      cases eE
      have hcut : ∀ W : World, Arg W (.slice (some ⟨g3, oE, none⟩) 28 c3) g3 (encF d) → Arg W (.slice (some ⟨g3, oE + 4, none⟩) 24 (c3 - 4)) g3 d := fun W h => by
        obtain ⟨⟨ao', c', h1, h2, h3, h4, h5⟩, hb⟩ := h
        rw [encF_len hld] at h1 h2
        cases h1
        refine ⟨⟨some ⟨g3, oE + 4, none⟩, c3 - 4, by rw [hld], by omega, by omega, (fun h => by cases h), row_sub (s := encF d) (k := 4) (fun j hj => ⟨by rw [encF_len hld]; omega, ?_⟩) h5⟩, hbd⟩
        rw [← cf_drop, encF_drop hld hbd]
      have hc28 : 28 ≤ c3 := by
        obtain ⟨⟨ao', c', h1, h2, _⟩, _⟩ := unhide HA3
        rw [encF_len hld] at h1 h2
        cases h1
        exact h2
      have hc4 : ¬ c3 = 4 := by omega
      have HCUT := hide (hcut _ (unhide HA3))
      clear cE hcut
      replace HT := hide ((unhide HT).drew)
      replace HA := hide ((unhide HA).below (Below.refl _ _).drew)
      replace HB := hide ((unhide HB).below (Below.refl _ _).drew)
      replace HA2 := hide ((unhide HA2).below (Below.refl _ _).drew)
      replace HA3 := hide ((unhide HA3).below (Below.refl _ _).drew)
      replace HA5 := hide ((unhide HA5).below (Below.refl _ _).drew)
      replace HA6 := hide ((unhide HA6).below (Below.refl _ _).drew)
      replace HA7 := hide ((unhide HA7).below (Below.refl _ _).drew)
      replace HA8 := hide ((unhide HA8).below (Below.refl _ _).drew)
      replace HA9 := hide ((unhide HA9).below (Below.refl _ _).drew)
      replace HCUT := hide ((unhide HCUT).below (Below.refl _ _).drew)
      refine wp_region_noPanic ?_
      refine wp_region_held_drew (S := fun W => Below w9.drew.heap.size w9.drew W) (by kernel_rfl) (Below.refl _ _) (fun hHeld => ?_)
      have HH := hide hHeld
      clear hHeld
      generalize w9.drew = w10 at HT HA HB HA2 HA3 HA5 HA6 HA7 HA8 HA9 HCUT HH ⊢
      refine takeL (i := 0) (v := ?_) rfl (by kernel_rfl) (by kernel_rfl) (by kernel_rfl) (fun _ _ _ h => h) (Or.inl ⟨by rfl, ?_⟩) (unhide HH) ?_
      rotate_left 1
      · intro W hSW; go_simp; all_goals (with_reducible rfl)
      (try simp only [Act.put, List.setIfInBounds_toArray, List.set_cons_zero, List.set_cons_succ])
      refine wpAnyH_ready (rs := [1, 3]) (by kernel_rfl) (by simp) ?_
      refine consL rfl (fun K hK => ?_) (consL rfl (fun K hK => ?_) AllReadyH.nil)
      focus
        go_simp
        refine (syndromes_any _ _ (encF d) _ (unhide HA3) (encF_len hld)).mono ?_
        rintro e w11 ⟨v11, rfl, hF, hk⟩
        rw [zeros8 (encF_is hbd hld).code] at hF
        replace HA := hide ((unhide HA).below hk)
        replace HB := hide ((unhide HB).below hk)
        replace HA2 := hide ((unhide HA2).below hk)
        replace HA3 := hide ((unhide HA3).below hk)
        replace HA5 := hide ((unhide HA5).below hk)
        replace HA6 := hide ((unhide HA6).below hk)
        replace HA7 := hide ((unhide HA7).below hk)
        replace HA8 := hide ((unhide HA8).below hk)
        replace HA9 := hide ((unhide HA9).below hk)
        replace HCUT := hide ((unhide HCUT).below hk)
        replace HT := hide ((unhide HT).trans (hk.mono (unhide HT).size))
        obtain ⟨g11, hA, hge⟩ := hF.arg (Bs.zeros 8)
        obtain ⟨⟨ao11, c11, rfl, h1, h2, h3, h4⟩, _⟩ := hA
        have HA11 : Hid (Arg w11 (.slice ao11 8 c11) g11 (List.replicate 8 0)) := ⟨⟨ao11, c11, by rw [List.length_replicate], h1, h2, h3, h4⟩, (Bs.zeros 8)⟩
        rw [show (List.replicate 8 0).length = 8 from List.length_replicate]
        clear h1 h2 h3 h4 hF hge
        go_wp2_with fail
        refine hK.out _ _ hk (fun hHeld => ?_)
        clear hK K HH hHeld
        (try simp only [Act.put, List.setIfInBounds_toArray, List.set_cons_zero, List.set_cons_succ])
        refine stronger (S' := fun W => Below w11.heap.size w11 W) (fun W h => hk.trans (h.mono hk.size)) _ _ _ _ ?_
        have HH : Hid (Below w11.heap.size w11 w11) := Below.refl _ _
        clear hk
        refine takeL (i := 2) (v := ?_) rfl (by kernel_rfl) (by kernel_rfl) (by kernel_rfl) (fun _ _ _ h => h) (Or.inl ⟨by rfl, ?_⟩) (unhide HH) ?_
        rotate_left 1
        · intro W1 hSW; have hcv := conv_arg ((unhide HA11).below hSW); clear hSW; go_simp; all_goals (with_reducible rfl)
        (try simp only [Act.put, List.setIfInBounds_toArray, List.set_cons_zero, List.set_cons_succ])
        refine wpAnyH_ready (rs := [3]) (by kernel_rfl) (by simp) ?_
        refine consL rfl (fun K hK => ?_) AllReadyH.nil
        go_simp
        have hk : Below w11.heap.size w11 (w11.alloc (.cells z8 5)) := (Below.refl _ _).alloc (Nat.le_refl _) _
        have hA := unhide HZ8 w11
        generalize w11.alloc (.cells z8 5) = w12 at hk hA  ⊢
        replace HA := hide ((unhide HA).below hk)
        replace HB := hide ((unhide HB).below hk)
        replace HA2 := hide ((unhide HA2).below hk)
        replace HA3 := hide ((unhide HA3).below hk)
        replace HA5 := hide ((unhide HA5).below hk)
        replace HA6 := hide ((unhide HA6).below hk)
        replace HA7 := hide ((unhide HA7).below hk)
        replace HA8 := hide ((unhide HA8).below hk)
        replace HA9 := hide ((unhide HA9).below hk)
        replace HCUT := hide ((unhide HCUT).below hk)
        replace HA11 := hide ((unhide HA11).below hk)
        replace HT := hide ((unhide HT).trans (hk.mono (unhide HT).size))
        have HA12 := hide hA
        clear hA
        refine hK.out _ _ hk (fun hHeld => ?_)
        clear hK K HH hHeld
        (try simp only [Act.put, List.setIfInBounds_toArray, List.set_cons_zero, List.set_cons_succ])
        refine stronger (S' := fun W => Below w12.heap.size w12 W) (fun W h => hk.trans (h.mono hk.size)) _ _ _ _ ?_
        have HH : Hid (Below w12.heap.size w12 w12) := Below.refl _ _
        clear hk
        refine takeL (i := 4) (v := ?_) rfl (by kernel_rfl) (by kernel_rfl) (by kernel_rfl) (fun _ _ _ h => h) (Or.inl ⟨by rfl, ?_⟩) (unhide HH) ?_
        rotate_left 1
        · intro W1 hSW; have hcv := conv_arg ((unhide HA12).below hSW); clear hSW; go_simp; all_goals (with_reducible rfl)
        (try simp only [Act.put, List.setIfInBounds_toArray, List.set_cons_zero, List.set_cons_succ])
        refine takeL (i := 5) (v := ?_) rfl (by kernel_rfl) (by kernel_rfl) (by kernel_rfl) (fun _ _ _ h => h) (Or.inl ⟨by rfl, ?_⟩) (unhide HH) ?_
        rotate_left 1
        · intro W hSW; go_simp; all_goals (with_reducible rfl)
        (try simp only [Act.put, List.setIfInBounds_toArray, List.set_cons_zero, List.set_cons_succ])
        refine takeL (i := 6) (v := ?_) rfl (by kernel_rfl) (by kernel_rfl) (by kernel_rfl) (fun _ _ _ h => h) (Or.inl ⟨by rfl, ?_⟩) (unhide HH) ?_
        rotate_left 1
        · intro W hSW; go_simp; all_goals (with_reducible rfl)
        (try simp only [Act.put, List.setIfInBounds_toArray, List.set_cons_zero, List.set_cons_succ])
        refine takeL (i := 7) (v := ?_) rfl (by kernel_rfl) (by kernel_rfl) (by kernel_rfl) (fun _ _ _ h => h) (Or.inl ⟨by rfl, ?_⟩) (unhide HH) ?_
        rotate_left 1
        · intro W hSW; go_simp; all_goals (with_reducible rfl)
        (try simp only [Act.put, List.setIfInBounds_toArray, List.set_cons_zero, List.set_cons_succ])
        refine takeL (i := 8) (v := ?_) rfl (by kernel_rfl) (by kernel_rfl) (by kernel_rfl) (fun _ _ _ h => h) (Or.inl ⟨by rfl, ?_⟩) (unhide HH) ?_
        rotate_left 1
        · intro W hSW; go_simp; all_goals (with_reducible rfl)
        (try simp only [Act.put, List.setIfInBounds_toArray, List.set_cons_zero, List.set_cons_succ])
        refine takeL (i := 9) (v := ?_) rfl (by kernel_rfl) (by kernel_rfl) (by kernel_rfl) (fun _ _ _ h => h) (Or.inl ⟨by rfl, ?_⟩) (unhide HH) ?_
        rotate_left 1
        · intro W1 hSW; have hcv := conv_arg ((unhide HCUT).below hSW); clear hSW; go_simp; all_goals (with_reducible rfl)
        (try simp only [Act.put, List.setIfInBounds_toArray, List.set_cons_zero, List.set_cons_succ])
        refine takeL (i := 10) (v := ?_) rfl (by kernel_rfl) (by kernel_rfl) (by kernel_rfl) (fun _ _ _ h => h) (Or.inl ⟨by rfl, ?_⟩) (unhide HH) ?_
        rotate_left 1
        · intro W hSW; go_simp; all_goals (with_reducible rfl)
        (try simp only [Act.put, List.setIfInBounds_toArray, List.set_cons_zero, List.set_cons_succ])
        refine takeL (i := 11) (v := ?_) rfl (by kernel_rfl) (by kernel_rfl) (by kernel_rfl) (fun _ _ _ h => h) (Or.inl ⟨by rfl, ?_⟩) (unhide HH) ?_
        rotate_left 1
        · intro W1 hSW; have hcv := conv_arg ((unhide HA2).below hSW); clear hSW; go_simp; all_goals (with_reducible rfl)
        (try simp only [Act.put, List.setIfInBounds_toArray, List.set_cons_zero, List.set_cons_succ])
        refine takeL (i := 12) (v := ?_) rfl (by kernel_rfl) (by kernel_rfl) (by kernel_rfl) (fun _ _ _ h => h) (Or.inl ⟨by rfl, ?_⟩) (unhide HH) ?_
        rotate_left 1
        · intro W hSW; go_simp; all_goals (with_reducible rfl)
        (try simp only [Act.put, List.setIfInBounds_toArray, List.set_cons_zero, List.set_cons_succ])
        refine takeL (i := 13) (v := ?_) rfl (by kernel_rfl) (by kernel_rfl) (by kernel_rfl) (fun _ _ _ h => h) (Or.inl ⟨by rfl, ?_⟩) (unhide HH) ?_
        rotate_left 1
        · intro W hSW; go_simp; all_goals (with_reducible rfl)
        (try simp only [Act.put, List.setIfInBounds_toArray, List.set_cons_zero, List.set_cons_succ])
        refine takeL (i := 14) (v := ?_) rfl (by kernel_rfl) (by kernel_rfl) (by kernel_rfl) (fun _ _ _ h => h) (Or.inl ⟨by rfl, ?_⟩) (unhide HH) ?_
        rotate_left 1
        · intro W hSW; go_simp; all_goals (with_reducible rfl)
        (try simp only [Act.put, List.setIfInBounds_toArray, List.set_cons_zero, List.set_cons_succ])
        refine wpAnyH_done (by kernel_rfl) ?_ _
        refine NoPanic.normal ?_
        go_wp2
        go_ret
        exact ⟨rfl, unhide HT⟩
      focus
        go_simp
        have hk : Below w10.heap.size w10 (w10.alloc (.cells z8 5)) := (Below.refl _ _).alloc (Nat.le_refl _) _
        have hA := unhide HZ8 w10
        generalize w10.alloc (.cells z8 5) = w11 at hk hA  ⊢
        replace HA := hide ((unhide HA).below hk)
        replace HB := hide ((unhide HB).below hk)
        replace HA2 := hide ((unhide HA2).below hk)
        replace HA3 := hide ((unhide HA3).below hk)
        replace HA5 := hide ((unhide HA5).below hk)
        replace HA6 := hide ((unhide HA6).below hk)
        replace HA7 := hide ((unhide HA7).below hk)
        replace HA8 := hide ((unhide HA8).below hk)
        replace HA9 := hide ((unhide HA9).below hk)
        replace HCUT := hide ((unhide HCUT).below hk)
        replace HT := hide ((unhide HT).trans (hk.mono (unhide HT).size))
        have HA11 := hide hA
        clear hA
        refine hK.out _ _ hk (fun hHeld => ?_)
        clear hK K HH hHeld
        (try simp only [Act.put, List.setIfInBounds_toArray, List.set_cons_zero, List.set_cons_succ])
        refine stronger (S' := fun W => Below w11.heap.size w11 W) (fun W h => hk.trans (h.mono hk.size)) _ _ _ _ ?_
        have HH : Hid (Below w11.heap.size w11 w11) := Below.refl _ _
        clear hk
        refine takeL (i := 4) (v := ?_) rfl (by kernel_rfl) (by kernel_rfl) (by kernel_rfl) (fun _ _ _ h => h) (Or.inl ⟨by rfl, ?_⟩) (unhide HH) ?_
        rotate_left 1
        · intro W1 hSW; have hcv := conv_arg ((unhide HA11).below hSW); clear hSW; go_simp; all_goals (with_reducible rfl)
        (try simp only [Act.put, List.setIfInBounds_toArray, List.set_cons_zero, List.set_cons_succ])
        refine wpAnyH_ready (rs := [1]) (by kernel_rfl) (by simp) ?_
        refine consL rfl (fun K hK => ?_) AllReadyH.nil
        go_simp
        refine (syndromes_any _ _ (encF d) _ (unhide HA3) (encF_len hld)).mono ?_
        rintro e w12 ⟨v12, rfl, hF, hk⟩
        rw [zeros8 (encF_is hbd hld).code] at hF
        replace HA := hide ((unhide HA).below hk)
        replace HB := hide ((unhide HB).below hk)
        replace HA2 := hide ((unhide HA2).below hk)
        replace HA3 := hide ((unhide HA3).below hk)
        replace HA5 := hide ((unhide HA5).below hk)
        replace HA6 := hide ((unhide HA6).below hk)
        replace HA7 := hide ((unhide HA7).below hk)
        replace HA8 := hide ((unhide HA8).below hk)
        replace HA9 := hide ((unhide HA9).below hk)
        replace HCUT := hide ((unhide HCUT).below hk)
        replace HA11 := hide ((unhide HA11).below hk)
        replace HT := hide ((unhide HT).trans (hk.mono (unhide HT).size))
        obtain ⟨g12, hA, hge⟩ := hF.arg (Bs.zeros 8)
        obtain ⟨⟨ao12, c12, rfl, h1, h2, h3, h4⟩, _⟩ := hA
        have HA12 : Hid (Arg w12 (.slice ao12 8 c12) g12 (List.replicate 8 0)) := ⟨⟨ao12, c12, by rw [List.length_replicate], h1, h2, h3, h4⟩, (Bs.zeros 8)⟩
        rw [show (List.replicate 8 0).length = 8 from List.length_replicate]
        clear h1 h2 h3 h4 hF hge
        go_wp2_with fail
        refine hK.out _ _ hk (fun hHeld => ?_)
        clear hK K HH hHeld
        (try simp only [Act.put, List.setIfInBounds_toArray, List.set_cons_zero, List.set_cons_succ])
        refine stronger (S' := fun W => Below w12.heap.size w12 W) (fun W h => hk.trans (h.mono hk.size)) _ _ _ _ ?_
        have HH : Hid (Below w12.heap.size w12 w12) := Below.refl _ _
        clear hk
        refine takeL (i := 2) (v := ?_) rfl (by kernel_rfl) (by kernel_rfl) (by kernel_rfl) (fun _ _ _ h => h) (Or.inl ⟨by rfl, ?_⟩) (unhide HH) ?_
        rotate_left 1
        · intro W1 hSW; have hcv := conv_arg ((unhide HA12).below hSW); clear hSW; go_simp; all_goals (with_reducible rfl)
        (try simp only [Act.put, List.setIfInBounds_toArray, List.set_cons_zero, List.set_cons_succ])
        refine takeL (i := 5) (v := ?_) rfl (by kernel_rfl) (by kernel_rfl) (by kernel_rfl) (fun _ _ _ h => h) (Or.inl ⟨by rfl, ?_⟩) (unhide HH) ?_
        rotate_left 1
        · intro W hSW; go_simp; all_goals (with_reducible rfl)
        (try simp only [Act.put, List.setIfInBounds_toArray, List.set_cons_zero, List.set_cons_succ])
        refine takeL (i := 6) (v := ?_) rfl (by kernel_rfl) (by kernel_rfl) (by kernel_rfl) (fun _ _ _ h => h) (Or.inl ⟨by rfl, ?_⟩) (unhide HH) ?_
        rotate_left 1
        · intro W hSW; go_simp; all_goals (with_reducible rfl)
        (try simp only [Act.put, List.setIfInBounds_toArray, List.set_cons_zero, List.set_cons_succ])
        refine takeL (i := 7) (v := ?_) rfl (by kernel_rfl) (by kernel_rfl) (by kernel_rfl) (fun _ _ _ h => h) (Or.inl ⟨by rfl, ?_⟩) (unhide HH) ?_
        rotate_left 1
        · intro W hSW; go_simp; all_goals (with_reducible rfl)
        (try simp only [Act.put, List.setIfInBounds_toArray, List.set_cons_zero, List.set_cons_succ])
        refine takeL (i := 8) (v := ?_) rfl (by kernel_rfl) (by kernel_rfl) (by kernel_rfl) (fun _ _ _ h => h) (Or.inl ⟨by rfl, ?_⟩) (unhide HH) ?_
        rotate_left 1
        · intro W hSW; go_simp; all_goals (with_reducible rfl)
        (try simp only [Act.put, List.setIfInBounds_toArray, List.set_cons_zero, List.set_cons_succ])
        refine takeL (i := 9) (v := ?_) rfl (by kernel_rfl) (by kernel_rfl) (by kernel_rfl) (fun _ _ _ h => h) (Or.inl ⟨by rfl, ?_⟩) (unhide HH) ?_
        rotate_left 1
        · intro W1 hSW; have hcv := conv_arg ((unhide HCUT).below hSW); clear hSW; go_simp; all_goals (with_reducible rfl)
        (try simp only [Act.put, List.setIfInBounds_toArray, List.set_cons_zero, List.set_cons_succ])
        refine takeL (i := 10) (v := ?_) rfl (by kernel_rfl) (by kernel_rfl) (by kernel_rfl) (fun _ _ _ h => h) (Or.inl ⟨by rfl, ?_⟩) (unhide HH) ?_
        rotate_left 1
        · intro W hSW; go_simp; all_goals (with_reducible rfl)
        (try simp only [Act.put, List.setIfInBounds_toArray, List.set_cons_zero, List.set_cons_succ])
        refine takeL (i := 11) (v := ?_) rfl (by kernel_rfl) (by kernel_rfl) (by kernel_rfl) (fun _ _ _ h => h) (Or.inl ⟨by rfl, ?_⟩) (unhide HH) ?_
        rotate_left 1
        · intro W1 hSW; have hcv := conv_arg ((unhide HA2).below hSW); clear hSW; go_simp; all_goals (with_reducible rfl)
        (try simp only [Act.put, List.setIfInBounds_toArray, List.set_cons_zero, List.set_cons_succ])
        refine takeL (i := 12) (v := ?_) rfl (by kernel_rfl) (by kernel_rfl) (by kernel_rfl) (fun _ _ _ h => h) (Or.inl ⟨by rfl, ?_⟩) (unhide HH) ?_
        rotate_left 1
        · intro W hSW; go_simp; all_goals (with_reducible rfl)
        (try simp only [Act.put, List.setIfInBounds_toArray, List.set_cons_zero, List.set_cons_succ])
        refine takeL (i := 13) (v := ?_) rfl (by kernel_rfl) (by kernel_rfl) (by kernel_rfl) (fun _ _ _ h => h) (Or.inl ⟨by rfl, ?_⟩) (unhide HH) ?_
        rotate_left 1
        · intro W hSW; go_simp; all_goals (with_reducible rfl)
        (try simp only [Act.put, List.setIfInBounds_toArray, List.set_cons_zero, List.set_cons_succ])
        refine takeL (i := 14) (v := ?_) rfl (by kernel_rfl) (by kernel_rfl) (by kernel_rfl) (fun _ _ _ h => h) (Or.inl ⟨by rfl, ?_⟩) (unhide HH) ?_
        rotate_left 1
        · intro W hSW; go_simp; all_goals (with_reducible rfl)
        (try simp only [Act.put, List.setIfInBounds_toArray, List.set_cons_zero, List.set_cons_succ])
        refine wpAnyH_done (by kernel_rfl) ?_ _
        refine NoPanic.normal ?_
        go_wp2
        go_ret
        exact ⟨rfl, unhide HT⟩
    · have H24 := hide h24
      clear h24
      have HT : Hid (Below w.heap.size w w) := Below.refl _ _
      go_enter Try.func3, Try.ntmps3
      go_wp2_with fail
      refine (known_any _).mono ?_
      rintro e w1 ⟨rfl, hk⟩
      replace HA := hide ((unhide HA).below hk)
      replace HB := hide ((unhide HB).below hk)
      replace HT := hide ((unhide HT).trans (hk.mono (unhide HT).size))
      clear hk
      go_wp2_with fail
      refine (data_any _ _ b 24 (by omega) _ (unhide HA)).mono ?_
      rintro e w2 ⟨v2, d, rfl, hld, hbd, hF, hk⟩
      replace HA := hide ((unhide HA).below hk)
      replace HB := hide ((unhide HB).below hk)
      replace HT := hide ((unhide HT).trans (hk.mono (unhide HT).size))
      obtain ⟨g2, hA, hge⟩ := hF.arg hbd
      obtain ⟨⟨ao2, c2, rfl, h1, h2, h3, h4⟩, _⟩ := hA
      have HA2 : Hid (Arg w2 (.slice ao2 24 c2) g2 (d)) := ⟨⟨ao2, c2, by rw [hld], h1, h2, h3, h4⟩, hbd⟩
      rw [show (d).length = 24 from hld]
      clear h1 h2 h3 h4 hF hge
      clear hk
      go_wp2_with fail
      refine (encode_any _ _ (d) _ (unhide HA2) hld).mono ?_
      rintro e w3 ⟨v3, rfl, hF, hk⟩
      replace HA := hide ((unhide HA).below hk)
      replace HB := hide ((unhide HB).below hk)
      replace HA2 := hide ((unhide HA2).below hk)
      replace HT := hide ((unhide HT).trans (hk.mono (unhide HT).size))
      obtain ⟨g3, hA, hge⟩ := hF.arg (encF_bs hbd)
      obtain ⟨⟨ao3, c3, rfl, h1, h2, h3, h4⟩, _⟩ := hA
      have HA3 : Hid (Arg w3 (.slice ao3 28 c3) g3 (encF (d))) := ⟨⟨ao3, c3, by rw [(encF_len hld)], h1, h2, h3, h4⟩, (encF_bs hbd)⟩
      rw [show (encF (d)).length = 28 from (encF_len hld)]
      clear h1 h2 h3 h4 hF hge
      clear hk
      go_wp2_with fail
      replace HT := hide ((unhide HT).drew)
      replace HA := hide ((unhide HA).below (Below.refl _ _).drew)
      replace HB := hide ((unhide HB).below (Below.refl _ _).drew)
      replace HA2 := hide ((unhide HA2).below (Below.refl _ _).drew)
      replace HA3 := hide ((unhide HA3).below (Below.refl _ _).drew)
      refine wp_region_noPanic ?_
      refine wp_region_held_drew (S := fun W => Below w3.drew.heap.size w3.drew W) (by kernel_rfl) (Below.refl _ _) (fun hHeld => ?_)
      have HH := hide hHeld
      clear hHeld
      generalize w3.drew = w4 at HT HA HB HA2 HA3 HH ⊢
      refine takeL (i := 0) (v := ?_) rfl (by kernel_rfl) (by kernel_rfl) (by kernel_rfl) (fun _ _ _ h => h) (Or.inl ⟨by rfl, ?_⟩) (unhide HH) ?_
      rotate_left 1
      · intro W hSW; go_simp; all_goals (with_reducible rfl)
      (try simp only [Act.put, List.setIfInBounds_toArray, List.set_cons_zero, List.set_cons_succ])
      refine takeL (i := 1) (v := ?_) rfl (by kernel_rfl) (by kernel_rfl) (by kernel_rfl) (fun _ _ _ h => h) (Or.inl ⟨by rfl, ?_⟩) (unhide HH) ?_
      rotate_left 1
      · intro W1 hSW; have hcv := conv_arg ((unhide HA3).below hSW); clear hSW; go_simp; all_goals (with_reducible rfl)
      (try simp only [Act.put, List.setIfInBounds_toArray, List.set_cons_zero, List.set_cons_succ])
      refine takeL (i := 2) (v := ?_) rfl (by kernel_rfl) (by kernel_rfl) (by kernel_rfl) (fun _ _ _ h => h) (Or.inl ⟨by rfl, ?_⟩) (unhide HH) ?_
      rotate_left 1
      · intro W hSW; go_simp; all_goals (with_reducible rfl)
      (try simp only [Act.put, List.setIfInBounds_toArray, List.set_cons_zero, List.set_cons_succ])
      refine wpAnyH_ready (rs := [3]) (by kernel_rfl) (by simp) ?_
      refine consL rfl (fun K hK => ?_) AllReadyH.nil
      go_simp
      refine (rencode_any _ _ d _ (unhide HA2) hld).mono ?_
      rintro e w5 ⟨v5, rfl, hF, hk⟩
      replace HA := hide ((unhide HA).below hk)
      replace HB := hide ((unhide HB).below hk)
      replace HA2 := hide ((unhide HA2).below hk)
      replace HA3 := hide ((unhide HA3).below hk)
      replace HT := hide ((unhide HT).trans (hk.mono (unhide HT).size))
      obtain ⟨g5, hA, hge⟩ := hF.arg (encF_bs hbd)
      obtain ⟨⟨ao5, c5, rfl, h1, h2, h3, h4⟩, _⟩ := hA
      have HA5 : Hid (Arg w5 (.slice ao5 28 c5) g5 (encF d)) := ⟨⟨ao5, c5, by rw [(encF_len hld)], h1, h2, h3, h4⟩, (encF_bs hbd)⟩
      rw [show (encF d).length = 28 from (encF_len hld)]
      clear h1 h2 h3 h4 hF hge
      go_wp2_with fail
      refine hK.out _ _ hk (fun hHeld => ?_)
      clear hK K HH hHeld
      (try simp only [Act.put, List.setIfInBounds_toArray, List.set_cons_zero, List.set_cons_succ])
      refine stronger (S' := fun W => Below w5.heap.size w5 W) (fun W h => hk.trans (h.mono hk.size)) _ _ _ _ ?_
      have HH : Hid (Below w5.heap.size w5 w5) := Below.refl _ _
      clear hk
      refine takeL (i := 4) (v := ?_) rfl (by kernel_rfl) (by kernel_rfl) (by kernel_rfl) (fun _ _ _ h => h) (Or.inl ⟨by rfl, ?_⟩) (unhide HH) ?_
      rotate_left 1
      · intro W1 hSW; have hcv := conv_arg ((unhide HA5).below hSW); clear hSW; go_simp; all_goals (with_reducible rfl)
      (try simp only [Act.put, List.setIfInBounds_toArray, List.set_cons_zero, List.set_cons_succ])
      refine takeL (i := 5) (v := ?_) rfl (by kernel_rfl) (by kernel_rfl) (by kernel_rfl) (fun _ _ _ h => h) (Or.inl ⟨by rfl, ?_⟩) (unhide HH) ?_
      rotate_left 1
      · intro W hSW; go_simp; all_goals (with_reducible rfl)
      (try simp only [Act.put, List.setIfInBounds_toArray, List.set_cons_zero, List.set_cons_succ])
      refine takeL (i := 6) (v := ?_) rfl (by kernel_rfl) (by kernel_rfl) (by kernel_rfl) (fun _ _ _ h => h) (Or.inl ⟨by rfl, ?_⟩) (unhide HH) ?_
      rotate_left 1
      · intro W hSW; go_simp; all_goals (with_reducible rfl)
      (try simp only [Act.put, List.setIfInBounds_toArray, List.set_cons_zero, List.set_cons_succ])
      refine takeL (i := 7) (v := ?_) rfl (by kernel_rfl) (by kernel_rfl) (by kernel_rfl) (fun _ _ _ h => h) (Or.inl ⟨by rfl, ?_⟩) (unhide HH) ?_
      rotate_left 1
      · intro W hSW; go_simp; all_goals (with_reducible rfl)
      (try simp only [Act.put, List.setIfInBounds_toArray, List.set_cons_zero, List.set_cons_succ])
      refine takeL (i := 10) (v := ?_) rfl (by kernel_rfl) (by kernel_rfl) (by kernel_rfl) (fun _ _ _ h => h) (Or.inl ⟨by rfl, ?_⟩) (unhide HH) ?_
      rotate_left 1
      · intro W hSW; go_simp; all_goals (with_reducible rfl)
      (try simp only [Act.put, List.setIfInBounds_toArray, List.set_cons_zero, List.set_cons_succ])
      refine wpAnyH_ready (rs := [8]) (by kernel_rfl) (by simp) ?_
      refine consL rfl (fun K hK => ?_) AllReadyH.nil
      go_simp
      refine (encode_not _ _ rw0 _ (unhide HB) (unhide H24)).mono ?_
      rintro e w6 ⟨rfl, hwk⟩
      have hk : Below w5.heap.size w5 w6 := by rw [hwk]; exact Below.refl _ _
      clear hwk
      replace HA := hide ((unhide HA).below hk)
      replace HB := hide ((unhide HB).below hk)
      replace HA2 := hide ((unhide HA2).below hk)
      replace HA3 := hide ((unhide HA3).below hk)
      replace HA5 := hide ((unhide HA5).below hk)
      replace HT := hide ((unhide HT).trans (hk.mono (unhide HT).size))
      have HA6 : Hid (Arg w6 (.slice none 0 0) 0 []) := ⟨⟨none, 0, rfl, by simp, by simp, fun _ => rfl, .inl rfl⟩, Bs.nil⟩
      go_wp2_with fail
      refine hK.out _ _ hk (fun hHeld => ?_)
      clear hK K HH hHeld
      (try simp only [Act.put, List.setIfInBounds_toArray, List.set_cons_zero, List.set_cons_succ])
      refine stronger (S' := fun W => Below w6.heap.size w6 W) (fun W h => hk.trans (h.mono hk.size)) _ _ _ _ ?_
      have HH : Hid (Below w6.heap.size w6 w6) := Below.refl _ _
      clear hk
      refine takeL (i := 9) (v := ?_) rfl (by kernel_rfl) (by kernel_rfl) (by kernel_rfl) (fun _ _ _ h => h) (Or.inl ⟨by rfl, ?_⟩) (unhide HH) ?_
      rotate_left 1
      · intro W1 hSW; have hcv := conv_arg ((unhide HA6).below hSW); clear hSW; go_simp; all_goals (with_reducible rfl)
      (try simp only [Act.put, List.setIfInBounds_toArray, List.set_cons_zero, List.set_cons_succ])
      refine wpAnyH_ready (rs := [11]) (by kernel_rfl) (by simp) ?_
      refine consL rfl (fun K hK => ?_) AllReadyH.nil
      go_simp
      refine (rencode_not _ _ rw0 _ (unhide HB) (unhide H24)).mono ?_
      rintro e w7 ⟨rfl, hwk⟩
      have hk : Below w6.heap.size w6 w7 := by rw [hwk]; exact Below.refl _ _
      clear hwk
      replace HA := hide ((unhide HA).below hk)
      replace HB := hide ((unhide HB).below hk)
      replace HA2 := hide ((unhide HA2).below hk)
      replace HA3 := hide ((unhide HA3).below hk)
      replace HA5 := hide ((unhide HA5).below hk)
      replace HA6 := hide ((unhide HA6).below hk)
      replace HT := hide ((unhide HT).trans (hk.mono (unhide HT).size))
      have HA7 : Hid (Arg w7 (.slice none 0 0) 0 []) := ⟨⟨none, 0, rfl, by simp, by simp, fun _ => rfl, .inl rfl⟩, Bs.nil⟩
      go_wp2_with fail
      refine hK.out _ _ hk (fun hHeld => ?_)
      clear hK K HH hHeld
      (try simp only [Act.put, List.setIfInBounds_toArray, List.set_cons_zero, List.set_cons_succ])
      refine stronger (S' := fun W => Below w7.heap.size w7 W) (fun W h => hk.trans (h.mono hk.size)) _ _ _ _ ?_
      have HH : Hid (Below w7.heap.size w7 w7) := Below.refl _ _
      clear hk
      refine takeL (i := 12) (v := ?_) rfl (by kernel_rfl) (by kernel_rfl) (by kernel_rfl) (fun _ _ _ h => h) (Or.inl ⟨by rfl, ?_⟩) (unhide HH) ?_
      rotate_left 1
      · intro W1 hSW; have hcv := conv_arg ((unhide HA7).below hSW); clear hSW; go_simp; all_goals (with_reducible rfl)
      (try simp only [Act.put, List.setIfInBounds_toArray, List.set_cons_zero, List.set_cons_succ])
      refine takeL (i := 13) (v := ?_) rfl (by kernel_rfl) (by kernel_rfl) (by kernel_rfl) (fun _ _ _ h => h) (Or.inl ⟨by rfl, ?_⟩) (unhide HH) ?_
      rotate_left 1
      · intro W hSW; go_simp; all_goals (with_reducible rfl)
      (try simp only [Act.put, List.setIfInBounds_toArray, List.set_cons_zero, List.set_cons_succ])
      refine takeL (i := 14) (v := ?_) rfl (by kernel_rfl) (by kernel_rfl) (by kernel_rfl) (fun _ _ _ h => h) (Or.inl ⟨by rfl, ?_⟩) (unhide HH) ?_
      rotate_left 1
      · intro W hSW; go_simp; all_goals (with_reducible rfl)
      (try simp only [Act.put, List.setIfInBounds_toArray, List.set_cons_zero, List.set_cons_succ])
      refine takeL (i := 15) (v := ?_) rfl (by kernel_rfl) (by kernel_rfl) (by kernel_rfl) (fun _ _ _ h => h) (Or.inl ⟨by rfl, ?_⟩) (unhide HH) ?_
      rotate_left 1
      · intro W hSW; go_simp; all_goals (with_reducible rfl)
      (try simp only [Act.put, List.setIfInBounds_toArray, List.set_cons_zero, List.set_cons_succ])
      refine wpAnyH_ready (rs := [16]) (by kernel_rfl) (by simp) ?_
      refine consL rfl (fun K hK => ?_) AllReadyH.nil
      go_simp
      refine (generator_any _).mono ?_
      rintro e w8 ⟨v8, rfl, hF, hk⟩
      replace HA := hide ((unhide HA).below hk)
      replace HB := hide ((unhide HB).below hk)
      replace HA2 := hide ((unhide HA2).below hk)
      replace HA3 := hide ((unhide HA3).below hk)
      replace HA5 := hide ((unhide HA5).below hk)
      replace HA6 := hide ((unhide HA6).below hk)
      replace HA7 := hide ((unhide HA7).below hk)
      replace HT := hide ((unhide HT).trans (hk.mono (unhide HT).size))
      obtain ⟨g8, hA, hge⟩ := hF.arg genP_bin.bs
      obtain ⟨⟨ao8, c8, rfl, h1, h2, h3, h4⟩, _⟩ := hA
      have HA8 : Hid (Arg w8 (.slice ao8 33 c8) g8 (genP)) := ⟨⟨ao8, c8, by rw [genP_facts.1], h1, h2, h3, h4⟩, genP_bin.bs⟩
      rw [show (genP).length = 33 from genP_facts.1]
      clear h1 h2 h3 h4 hF hge
      go_wp2_with fail
      refine hK.out _ _ hk (fun hHeld => ?_)
      clear hK K HH hHeld
      (try simp only [Act.put, List.setIfInBounds_toArray, List.set_cons_zero, List.set_cons_succ])
      refine stronger (S' := fun W => Below w8.heap.size w8 W) (fun W h => hk.trans (h.mono hk.size)) _ _ _ _ ?_
      have HH : Hid (Below w8.heap.size w8 w8) := Below.refl _ _
      clear hk
      refine takeL (i := 17) (v := ?_) rfl (by kernel_rfl) (by kernel_rfl) (by kernel_rfl) (fun _ _ _ h => h) (Or.inl ⟨by rfl, ?_⟩) (unhide HH) ?_
      rotate_left 1
      · intro W1 hSW; have hcv := conv_arg ((unhide HA8).below hSW); clear hSW; go_simp; all_goals (with_reducible rfl)
      (try simp only [Act.put, List.setIfInBounds_toArray, List.set_cons_zero, List.set_cons_succ])
      refine wpAnyH_ready (rs := [18]) (by kernel_rfl) (by simp) ?_
      refine consL rfl (fun K hK => ?_) AllReadyH.nil
      go_simp
      refine (rgen_any _).mono ?_
      rintro e w9 ⟨v9, rfl, hF, hk⟩
      replace HA := hide ((unhide HA).below hk)
      replace HB := hide ((unhide HB).below hk)
      replace HA2 := hide ((unhide HA2).below hk)
      replace HA3 := hide ((unhide HA3).below hk)
      replace HA5 := hide ((unhide HA5).below hk)
      replace HA6 := hide ((unhide HA6).below hk)
      replace HA7 := hide ((unhide HA7).below hk)
      replace HA8 := hide ((unhide HA8).below hk)
      replace HT := hide ((unhide HT).trans (hk.mono (unhide HT).size))
      obtain ⟨g9, hA, hge⟩ := hF.arg genP_bin.bs
      obtain ⟨⟨ao9, c9, rfl, h1, h2, h3, h4⟩, _⟩ := hA
      have HA9 : Hid (Arg w9 (.slice ao9 33 c9) g9 (genP)) := ⟨⟨ao9, c9, by rw [genP_facts.1], h1, h2, h3, h4⟩, genP_bin.bs⟩
      rw [show (genP).length = 33 from genP_facts.1]
      clear h1 h2 h3 h4 hF hge
      go_wp2_with fail
      refine hK.out _ _ hk (fun hHeld => ?_)
      clear hK K HH hHeld
      (try simp only [Act.put, List.setIfInBounds_toArray, List.set_cons_zero, List.set_cons_succ])
      refine stronger (S' := fun W => Below w9.heap.size w9 W) (fun W h => hk.trans (h.mono hk.size)) _ _ _ _ ?_
      have HH : Hid (Below w9.heap.size w9 w9) := Below.refl _ _
      clear hk
      refine takeL (i := 19) (v := ?_) rfl (by kernel_rfl) (by kernel_rfl) (by kernel_rfl) (fun _ _ _ h => h) (Or.inl ⟨by rfl, ?_⟩) (unhide HH) ?_
      rotate_left 1
      · intro W1 hSW; have hcv := conv_arg ((unhide HA9).below hSW); clear hSW; go_simp; all_goals (with_reducible rfl)
      (try simp only [Act.put, List.setIfInBounds_toArray, List.set_cons_zero, List.set_cons_succ])
      refine takeL (i := 20) (v := ?_) rfl (by kernel_rfl) (by kernel_rfl) (by kernel_rfl) (fun _ _ _ h => h) (Or.inl ⟨by rfl, ?_⟩) (unhide HH) ?_
      rotate_left 1
      · intro W hSW; go_simp; all_goals (with_reducible rfl)
      (try simp only [Act.put, List.setIfInBounds_toArray, List.set_cons_zero, List.set_cons_succ])
      refine takeL (i := 21) (v := ?_) rfl (by kernel_rfl) (by kernel_rfl) (by kernel_rfl) (fun _ _ _ h => h) (Or.inl ⟨by rfl, ?_⟩) (unhide HH) ?_
      rotate_left 1
      · intro W hSW; go_simp; all_goals (with_reducible rfl)
      (try simp only [Act.put, List.setIfInBounds_toArray, List.set_cons_zero, List.set_cons_succ])
      refine wpAnyH_done (by kernel_rfl) ?_ _
      refine NoPanic.normal ?_
      go_wp2_with fail
      obtain ⟨oE, eE, cE⟩ := (unhide HA3).cells (ne_len (encF_len hld))
      cases eE
      have hcut : ∀ W : World, Arg W (.slice (some ⟨g3, oE, none⟩) 28 c3) g3 (encF d) → Arg W (.slice (some ⟨g3, oE + 4, none⟩) 24 (c3 - 4)) g3 d := fun W h => by
        obtain ⟨⟨ao', c', h1, h2, h3, h4, h5⟩, hb⟩ := h
        rw [encF_len hld] at h1 h2
        cases h1
        refine ⟨⟨some ⟨g3, oE + 4, none⟩, c3 - 4, by rw [hld], by omega, by omega, (fun h => by cases h), row_sub (s := encF d) (k := 4) (fun j hj => ⟨by rw [encF_len hld]; omega, ?_⟩) h5⟩, hbd⟩
        rw [← cf_drop, encF_drop hld hbd]
      have hc28 : 28 ≤ c3 := by
        obtain ⟨⟨ao', c', h1, h2, _⟩, _⟩ := unhide HA3
        rw [encF_len hld] at h1 h2
        cases h1
        exact h2
      have hc4 : ¬ c3 = 4 := by omega
      have HCUT := hide (hcut _ (unhide HA3))
      clear cE hcut
      replace HT := hide ((unhide HT).drew)
      replace HA := hide ((unhide HA).below (Below.refl _ _).drew)
      replace HB := hide ((unhide HB).below (Below.refl _ _).drew)
      replace HA2 := hide ((unhide HA2).below (Below.refl _ _).drew)
      replace HA3 := hide ((unhide HA3).below (Below.refl _ _).drew)
      replace HA5 := hide ((unhide HA5).below (Below.refl _ _).drew)
      replace HA6 := hide ((unhide HA6).below (Below.refl _ _).drew)
      replace HA7 := hide ((unhide HA7).below (Below.refl _ _).drew)
      replace HA8 := hide ((unhide HA8).below (Below.refl _ _).drew)
      replace HA9 := hide ((unhide HA9).below (Below.refl _ _).drew)
      replace HCUT := hide ((unhide HCUT).below (Below.refl _ _).drew)
      refine wp_region_noPanic ?_
      refine wp_region_held_drew (S := fun W => Below w9.drew.heap.size w9.drew W) (by kernel_rfl) (Below.refl _ _) (fun hHeld => ?_)
      have HH := hide hHeld
      clear hHeld
      generalize w9.drew = w10 at HT HA HB HA2 HA3 HA5 HA6 HA7 HA8 HA9 HCUT HH ⊢
      refine takeL (i := 0) (v := ?_) rfl (by kernel_rfl) (by kernel_rfl) (by kernel_rfl) (fun _ _ _ h => h) (Or.inl ⟨by rfl, ?_⟩) (unhide HH) ?_
      rotate_left 1
      · intro W hSW; go_simp; all_goals (with_reducible rfl)
      (try simp only [Act.put, List.setIfInBounds_toArray, List.set_cons_zero, List.set_cons_succ])
      refine wpAnyH_ready (rs := [1, 3]) (by kernel_rfl) (by simp) ?_
      refine consL rfl (fun K hK => ?_) (consL rfl (fun K hK => ?_) AllReadyH.nil)
      focus
        go_simp
        refine (syndromes_any _ _ (encF d) _ (unhide HA3) (encF_len hld)).mono ?_
        rintro e w11 ⟨v11, rfl, hF, hk⟩
        rw [zeros8 (encF_is hbd hld).code] at hF
        replace HA := hide ((unhide HA).below hk)
        replace HB := hide ((unhide HB).below hk)
        replace HA2 := hide ((unhide HA2).below hk)
        replace HA3 := hide ((unhide HA3).below hk)
        replace HA5 := hide ((unhide HA5).below hk)
        replace HA6 := hide ((unhide HA6).below hk)
        replace HA7 := hide ((unhide HA7).below hk)
        replace HA8 := hide ((unhide HA8).below hk)
        replace HA9 := hide ((unhide HA9).below hk)
        replace HCUT := hide ((unhide HCUT).below hk)
        replace HT := hide ((unhide HT).trans (hk.mono (unhide HT).size))
        obtain ⟨g11, hA, hge⟩ := hF.arg (Bs.zeros 8)
        obtain ⟨⟨ao11, c11, rfl, h1, h2, h3, h4⟩, _⟩ := hA
        have HA11 : Hid (Arg w11 (.slice ao11 8 c11) g11 (List.replicate 8 0)) := ⟨⟨ao11, c11, by rw [List.length_replicate], h1, h2, h3, h4⟩, (Bs.zeros 8)⟩
        rw [show (List.replicate 8 0).length = 8 from List.length_replicate]
        clear h1 h2 h3 h4 hF hge
        go_wp2_with fail
        refine hK.out _ _ hk (fun hHeld => ?_)
        clear hK K HH hHeld
        (try simp only [Act.put, List.setIfInBounds_toArray, List.set_cons_zero, List.set_cons_succ])
        refine stronger (S' := fun W => Below w11.heap.size w11 W) (fun W h => hk.trans (h.mono hk.size)) _ _ _ _ ?_
        have HH : Hid (Below w11.heap.size w11 w11) := Below.refl _ _
        clear hk
        refine takeL (i := 2) (v := ?_) rfl (by kernel_rfl) (by kernel_rfl) (by kernel_rfl) (fun _ _ _ h => h) (Or.inl ⟨by rfl, ?_⟩) (unhide HH) ?_
        rotate_left 1
        · intro W1 hSW; have hcv := conv_arg ((unhide HA11).below hSW); clear hSW; go_simp; all_goals (with_reducible rfl)
        (try simp only [Act.put, List.setIfInBounds_toArray, List.set_cons_zero, List.set_cons_succ])
        refine wpAnyH_ready (rs := [3]) (by kernel_rfl) (by simp) ?_
        refine consL rfl (fun K hK => ?_) AllReadyH.nil
        go_simp
        have hk : Below w11.heap.size w11 (w11.alloc (.cells z8 5)) := (Below.refl _ _).alloc (Nat.le_refl _) _
        have hA := unhide HZ8 w11
        generalize w11.alloc (.cells z8 5) = w12 at hk hA  ⊢
        replace HA := hide ((unhide HA).below hk)
        replace HB := hide ((unhide HB).below hk)
        replace HA2 := hide ((unhide HA2).below hk)
        replace HA3 := hide ((unhide HA3).below hk)
        replace HA5 := hide ((unhide HA5).below hk)
        replace HA6 := hide ((unhide HA6).below hk)
        replace HA7 := hide ((unhide HA7).below hk)
        replace HA8 := hide ((unhide HA8).below hk)
        replace HA9 := hide ((unhide HA9).below hk)
        replace HCUT := hide ((unhide HCUT).below hk)
        replace HA11 := hide ((unhide HA11).below hk)
        replace HT := hide ((unhide HT).trans (hk.mono (unhide HT).size))
        have HA12 := hide hA
        clear hA
        refine hK.out _ _ hk (fun hHeld => ?_)
        clear hK K HH hHeld
        (try simp only [Act.put, List.setIfInBounds_toArray, List.set_cons_zero, List.set_cons_succ])
        refine stronger (S' := fun W => Below w12.heap.size w12 W) (fun W h => hk.trans (h.mono hk.size)) _ _ _ _ ?_
        have HH : Hid (Below w12.heap.size w12 w12) := Below.refl _ _
        clear hk
        refine takeL (i := 4) (v := ?_) rfl (by kernel_rfl) (by kernel_rfl) (by kernel_rfl) (fun _ _ _ h => h) (Or.inl ⟨by rfl, ?_⟩) (unhide HH) ?_
        rotate_left 1
        · intro W1 hSW; have hcv := conv_arg ((unhide HA12).below hSW); clear hSW; go_simp; all_goals (with_reducible rfl)
        (try simp only [Act.put, List.setIfInBounds_toArray, List.set_cons_zero, List.set_cons_succ])
        refine takeL (i := 5) (v := ?_) rfl (by kernel_rfl) (by kernel_rfl) (by kernel_rfl) (fun _ _ _ h => h) (Or.inl ⟨by rfl, ?_⟩) (unhide HH) ?_
        rotate_left 1
        · intro W hSW; go_simp; all_goals (with_reducible rfl)
        (try simp only [Act.put, List.setIfInBounds_toArray, List.set_cons_zero, List.set_cons_succ])
        refine takeL (i := 6) (v := ?_) rfl (by kernel_rfl) (by kernel_rfl) (by kernel_rfl) (fun _ _ _ h => h) (Or.inl ⟨by rfl, ?_⟩) (unhide HH) ?_
        rotate_left 1
        · intro W hSW; go_simp; all_goals (with_reducible rfl)
        (try simp only [Act.put, List.setIfInBounds_toArray, List.set_cons_zero, List.set_cons_succ])
        refine takeL (i := 7) (v := ?_) rfl (by kernel_rfl) (by kernel_rfl) (by kernel_rfl) (fun _ _ _ h => h) (Or.inl ⟨by rfl, ?_⟩) (unhide HH) ?_
        rotate_left 1
        · intro W hSW; go_simp; all_goals (with_reducible rfl)
        (try simp only [Act.put, List.setIfInBounds_toArray, List.set_cons_zero, List.set_cons_succ])
        refine takeL (i := 8) (v := ?_) rfl (by kernel_rfl) (by kernel_rfl) (by kernel_rfl) (fun _ _ _ h => h) (Or.inl ⟨by rfl, ?_⟩) (unhide HH) ?_
        rotate_left 1
        · intro W hSW; go_simp; all_goals (with_reducible rfl)
        (try simp only [Act.put, List.setIfInBounds_toArray, List.set_cons_zero, List.set_cons_succ])
        refine takeL (i := 9) (v := ?_) rfl (by kernel_rfl) (by kernel_rfl) (by kernel_rfl) (fun _ _ _ h => h) (Or.inl ⟨by rfl, ?_⟩) (unhide HH) ?_
        rotate_left 1
        · intro W1 hSW; have hcv := conv_arg ((unhide HCUT).below hSW); clear hSW; go_simp; all_goals (with_reducible rfl)
        (try simp only [Act.put, List.setIfInBounds_toArray, List.set_cons_zero, List.set_cons_succ])
        refine takeL (i := 10) (v := ?_) rfl (by kernel_rfl) (by kernel_rfl) (by kernel_rfl) (fun _ _ _ h => h) (Or.inl ⟨by rfl, ?_⟩) (unhide HH) ?_
        rotate_left 1
        · intro W hSW; go_simp; all_goals (with_reducible rfl)
        (try simp only [Act.put, List.setIfInBounds_toArray, List.set_cons_zero, List.set_cons_succ])
        refine takeL (i := 11) (v := ?_) rfl (by kernel_rfl) (by kernel_rfl) (by kernel_rfl) (fun _ _ _ h => h) (Or.inl ⟨by rfl, ?_⟩) (unhide HH) ?_
        rotate_left 1
        · intro W1 hSW; have hcv := conv_arg ((unhide HA2).below hSW); clear hSW; go_simp; all_goals (with_reducible rfl)
        (try simp only [Act.put, List.setIfInBounds_toArray, List.set_cons_zero, List.set_cons_succ])
        refine takeL (i := 12) (v := ?_) rfl (by kernel_rfl) (by kernel_rfl) (by kernel_rfl) (fun _ _ _ h => h) (Or.inl ⟨by rfl, ?_⟩) (unhide HH) ?_
        rotate_left 1
        · intro W hSW; go_simp; all_goals (with_reducible rfl)
        (try simp only [Act.put, List.setIfInBounds_toArray, List.set_cons_zero, List.set_cons_succ])
        refine takeL (i := 13) (v := ?_) rfl (by kernel_rfl) (by kernel_rfl) (by kernel_rfl) (fun _ _ _ h => h) (Or.inl ⟨by rfl, ?_⟩) (unhide HH) ?_
        rotate_left 1
        · intro W hSW; go_simp; all_goals (with_reducible rfl)
        (try simp only [Act.put, List.setIfInBounds_toArray, List.set_cons_zero, List.set_cons_succ])
        refine takeL (i := 14) (v := ?_) rfl (by kernel_rfl) (by kernel_rfl) (by kernel_rfl) (fun _ _ _ h => h) (Or.inl ⟨by rfl, ?_⟩) (unhide HH) ?_
        rotate_left 1
        · intro W hSW; go_simp; all_goals (with_reducible rfl)
        (try simp only [Act.put, List.setIfInBounds_toArray, List.set_cons_zero, List.set_cons_succ])
        refine wpAnyH_done (by kernel_rfl) ?_ _
        refine NoPanic.normal ?_
        go_wp2
        go_ret
        exact ⟨rfl, unhide HT⟩
      focus
        go_simp
        have hk : Below w10.heap.size w10 (w10.alloc (.cells z8 5)) := (Below.refl _ _).alloc (Nat.le_refl _) _
        have hA := unhide HZ8 w10
        generalize w10.alloc (.cells z8 5) = w11 at hk hA  ⊢
        replace HA := hide ((unhide HA).below hk)
        replace HB := hide ((unhide HB).below hk)
        replace HA2 := hide ((unhide HA2).below hk)
        replace HA3 := hide ((unhide HA3).below hk)
        replace HA5 := hide ((unhide HA5).below hk)
        replace HA6 := hide ((unhide HA6).below hk)
        replace HA7 := hide ((unhide HA7).below hk)
        replace HA8 := hide ((unhide HA8).below hk)
        replace HA9 := hide ((unhide HA9).below hk)
        replace HCUT := hide ((unhide HCUT).below hk)
        replace HT := hide ((unhide HT).trans (hk.mono (unhide HT).size))
        have HA11 := hide hA
        clear hA
        refine hK.out _ _ hk (fun hHeld => ?_)
        clear hK K HH hHeld
        (try simp only [Act.put, List.setIfInBounds_toArray, List.set_cons_zero, List.set_cons_succ])
        refine stronger (S' := fun W => Below w11.heap.size w11 W) (fun W h => hk.trans (h.mono hk.size)) _ _ _ _ ?_
        have HH : Hid (Below w11.heap.size w11 w11) := Below.refl _ _
        clear hk
        refine takeL (i := 4) (v := ?_) rfl (by kernel_rfl) (by kernel_rfl) (by kernel_rfl) (fun _ _ _ h => h) (Or.inl ⟨by rfl, ?_⟩) (unhide HH) ?_
        rotate_left 1
        · intro W1 hSW; have hcv := conv_arg ((unhide HA11).below hSW); clear hSW; go_simp; all_goals (with_reducible rfl)
        (try simp only [Act.put, List.setIfInBounds_toArray, List.set_cons_zero, List.set_cons_succ])
        refine wpAnyH_ready (rs := [1]) (by kernel_rfl) (by simp) ?_
        refine consL rfl (fun K hK => ?_) AllReadyH.nil
        go_simp
        refine (syndromes_any _ _ (encF d) _ (unhide HA3) (encF_len hld)).mono ?_
        rintro e w12 ⟨v12, rfl, hF, hk⟩
        rw [zeros8 (encF_is hbd hld).code] at hF
        replace HA := hide ((unhide HA).below hk)
        replace HB := hide ((unhide HB).below hk)
        replace HA2 := hide ((unhide HA2).below hk)
        replace HA3 := hide ((unhide HA3).below hk)
        replace HA5 := hide ((unhide HA5).below hk)
        replace HA6 := hide ((unhide HA6).below hk)
        replace HA7 := hide ((unhide HA7).below hk)
        replace HA8 := hide ((unhide HA8).below hk)
        replace HA9 := hide ((unhide HA9).below hk)
        replace HCUT := hide ((unhide HCUT).below hk)
        replace HA11 := hide ((unhide HA11).below hk)
        replace HT := hide ((unhide HT).trans (hk.mono (unhide HT).size))
        obtain ⟨g12, hA, hge⟩ := hF.arg (Bs.zeros 8)
        obtain ⟨⟨ao12, c12, rfl, h1, h2, h3, h4⟩, _⟩ := hA
        have HA12 : Hid (Arg w12 (.slice ao12 8 c12) g12 (List.replicate 8 0)) := ⟨⟨ao12, c12, by rw [List.length_replicate], h1, h2, h3, h4⟩, (Bs.zeros 8)⟩
        rw [show (List.replicate 8 0).length = 8 from List.length_replicate]
        clear h1 h2 h3 h4 hF hge
        go_wp2_with fail
        refine hK.out _ _ hk (fun hHeld => ?_)
        clear hK K HH hHeld
        (try simp only [Act.put, List.setIfInBounds_toArray, List.set_cons_zero, List.set_cons_succ])
        refine stronger (S' := fun W => Below w12.heap.size w12 W) (fun W h => hk.trans (h.mono hk.size)) _ _ _ _ ?_
        have HH : Hid (Below w12.heap.size w12 w12) := Below.refl _ _
        clear hk
        refine takeL (i := 2) (v := ?_) rfl (by kernel_rfl) (by kernel_rfl) (by kernel_rfl) (fun _ _ _ h => h) (Or.inl ⟨by rfl, ?_⟩) (unhide HH) ?_
        rotate_left 1
        · intro W1 hSW; have hcv := conv_arg ((unhide HA12).below hSW); clear hSW; go_simp; all_goals (with_reducible rfl)
        (try simp only [Act.put, List.setIfInBounds_toArray, List.set_cons_zero, List.set_cons_succ])
        refine takeL (i := 5) (v := ?_) rfl (by kernel_rfl) (by kernel_rfl) (by kernel_rfl) (fun _ _ _ h => h) (Or.inl ⟨by rfl, ?_⟩) (unhide HH) ?_
        rotate_left 1
        · intro W hSW; go_simp; all_goals (with_reducible rfl)
        (try simp only [Act.put, List.setIfInBounds_toArray, List.set_cons_zero, List.set_cons_succ])
        refine takeL (i := 6) (v := ?_) rfl (by kernel_rfl) (by kernel_rfl) (by kernel_rfl) (fun _ _ _ h => h) (Or.inl ⟨by rfl, ?_⟩) (unhide HH) ?_
        rotate_left 1
        · intro W hSW; go_simp; all_goals (with_reducible rfl)
        (try simp only [Act.put, List.setIfInBounds_toArray, List.set_cons_zero, List.set_cons_succ])
        refine takeL (i := 7) (v := ?_) rfl (by kernel_rfl) (by kernel_rfl) (by kernel_rfl) (fun _ _ _ h => h) (Or.inl ⟨by rfl, ?_⟩) (unhide HH) ?_
        rotate_left 1
        · intro W hSW; go_simp; all_goals (with_reducible rfl)
        (try simp only [Act.put, List.setIfInBounds_toArray, List.set_cons_zero, List.set_cons_succ])
        refine takeL (i := 8) (v := ?_) rfl (by kernel_rfl) (by kernel_rfl) (by kernel_rfl) (fun _ _ _ h => h) (Or.inl ⟨by rfl, ?_⟩) (unhide HH) ?_
        rotate_left 1
        · intro W hSW; go_simp; all_goals (with_reducible rfl)
        (try simp only [Act.put, List.setIfInBounds_toArray, List.set_cons_zero, List.set_cons_succ])
        refine takeL (i := 9) (v := ?_) rfl (by kernel_rfl) (by kernel_rfl) (by kernel_rfl) (fun _ _ _ h => h) (Or.inl ⟨by rfl, ?_⟩) (unhide HH) ?_
        rotate_left 1
        · intro W1 hSW; have hcv := conv_arg ((unhide HCUT).below hSW); clear hSW; go_simp; all_goals (with_reducible rfl)
        (try simp only [Act.put, List.setIfInBounds_toArray, List.set_cons_zero, List.set_cons_succ])
        refine takeL (i := 10) (v := ?_) rfl (by kernel_rfl) (by kernel_rfl) (by kernel_rfl) (fun _ _ _ h => h) (Or.inl ⟨by rfl, ?_⟩) (unhide HH) ?_
        rotate_left 1
        · intro W hSW; go_simp; all_goals (with_reducible rfl)
        (try simp only [Act.put, List.setIfInBounds_toArray, List.set_cons_zero, List.set_cons_succ])
        refine takeL (i := 11) (v := ?_) rfl (by kernel_rfl) (by kernel_rfl) (by kernel_rfl) (fun _ _ _ h => h) (Or.inl ⟨by rfl, ?_⟩) (unhide HH) ?_
        rotate_left 1
        · intro W1 hSW; have hcv := conv_arg ((unhide HA2).below hSW); clear hSW; go_simp; all_goals (with_reducible rfl)
        (try simp only [Act.put, List.setIfInBounds_toArray, List.set_cons_zero, List.set_cons_succ])
        refine takeL (i := 12) (v := ?_) rfl (by kernel_rfl) (by kernel_rfl) (by kernel_rfl) (fun _ _ _ h => h) (Or.inl ⟨by rfl, ?_⟩) (unhide HH) ?_
        rotate_left 1
        · intro W hSW; go_simp; all_goals (with_reducible rfl)
        (try simp only [Act.put, List.setIfInBounds_toArray, List.set_cons_zero, List.set_cons_succ])
        refine takeL (i := 13) (v := ?_) rfl (by kernel_rfl) (by kernel_rfl) (by kernel_rfl) (fun _ _ _ h => h) (Or.inl ⟨by rfl, ?_⟩) (unhide HH) ?_
        rotate_left 1
        · intro W hSW; go_simp; all_goals (with_reducible rfl)
        (try simp only [Act.put, List.setIfInBounds_toArray, List.set_cons_zero, List.set_cons_succ])
        refine takeL (i := 14) (v := ?_) rfl (by kernel_rfl) (by kernel_rfl) (by kernel_rfl) (fun _ _ _ h => h) (Or.inl ⟨by rfl, ?_⟩) (unhide HH) ?_
        rotate_left 1
        · intro W hSW; go_simp; all_goals (with_reducible rfl)
        (try simp only [Act.put, List.setIfInBounds_toArray, List.set_cons_zero, List.set_cons_succ])
        refine wpAnyH_done (by kernel_rfl) ?_ _
        refine NoPanic.normal ?_
        go_wp2
        go_ret
        exact ⟨rfl, unhide HT⟩

end Go.Proofs.Ytahjcahmlangiaa
