/-
  The walk of BchDecodes.
-/
import Derived.Test.YtahjcahmlangiaaLp
import Derived.Test.YtahjcahmlangiaaHp
import Derived.Test.YtahjcahmlangiaaHa
import Derived.Test.YtahjcahmlangiaaR4h
namespace Go.Proofs.Ytahjcahmlangiaa
open Go.RowKit

theorem both_told {t : List Nat} (hl : t.length = 28) (hb : Bs t) {l : List Nat} (hg : Good (syn t) l) (h3 : l.length ≤ 3) : restF (mend t) = 0 ∧ flips t l = mend t ∧ l.length = (found (restF t)).length := by
  obtain ⟨f1, f2⟩ := found_told hl hb
  by_cases hz : restF (mend t) = 0
  · rcases Told.once hl hb (.near l hg h3) (f1 hz) with ⟨h, _⟩ | ⟨a, b, ha, hb', h1, h2⟩
    · cases h
    · cases ha
      cases hb'
      exact ⟨hz, h1, h2⟩
  · rcases Told.once hl hb (.near l hg h3) (f2 hz) with ⟨h, _⟩ | ⟨a, b, ha, hb', h1, h2⟩
    · cases h
    · cases hb'
theorem told_far {t : List Nat} (hl : t.length = 28) (hb : Bs t) (hf : ∀ l, Good (syn t) l → 4 ≤ l.length) : restF (mend t) ≠ 0 := by
  intro hz
  obtain ⟨f1, f2⟩ := found_told hl hb
  rcases Told.once hl hb (.far hf) (f1 hz) with ⟨_, h⟩ | ⟨a, b, ha, hb', h1, h2⟩
  · cases h
  · cases ha
theorem mend_diff {t : List Nat} (hl : t.length = 28) : (diff (mend t) t).length = (found (restF t)).length := by
  rw [← diff_mend hl]
  unfold diff
  rw [eq_of_cf (p := padd (mend t) t) (q := padd t (mend t)) (by rw [padd_len (by rw [mend_len]), padd_len (by rw [mend_len]), mend_len]) (fun i => by rw [cf_padd, cf_padd, Nat.xor_comm])]

theorem nil_arg (w : World) : Arg w (.slice none 0 0) 0 [] := ⟨⟨none, 0, rfl, by simp, by simp, fun _ => rfl, .inl rfl⟩, Bs.nil⟩

set_option maxRecDepth 100000 in
set_option maxHeartbeats 8000000 in
theorem decs_walk (va vb : Value) (ga gb : Nat) (b rw0 : List Nat) (w : World) (hA : Arg w va ga b) (hB : Arg w vb gb rw0) (ao1 : Option Addr) (g1 len1 cap1 : Nat) (zs : List Int) (hz1 : zs.length = len1) (hr1 : IRow w ao1 g1 zs) (hcp1 : len1 ≤ cap1) (hm1 : cap1 ≤ maxLen) (hbo1 : ∀ z ∈ zs, -9223372036854775808 ≤ z ∧ z ≤ 9223372036854775807) :
    Calls Try.prog 6 #[va, .slice ao1 len1 cap1, vb] w fun x w' => x = .returned (.bool true) ∧ Below w.heap.size w w' := by
  have HA := hide hA
  have HB := hide hB
  have HL1 := hide hr1
  clear hr1
  obtain ⟨⟨ao, c, rfl, _⟩, _⟩ := hA
  obtain ⟨⟨bo, d2, rfl, hb1, hb2, _⟩, _⟩ := hB
  obtain ⟨i0, hi0, hs0, hs1, hs2⟩ := info_parts infoE
  have HI0 := hide hi0
  clear hi0
  by_cases hla : 40 < rw0.length
  · have hla' : (40 : Int) < (rw0.length : Int) := by omega
    go_enter Try.func6, Try.ntmps6
    go_wp2_with fail
    refine (known_any w).mono ?_
    rintro x w1 ⟨rfl, hk1⟩
    have HK1 := hide hk1
    clear hk1
    go_wp2
    go_ret
    exact ⟨rfl, unhide HK1⟩
  · have hla' : (rw0.length : Int) ≤ 40 := by omega
    have hbr : Bs rw0 := (unhide HB).bs
    have HT : Hid (Below w.heap.size w w) := Below.refl _ _
    go_enter Try.func6, Try.ntmps6
    go_wp2_with fail
    refine (known_any _).mono ?_
    rintro e w1 ⟨rfl, hk⟩
    replace HA := hide ((unhide HA).below hk)
    replace HB := hide ((unhide HB).below hk)
    replace HL1 := hide ((unhide HL1).below hk)
    replace HT := hide ((unhide HT).trans (hk.mono (unhide HT).size))
    clear hk
    go_wp2_with fail
    refine (data_any _ _ b 24 (by omega) _ (unhide HA)).mono ?_
    rintro e w2 ⟨v2, d, rfl, hld, hbd, hF, hk⟩
    replace HA := hide ((unhide HA).below hk)
    replace HB := hide ((unhide HB).below hk)
    replace HL1 := hide ((unhide HL1).below hk)
    replace HT := hide ((unhide HT).trans (hk.mono (unhide HT).size))
    obtain ⟨g2, hA, hge⟩ := hF.arg hbd
    obtain ⟨⟨ao2, c2, rfl, h1, h2, h3, h4⟩, _⟩ := hA
    have HA2 : Hid (Arg w2 (.slice ao2 24 c2) g2 (d)) := ⟨⟨ao2, c2, by rw [hld], h1, h2, h3, h4⟩, hbd⟩
    rw [show (d).length = 24 from hld]
    clear h1 h2 h3 h4 hF hge
    clear hk
    go_wp2_with fail
    refine (rencode_any _ _ (d) _ (unhide HA2) hld).mono ?_
    rintro e w3 ⟨v3, rfl, hF, hk⟩
    replace HA := hide ((unhide HA).below hk)
    replace HB := hide ((unhide HB).below hk)
    replace HL1 := hide ((unhide HL1).below hk)
    replace HA2 := hide ((unhide HA2).below hk)
    replace HT := hide ((unhide HT).trans (hk.mono (unhide HT).size))
    obtain ⟨g3, hA, hge⟩ := hF.arg (encF_bs hbd)
    obtain ⟨⟨ao3, c3, rfl, h1, h2, h3, h4⟩, _⟩ := hA
    have HA3 : Hid (Arg w3 (.slice ao3 28 c3) g3 (encF (d))) := ⟨⟨ao3, c3, by rw [(encF_len hld)], h1, h2, h3, h4⟩, (encF_bs hbd)⟩
    rw [show (encF (d)).length = 28 from (encF_len hld)]
    clear h1 h2 h3 h4 hF hge
    clear hk
    go_wp2_with fail
    refine (places_any ao1 g1 len1 cap1 zs hz1 (unhide HL1) hcp1 hm1 hbo1 9 (by omega)).mono ?_
    rintro e w4 ⟨v4, ps, rfl, hnd, hlt, hpl, hO, hk⟩
    replace HA := hide ((unhide HA).below hk)
    replace HB := hide ((unhide HB).below hk)
    replace HL1 := hide ((unhide HL1).below hk)
    replace HA2 := hide ((unhide HA2).below hk)
    replace HA3 := hide ((unhide HA3).below hk)
    replace HT := hide ((unhide HT).trans (hk.mono (unhide HT).size))
    have HPL : Hid (Pl ps) := ⟨hnd, hlt⟩
    obtain ⟨g4, hI, _⟩ := hO.arg
    obtain ⟨ao4, c4, rfl, h1, h2, h3, h4⟩ := hI
    have HPS : Hid (IArg w4 (.slice ao4 ps.length c4) g4 ps) := ⟨ao4, c4, rfl, h1, h2, h3, h4⟩
    clear h1 h2 h3 h4 hO hnd hlt
    clear hk
    go_wp2_with fail
    refine (flip_any _ _ _ _ (encF d) ps _ (unhide HA3) (unhide HPS) (encF_len hld) (unhide HPL).lt (by omega)).mono ?_
    rintro e w5 ⟨v5, rfl, hF, hk⟩
    replace HA := hide ((unhide HA).below hk)
    replace HB := hide ((unhide HB).below hk)
    replace HL1 := hide ((unhide HL1).below hk)
    replace HA2 := hide ((unhide HA2).below hk)
    replace HA3 := hide ((unhide HA3).below hk)
    replace HPS := hide ((unhide HPS).below hk)
    replace HT := hide ((unhide HT).trans (hk.mono (unhide HT).size))
    obtain ⟨fX, hfX⟩ : ∃ f, flips (encF d) ps = f := ⟨_, rfl⟩
    have hflX : fX.length = 28 := by rw [← hfX, flips_len]; exact (encF_len hld)
    have hfbX : Bs fX := by rw [← hfX]; exact flips_bs (encF_bs hbd) _
    rw [hfX] at hF
    have HFX := hide hfX
    clear hfX
    obtain ⟨g5, hA, hge⟩ := hF.arg hfbX
    obtain ⟨⟨ao5, c5, rfl, h1, h2, h3, h4⟩, _⟩ := hA
    have HA5 : Hid (Arg w5 (.slice ao5 28 c5) g5 (fX)) := ⟨⟨ao5, c5, by rw [hflX], h1, h2, h3, h4⟩, hfbX⟩
    rw [show (fX).length = 28 from hflX]
    clear h1 h2 h3 h4 hF hge
    clear hk
    go_wp2_with fail
    refine (data_any _ _ rw0 28 (by omega) _ (unhide HB)).mono ?_
    rintro e w6 ⟨v6, y, rfl, hly, hby, hF, hk⟩
    replace HA := hide ((unhide HA).below hk)
    replace HB := hide ((unhide HB).below hk)
    replace HL1 := hide ((unhide HL1).below hk)
    replace HA2 := hide ((unhide HA2).below hk)
    replace HA3 := hide ((unhide HA3).below hk)
    replace HPS := hide ((unhide HPS).below hk)
    replace HA5 := hide ((unhide HA5).below hk)
    replace HT := hide ((unhide HT).trans (hk.mono (unhide HT).size))
    obtain ⟨g6, hA, hge⟩ := hF.arg hby
    obtain ⟨⟨ao6, c6, rfl, h1, h2, h3, h4⟩, _⟩ := hA
    have HA6 : Hid (Arg w6 (.slice ao6 28 c6) g6 (y)) := ⟨⟨ao6, c6, by rw [hly], h1, h2, h3, h4⟩, hby⟩
    rw [show (y).length = 28 from hly]
    clear h1 h2 h3 h4 hF hge
    clear hk
    go_wp2_with fail
    have hk : Below w6.heap.size w6 (w6.alloc (.cells #[.slice ao5 28 c5, .slice ao6 28 c6, .slice bo rw0.length d2] 22)) := (Below.refl _ _).alloc (Nat.le_refl _) _
    have hin : ∀ i, i < 3 → ∃ ai n ci gi, ∃ t : List Nat, n = t.length ∧ (w6.alloc (.cells #[.slice ao5 28 c5, .slice ao6 28 c6, .slice bo rw0.length d2] 22)).cell? ⟨w6.heap.size, i, none⟩ = some (.slice ai n ci) ∧ Arg (w6.alloc (.cells #[.slice ao5 28 c5, .slice ao6 28 c6, .slice bo rw0.length d2] 22)) (.slice ai n ci) gi t ∧ n ≤ 40 := by
      intro i hi
      have h3 : i = 0 ∨ i = 1 ∨ i = 2 := by omega
      rcases h3 with rfl | rfl | rfl
      · exact ⟨ao5, 28, c5, g5, fX, hflX.symm, by simp only [World.cell?, World.alloc_heap_new]; rfl, (unhide HA5).below hk, by omega⟩
      · exact ⟨ao6, 28, c6, g6, y, hly.symm, by simp only [World.cell?, World.alloc_heap_new]; rfl, (unhide HA6).below hk, by omega⟩
      · exact ⟨bo, rw0.length, d2, gb, rw0, rfl, by simp only [World.cell?, World.alloc_heap_new]; rfl, (unhide HB).below hk, by omega⟩
    replace HT := hide ((unhide HT).trans (hk.mono (unhide HT).size))
    clear hk HA HB HL1 HPS HA2 HA3 HA5 HA6
    generalize w6.alloc (.cells #[.slice ao5 28 c5, .slice ao6 28 c6, .slice bo rw0.length d2] 22) = Win at HT hin ⊢
    obtain ⟨bI, hbI⟩ : ∃ x, w6.heap.size = x := ⟨_, rfl⟩
    rw [hbI] at hin ⊢
    clear hbI
    have HIN := hide hin
    clear hin
    go_loopw [8] (fun p wr => ∃ (i : Nat), p = .int .i64 (i : Int) ∧ i ≤ 3 ∧ Below Win.heap.size Win wr) (fun p _ => 3 - (intOf p).toNat)
    case atStart => exact ⟨0, rfl, by omega, Below.refl _ _⟩
    case round =>
      obtain ⟨i, rfl, hi, hnd⟩ := hrel
      have HND := hide hnd
      clear hnd
      by_cases hlt : i < 3
      · have hlt' : (i : Int) < 3 := by omega
        obtain ⟨ai, n, ci, gi, t, hn, hci, hAi, hn40⟩ := unhide HIN i hlt
        have hcl := block_lt_of_cell hci
        have HAi := hide (hAi.below (unhide HND))
        have HCI := hide hci
        have hci1 := ((unhide HND).cell hcl).trans hci
        obtain ⟨⟨ai', ci', e1, hi1, hi2, hi3, hi4⟩, hbt⟩ := hAi
        obtain ⟨e1a, e1b, e1c⟩ : ai = ai' ∧ n = t.length ∧ ci = ci' := by simpa using e1
        clear e1 e1b
        subst e1a
        subst e1c
        have hni : n ≤ ci := by rw [hn]; exact hi1
        have HNil := hide hi3
        have HN := hide hn
        have HRow := hide (hi4.below (unhide HND))
        have HO := hide (empty_owns' wr)
        have HK1 : Hid (Kp [] wr (wr.alloc (.cells #[] 5))) := (Kp.refl [] wr).alloc _
        have hci2 : (wr.alloc (.cells #[] 5)).cell? ⟨bI, i, none⟩ = some (.slice ai n ci) := (unhide HK1).cell hci1 (by simp)
        clear hci hi1 hi3 hi4 hn
        go_wp2_with (at_builtin; refine wpList_append_row _ rfl _ _ 22 rfl wr.heap.size 5 i0 Try.underlying22 (unhide HI0) hs0 hs1 hs2 (.slice (some ⟨wr.heap.size, 0, none⟩) 0 0) 0 _ rfl (unhide HO) ai gi n ci (ints t) rfl (by rw [ints_len]; exact (unhide HN).symm) ((unhide HRow).keep (unhide HK1) (by simp)) (fun h => by have h0 := unhide HNil h; omega) (by omega) (by simp) ?_)
        intro v' w5 ho hg _
        have hF := (owns_fr (s := t) ho).2
        have hk : Below wr.heap.size wr w5 := ((unhide HK1).grown hg (fun k e => by cases e; exact .inr (Nat.le_refl _))).below
        obtain ⟨g7, hA7, _⟩ := hF.arg hbt
        obtain ⟨⟨ao7, c7, rfl, h1, h2, h3, h4⟩, _⟩ := hA7
        have HA7 : Hid (Arg w5 (.slice ao7 t.length c7) g7 t) := ⟨⟨ao7, c7, rfl, h1, h2, h3, h4⟩, hbt⟩
        replace HAi := hide ((unhide HAi).below hk)
        replace HND := hide ((unhide HND).trans (hk.mono (unhide HND).size))
        clear ho hg hF hk h1 h2 h3 h4 HK1 HO HRow HNil hci1 hci2
        by_cases h28 : t.length = 28
        · have hn28 : n = 28 := by rw [unhide HN]; exact h28
          subst hn28
          have H28 := hide h28
          rw [h28] at HA7 ⊢
          clear h28
          go_wp2_with fail
          refine (decode_any _ _ t _ (unhide HA7) (unhide H28)).mono ?_
          rintro e w6' ⟨hk, hres⟩
          replace HAi := hide ((unhide HAi).below hk)
          replace HND := hide ((unhide HND).trans (hk.mono (unhide HND).size))
          have hcj := ((unhide HND).cell hcl).trans (unhide HCI)
          clear hk HA7
          rcases hres with ⟨hz, q, cq, rfl, hq, _⟩ | ⟨hz, rfl⟩
          · have HQ := hide hq
            clear hq
            go_wp2_with fail
            refine (rdecode_any _ _ t _ (unhide HAi) (unhide H28)).mono ?_
            rintro e w7 ⟨hk, hres⟩
            replace HAi := hide ((unhide HAi).below hk)
            replace HQ := hide ((unhide HQ).below hk)
            replace HND := hide ((unhide HND).trans (hk.mono (unhide HND).size))
            clear hk hcj
            have hcj := ((unhide HND).cell hcl).trans (unhide HCI)
            rcases hres with ⟨l, hg, hl3, q2, cq2, rfl, hq2⟩ | ⟨hf, _⟩
            · obtain ⟨_, b1, b2⟩ := both_told (unhide H28) hbt hg hl3
              rw [b1] at hq2
              rw [b2]
              have hm1 := mend_encF (unhide H28) hbt hz
              have hm2 := mend_diff (unhide H28)
              have hm3 : ((mend t).drop 4).length = 24 := drop4_len (by rw [mend_len, unhide H28])
              have hm4 : Bs (mend t) := mend_bs hbt
              have hm5 : (mend t).length = 28 := by rw [mend_len, unhide H28]
              have hc1 := conv_arg (unhide HQ)
              have hc2 := conv_arg hq2
              have HM1 := hide hm1
              have HM3 := hide hm3
              have HM5 := hide hm5
              obtain ⟨nf, hnf⟩ : ∃ n, (found (restF t)).length = n := ⟨_, rfl⟩
              rw [hnf] at hm2 ⊢
              have HM2 := hide hm2
              clear hq2 hm1 hm2 hm3 hm5 hnf b1 b2 hg hl3 hz
              go_wp2_with fail
              clear hc1 hc2 hcj
              replace HND := hide ((unhide HND).drew)
              replace HQ := hide ((unhide HQ).below (Below.refl _ _).drew)
              replace HAi := hide ((unhide HAi).below (Below.refl _ _).drew)
              refine wp_region_noPanic ?_
              refine wp_region_held_drew (S := fun W => Below w7.drew.heap.size w7.drew W) (by kernel_rfl) (Below.refl _ _) (fun hHeld => ?_)
              have HH := hide hHeld
              clear hHeld
              generalize w7.drew = w71 at HND HQ HAi HH ⊢
              refine takeL (i := 0) (v := ?_) rfl (by kernel_rfl) (by kernel_rfl) (by kernel_rfl) (fun _ _ _ h => h) (Or.inl ⟨by rfl, ?_⟩) (unhide HH) ?_
              rotate_left 1
              · intro W hSW; go_simp; all_goals (with_reducible rfl)
              (try simp only [Act.put, List.setIfInBounds_toArray, List.set_cons_zero, List.set_cons_succ])
              refine takeL (i := 1) (v := ?_) rfl (by kernel_rfl) (by kernel_rfl) (by kernel_rfl) (fun _ _ _ h => h) (Or.inl ⟨by rfl, ?_⟩) (unhide HH) ?_
              rotate_left 1
              · intro W hSW; go_simp; all_goals (with_reducible rfl)
              (try simp only [Act.put, List.setIfInBounds_toArray, List.set_cons_zero, List.set_cons_succ])
              refine takeL (i := 2) (v := ?_) rfl (by kernel_rfl) (by kernel_rfl) (by kernel_rfl) (fun _ _ _ h => h) (Or.inl ⟨by rfl, ?_⟩) (unhide HH) ?_
              rotate_left 1
              · intro W hSW; go_simp; all_goals (with_reducible rfl)
              (try simp only [Act.put, List.setIfInBounds_toArray, List.set_cons_zero, List.set_cons_succ])
              refine takeL (i := 4) (v := ?_) rfl (by kernel_rfl) (by kernel_rfl) (by kernel_rfl) (fun _ _ _ h => h) (Or.inl ⟨by rfl, ?_⟩) (unhide HH) ?_
              rotate_left 1
              · intro W hSW; go_simp; all_goals (with_reducible rfl)
              (try simp only [Act.put, List.setIfInBounds_toArray, List.set_cons_zero, List.set_cons_succ])
              refine takeL (i := 5) (v := ?_) rfl (by kernel_rfl) (by kernel_rfl) (by kernel_rfl) (fun _ _ _ h => h) (Or.inl ⟨by rfl, ?_⟩) (unhide HH) ?_
              rotate_left 1
              · intro W hSW; go_simp; all_goals (with_reducible rfl)
              (try simp only [Act.put, List.setIfInBounds_toArray, List.set_cons_zero, List.set_cons_succ])
              refine takeL (i := 6) (v := ?_) rfl (by kernel_rfl) (by kernel_rfl) (by kernel_rfl) (fun _ _ _ h => h) (Or.inl ⟨by rfl, ?_⟩) (unhide HH) ?_
              rotate_left 1
              · intro W hSW; go_simp; all_goals (with_reducible rfl)
              (try simp only [Act.put, List.setIfInBounds_toArray, List.set_cons_zero, List.set_cons_succ])
              refine takeL (i := 7) (v := ?_) rfl (by kernel_rfl) (by kernel_rfl) (by kernel_rfl) (fun _ _ _ h => h) (Or.inl ⟨by rfl, ?_⟩) (unhide HH) ?_
              rotate_left 1
              · intro W1 hSW; have hcj := (((unhide HND).trans (hSW.mono (unhide HND).size)).cell hcl).trans (unhide HCI); clear hSW; go_simp; all_goals (with_reducible rfl)
              (try simp only [Act.put, List.setIfInBounds_toArray, List.set_cons_zero, List.set_cons_succ])
              refine takeL (i := 10) (v := ?_) rfl (by kernel_rfl) (by kernel_rfl) (by kernel_rfl) (fun _ _ _ h => h) (Or.inl ⟨by rfl, ?_⟩) (unhide HH) ?_
              rotate_left 1
              · intro W hSW; go_simp; all_goals (with_reducible rfl)
              (try simp only [Act.put, List.setIfInBounds_toArray, List.set_cons_zero, List.set_cons_succ])
              refine wpAnyH_ready (rs := [3]) (by kernel_rfl) (by simp) ?_
              refine consL rfl (fun K hK => ?_) AllReadyH.nil
              go_simp
              refine (encode_any _ _ ((mend t).drop 4) _ (unhide HQ) (unhide HM3)).mono ?_
              rintro e w72 ⟨v72, rfl, hF, hk⟩
              rw [unhide HM1] at hF
              replace HQ := hide ((unhide HQ).below hk)
              replace HAi := hide ((unhide HAi).below hk)
              replace HND := hide ((unhide HND).trans (hk.mono (unhide HND).size))
              obtain ⟨g72, hA, hge⟩ := hF.arg hm4
              obtain ⟨⟨ao72, c72, rfl, h1, h2, h3, h4⟩, _⟩ := hA
              have HA72 : Hid (Arg w72 (.slice ao72 28 c72) g72 (mend t)) := ⟨⟨ao72, c72, by rw [(unhide HM5)], h1, h2, h3, h4⟩, hm4⟩
              rw [show (mend t).length = 28 from (unhide HM5)]
              clear h1 h2 h3 h4 hF hge
              go_wp2_with fail
              refine hK.out _ _ hk (fun hHeld => ?_)
              clear hK K HH hHeld
              (try simp only [Act.put, List.setIfInBounds_toArray, List.set_cons_zero, List.set_cons_succ])
              refine stronger (S' := fun W => Below w72.heap.size w72 W) (fun W h => hk.trans (h.mono hk.size)) _ _ _ _ ?_
              have HH : Hid (Below w72.heap.size w72 w72) := Below.refl _ _
              clear hk
              refine wpAnyH_ready (rs := [8]) (by kernel_rfl) (by simp) ?_
              refine consL rfl (fun K hK => ?_) AllReadyH.nil
              go_simp
              refine (apart_any _ _ _ _ (mend t) t _ (unhide HA72) (unhide HAi) (unhide HM5) (unhide H28)).mono ?_
              rintro e w73 ⟨aod, cd, rfl, hk⟩
              rw [unhide HM2]
              replace HQ := hide ((unhide HQ).below hk)
              replace HAi := hide ((unhide HAi).below hk)
              replace HA72 := hide ((unhide HA72).below hk)
              replace HND := hide ((unhide HND).trans (hk.mono (unhide HND).size))
              go_wp2_with fail
              refine hK.out _ _ hk (fun hHeld => ?_)
              clear hK K HH hHeld
              (try simp only [Act.put, List.setIfInBounds_toArray, List.set_cons_zero, List.set_cons_succ])
              refine stronger (S' := fun W => Below w73.heap.size w73 W) (fun W h => hk.trans (h.mono hk.size)) _ _ _ _ ?_
              have HH : Hid (Below w73.heap.size w73 w73) := Below.refl _ _
              clear hk
              refine takeL (i := 9) (v := ?_) rfl (by kernel_rfl) (by kernel_rfl) (by kernel_rfl) (fun _ _ _ h => h) (Or.inl ⟨by rfl, ?_⟩) (unhide HH) ?_
              rotate_left 1
              · intro W hSW; go_simp; all_goals (with_reducible rfl)
              (try simp only [Act.put, List.setIfInBounds_toArray, List.set_cons_zero, List.set_cons_succ])
              refine takeL (i := 11) (v := ?_) rfl (by kernel_rfl) (by kernel_rfl) (by kernel_rfl) (fun _ _ _ h => h) (Or.inl ⟨by rfl, ?_⟩) (unhide HH) ?_
              rotate_left 1
              · intro W hSW; go_simp; all_goals (with_reducible rfl)
              (try simp only [Act.put, List.setIfInBounds_toArray, List.set_cons_zero, List.set_cons_succ])
              refine takeL (i := 12) (v := ?_) rfl (by kernel_rfl) (by kernel_rfl) (by kernel_rfl) (fun _ _ _ h => h) (Or.inl ⟨by rfl, ?_⟩) (unhide HH) ?_
              rotate_left 1
              · intro W hSW; go_simp; all_goals (with_reducible rfl)
              (try simp only [Act.put, List.setIfInBounds_toArray, List.set_cons_zero, List.set_cons_succ])
              refine wpAnyH_done (by kernel_rfl) ?_ _
              refine NoPanic.normal ?_
              go_wp2_with fail
              go_roundw
              case rel => exact ⟨i + 1, by go_num, by omega, unhide HND⟩
              case measure => simp [intOf]; omega
            · exact absurd hz (told_far (unhide H28) hbt hf)
          · go_wp2_with fail
            refine (rdecode_any _ _ t _ (unhide HAi) (unhide H28)).mono ?_
            rintro e w7 ⟨hk, hres⟩
            replace HND := hide ((unhide HND).trans (hk.mono (unhide HND).size))
            clear hk hcj
            rcases hres with ⟨l, hg, hl3, q2, cq2, rfl, hq2⟩ | ⟨hf, rfl⟩
            · exact absurd (both_told (unhide H28) hbt hg hl3).1 hz
            · clear hf hz
              have hc0 := conv_arg (nil_arg w7)
              go_wp2_with fail
              clear hc0
              go_quiet (fail)
              go_wp2_with fail
              go_roundw
              case rel => exact ⟨i + 1, by go_num, by omega, (unhide HND).trans ((below_drewN _ _).mono (unhide HND).size)⟩
              case measure => simp [intOf]; omega
        · have H28 := hide h28
          clear h28
          go_wp2_with fail
          refine (decode_not _ _ t _ (unhide HA7) (unhide H28)).mono ?_
          rintro e w6' ⟨rfl, hk⟩
          replace HAi := hide ((unhide HAi).below hk)
          replace HND := hide ((unhide HND).trans (hk.mono (unhide HND).size))
          have hcj := ((unhide HND).cell hcl).trans (unhide HCI)
          clear hk HA7
          go_wp2_with fail
          refine (rdecode_not _ _ t _ (unhide HAi) (unhide H28)).mono ?_
          rintro e w7 ⟨rfl, hw7⟩
          rw [hw7]
          clear hw7 hcj
          have hc0 := conv_arg (nil_arg w6')
          go_wp2_with fail
          clear hc0
          go_quiet (fail)
          go_wp2_with fail
          go_roundw
          case rel => exact ⟨i + 1, by go_num, by omega, (unhide HND).trans ((below_drewN _ _).mono (unhide HND).size)⟩
          case measure => simp [intOf]; omega
      · have hi3 : i = 3 := by omega
        subst hi3
        replace HT := hide ((unhide HT).trans ((unhide HND).mono (unhide HT).size))
        go_wp2
        go_ret
        exact ⟨rfl, unhide HT⟩

end Go.Proofs.Ytahjcahmlangiaa
