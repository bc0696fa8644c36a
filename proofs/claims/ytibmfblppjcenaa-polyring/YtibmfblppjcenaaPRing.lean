/-
  The walk of PolyRing.
-/
import Derived.Test.YtibmfblppjcenaaLk
namespace Go.Proofs.Ytibmfblppjcenaa
open Go.RowKit

set_option maxRecDepth 100000 in
set_option maxHeartbeats 16000000 in
theorem ring_walk (va vb vc : Value) (ga gb gc : Nat) (a b c : List Nat) (w : World) (hA : Arg w va ga a) (hB : Arg w vb gb b) (hC : Arg w vc gc c) :
    Calls Try.prog 7 #[va, vb, vc] w fun x w' => x = .returned (.bool true) ∧ Below w.heap.size w w' := by
  have HA := hide hA
  have HB := hide hB
  have HC := hide hC
  obtain ⟨⟨ao, ca, rfl, _⟩, hbs⟩ := hA
  obtain ⟨⟨bo, cb, rfl, _⟩, hbs2⟩ := hB
  obtain ⟨⟨co, cc, rfl, _⟩, hbs3⟩ := hC
  by_cases hla : 20 < a.length
  · have hla' : (20 : Int) < (a.length : Int) := by omega
    go_enter Try.func7, Try.ntmps7
    go_wp2_with fail
    refine (known_any w).mono ?_
    rintro x w1 ⟨rfl, hk1⟩
    have HK1 := hide hk1
    clear hk1
    go_wp2
    go_ret
    exact ⟨rfl, unhide HK1⟩
  · have hla' : (a.length : Int) ≤ 20 := by omega
    by_cases hlb : 20 < b.length
    · have hlb' : (20 : Int) < (b.length : Int) := by omega
      go_enter Try.func7, Try.ntmps7
      go_wp2_with fail
      refine (known_any w).mono ?_
      rintro x w1 ⟨rfl, hk1⟩
      have HK1 := hide hk1
      clear hk1
      go_wp2
      go_ret
      exact ⟨rfl, unhide HK1⟩
    · have hlb' : (b.length : Int) ≤ 20 := by omega
      by_cases hlc : 20 < c.length
      · have hlc' : (20 : Int) < (c.length : Int) := by omega
        go_enter Try.func7, Try.ntmps7
        go_wp2_with fail
        refine (known_any w).mono ?_
        rintro x w1 ⟨rfl, hk1⟩
        have HK1 := hide hk1
        clear hk1
        go_wp2
        go_ret
        exact ⟨rfl, unhide HK1⟩
      · have hlc' : (c.length : Int) ≤ 20 := by omega
        obtain ⟨s1, es1⟩ : ∃ s, trim (pmul a b) = s := ⟨_, rfl⟩
        have bs1 : Bs s1 := by rw [← es1]; exact (Bs.pmul hbs).trim
        have ls1 : s1.length ≤ 40 := by
          rw [← es1]
          have := len_mul a b; omega
        have Es1 := hide es1
        clear es1
        obtain ⟨s2, es2⟩ : ∃ s, trim (pmul s1 c) = s := ⟨_, rfl⟩
        have bs2 : Bs s2 := by rw [← es2]; exact (Bs.pmul bs1).trim
        have Es2 := hide es2
        clear es2
        obtain ⟨s3, es3⟩ : ∃ s, trim (pmul b c) = s := ⟨_, rfl⟩
        have bs3 : Bs s3 := by rw [← es3]; exact (Bs.pmul hbs2).trim
        have ls3 : s3.length ≤ 40 := by
          rw [← es3]
          have := len_mul b c; omega
        have Es3 := hide es3
        clear es3
        obtain ⟨s5, es5⟩ : ∃ s, trim (padd b c) = s := ⟨_, rfl⟩
        have bs5 : Bs s5 := by rw [← es5]; exact (hbs2.padd hbs3).trim
        have ls5 : s5.length ≤ 40 := by
          rw [← es5]
          have := len_add b c; omega
        have Es5 := hide es5
        clear es5
        obtain ⟨s6, es6⟩ : ∃ s, trim (pmul a s5) = s := ⟨_, rfl⟩
        have bs6 : Bs s6 := by rw [← es6]; exact (Bs.pmul hbs).trim
        have Es6 := hide es6
        clear es6
        obtain ⟨s8, es8⟩ : ∃ s, trim (pmul a c) = s := ⟨_, rfl⟩
        have bs8 : Bs s8 := by rw [← es8]; exact (Bs.pmul hbs).trim
        have ls8 : s8.length ≤ 40 := by
          rw [← es8]
          have := len_mul a c; omega
        have Es8 := hide es8
        clear es8
        obtain ⟨s13, es13⟩ : ∃ s, trim a = s := ⟨_, rfl⟩
        have bs13 : Bs s13 := by rw [← es13]; exact hbs.trim
        have Es13 := hide es13
        clear es13
        have E4 : Hid (trim (pmul a s3) = s2) := by
          show _ = _
          rw [← unhide Es2, ← unhide Es1, ← unhide Es3]
          exact trim_congr (((pmul_right a (cf_trim _)).trans (pmul_assoc hbs hbs2 hbs3).symm).trans (pmul_left (Bs.pmul hbs) hbs3 (cf_trim _).symm))
        have E9 : Hid (trim (padd s1 s8) = s6) := by
          show _ = _
          rw [← unhide Es6, ← unhide Es1, ← unhide Es8, ← unhide Es5]
          refine trim_congr (fun i => ?_)
          rw [cf_padd, cf_trim, cf_trim, pmul_right a (cf_trim _) i, pmul_padd a b c i, cf_padd]
        have E11 : Hid (trim (pmul b a) = s1) := by
          show _ = _
          rw [← unhide Es1]
          exact trim_congr (pmul_comm hbs2 hbs)
        have E12 : Hid (trim (padd a a) = []) := trim_nought (fun i => by rw [cf_padd, Nat.xor_self])
        have E13 : Hid (trim (padd a []) = s13) := by
          show _ = _
          rw [← unhide Es13]
          exact trim_congr (fun i => by rw [cf_padd, cf_nil, Nat.xor_zero])
        have E15 : Hid (trim (pmul a []) = []) := trim_nought (fun i => pmul_nil a i)
        go_enter Try.func7, Try.ntmps7
        go_wp2_with fail
        refine (known_any w).mono ?_
        rintro x w0 ⟨rfl, hk⟩
        replace HA := hide ((unhide HA).below hk)
        replace HB := hide ((unhide HB).below hk)
        replace HC := hide ((unhide HC).below hk)
        have HT := hide hk
        clear hk
        have HNIL : Hid (Arg w0 (.slice none 0 0) 0 []) := ⟨⟨none, 0, rfl, by simp, by simp, fun _ => rfl, .inl rfl⟩, Bs.nil⟩
        go_wp2_with fail
        replace HT := hide ((unhide HT).drew)
        replace HA := hide ((unhide HA).below (Below.refl _ _).drew)
        replace HB := hide ((unhide HB).below (Below.refl _ _).drew)
        replace HC := hide ((unhide HC).below (Below.refl _ _).drew)
        replace HNIL := hide ((unhide HNIL).below (Below.refl _ _).drew)
        refine wp_region_noPanic ?_
        refine wp_region_held_drew (S := fun W => Below w0.drew.heap.size w0.drew W) (by kernel_rfl) (Below.refl _ _) (fun hHeld => ?_)
        have HH := hide hHeld
        clear hHeld
        refine takeL (i := 0) (v := ?_) rfl (by kernel_rfl) (by kernel_rfl) (by kernel_rfl) (fun _ _ _ h => h) (Or.inl ⟨by rfl, ?_⟩) (unhide HH) ?_
        rotate_left 1
        · intro W hSW; go_simp; all_goals (with_reducible rfl)
        (try simp only [Act.put, List.setIfInBounds_toArray, List.set_cons_zero, List.set_cons_succ])
        refine takeL (i := 1) (v := ?_) rfl (by kernel_rfl) (by kernel_rfl) (by kernel_rfl) (fun _ _ _ h => h) (Or.inl ⟨by rfl, ?_⟩) (unhide HH) ?_
        rotate_left 1
        · intro W hSW; go_simp; all_goals (with_reducible rfl)
        (try simp only [Act.put, List.setIfInBounds_toArray, List.set_cons_zero, List.set_cons_succ])
        refine takeL (i := 3) (v := ?_) rfl (by kernel_rfl) (by kernel_rfl) (by kernel_rfl) (fun _ _ _ h => h) (Or.inl ⟨by rfl, ?_⟩) (unhide HH) ?_
        rotate_left 1
        · intro W hSW; go_simp; all_goals (with_reducible rfl)
        (try simp only [Act.put, List.setIfInBounds_toArray, List.set_cons_zero, List.set_cons_succ])
        refine takeL (i := 6) (v := ?_) rfl (by kernel_rfl) (by kernel_rfl) (by kernel_rfl) (fun _ _ _ h => h) (Or.inl ⟨by rfl, ?_⟩) (unhide HH) ?_
        rotate_left 1
        · intro W hSW; go_simp; all_goals (with_reducible rfl)
        (try simp only [Act.put, List.setIfInBounds_toArray, List.set_cons_zero, List.set_cons_succ])
        refine takeL (i := 7) (v := ?_) rfl (by kernel_rfl) (by kernel_rfl) (by kernel_rfl) (fun _ _ _ h => h) (Or.inl ⟨by rfl, ?_⟩) (unhide HH) ?_
        rotate_left 1
        · intro W hSW; go_simp; all_goals (with_reducible rfl)
        (try simp only [Act.put, List.setIfInBounds_toArray, List.set_cons_zero, List.set_cons_succ])
        refine takeL (i := 8) (v := ?_) rfl (by kernel_rfl) (by kernel_rfl) (by kernel_rfl) (fun _ _ _ h => h) (Or.inl ⟨by rfl, ?_⟩) (unhide HH) ?_
        rotate_left 1
        · intro W hSW; go_simp; all_goals (with_reducible rfl)
        (try simp only [Act.put, List.setIfInBounds_toArray, List.set_cons_zero, List.set_cons_succ])
        refine wpAnyH_ready (rs := [2]) (by kernel_rfl) (by simp) ?_
        refine consL rfl (fun K hK => ?_) AllReadyH.nil
        go_simp
        refine (pmul_any _ _ _ _ a b _ (unhide HA) (unhide HB) (by first | omega | simp) (by first | omega | simp)).mono ?_
        rintro e w1 ⟨v1, rfl, hF, hk⟩
        rw [unhide Es1] at hF
        have HK1 : Hid (Below w0.drew.heap.size w0.drew w1) := hk
        clear hk
        replace HT := hide ((unhide HT).trans ((unhide HK1).mono (unhide HT).size))
        replace HA := hide ((unhide HA).below (unhide HK1))
        replace HB := hide ((unhide HB).below (unhide HK1))
        replace HC := hide ((unhide HC).below (unhide HK1))
        replace HNIL := hide ((unhide HNIL).below (unhide HK1))
        obtain ⟨g1, hA, hge⟩ := hF.arg bs1
        obtain ⟨⟨ao1, c1, rfl, h1, h2, h3, h4⟩, _⟩ := hA
        have HA1 : Hid (Arg w1 (.slice ao1 s1.length c1) g1 s1) := ⟨⟨ao1, c1, rfl, h1, h2, h3, h4⟩, bs1⟩
        clear h1 h2 h3 h4 hF hge
        go_wp2_with fail
        refine hK.out _ _ (unhide HK1) (fun hHeld => ?_)
        clear hK K HH hHeld
        (try simp only [Act.put, List.setIfInBounds_toArray, List.set_cons_zero, List.set_cons_succ])
        refine stronger (S' := fun W => Below w1.heap.size w1 W) (fun W h => (unhide HK1).trans (h.mono (unhide HK1).size)) _ _ _ _ ?_
        have HH : Hid (Below w1.heap.size w1 w1) := Below.refl _ _
        refine wpAnyH_ready (rs := [4]) (by kernel_rfl) (by simp) ?_
        refine consL rfl (fun K hK => ?_) AllReadyH.nil
        go_simp
        refine (pmul_any _ _ _ _ s1 c _ (unhide HA1) (unhide HC) (by first | omega | simp) (by first | omega | simp)).mono ?_
        rintro e w2 ⟨v2, rfl, hF, hk⟩
        rw [unhide Es2] at hF
        have HK2 : Hid (Below w1.heap.size w1 w2) := hk
        clear hk
        replace HT := hide ((unhide HT).trans ((unhide HK2).mono (unhide HT).size))
        replace HA := hide ((unhide HA).below (unhide HK2))
        replace HA1 := hide ((unhide HA1).below (unhide HK2))
        replace HB := hide ((unhide HB).below (unhide HK2))
        replace HC := hide ((unhide HC).below (unhide HK2))
        replace HNIL := hide ((unhide HNIL).below (unhide HK2))
        obtain ⟨g2, hA, hge⟩ := hF.arg bs2
        obtain ⟨⟨ao2, c2, rfl, h1, h2, h3, h4⟩, _⟩ := hA
        have HA2 : Hid (Arg w2 (.slice ao2 s2.length c2) g2 s2) := ⟨⟨ao2, c2, rfl, h1, h2, h3, h4⟩, bs2⟩
        clear h1 h2 h3 h4 hF hge
        go_wp2_with fail
        refine hK.out _ _ (unhide HK2) (fun hHeld => ?_)
        clear hK K HH hHeld
        (try simp only [Act.put, List.setIfInBounds_toArray, List.set_cons_zero, List.set_cons_succ])
        refine stronger (S' := fun W => Below w2.heap.size w2 W) (fun W h => (unhide HK2).trans (h.mono (unhide HK2).size)) _ _ _ _ ?_
        have HH : Hid (Below w2.heap.size w2 w2) := Below.refl _ _
        refine takeL (i := 5) (v := ?_) rfl (by kernel_rfl) (by kernel_rfl) (by kernel_rfl) (fun _ _ _ h => h) (Or.inl ⟨by rfl, ?_⟩) (unhide HH) ?_
        rotate_left 1
        · intro W1 hSW; have hcv := conv_arg ((unhide HA2).below hSW); clear hSW; go_simp; all_goals (with_reducible rfl)
        (try simp only [Act.put, List.setIfInBounds_toArray, List.set_cons_zero, List.set_cons_succ])
        refine wpAnyH_ready (rs := [9]) (by kernel_rfl) (by simp) ?_
        refine consL rfl (fun K hK => ?_) AllReadyH.nil
        go_simp
        refine (pmul_any _ _ _ _ b c _ (unhide HB) (unhide HC) (by first | omega | simp) (by first | omega | simp)).mono ?_
        rintro e w3 ⟨v3, rfl, hF, hk⟩
        rw [unhide Es3] at hF
        have HK3 : Hid (Below w2.heap.size w2 w3) := hk
        clear hk
        replace HT := hide ((unhide HT).trans ((unhide HK3).mono (unhide HT).size))
        replace HA := hide ((unhide HA).below (unhide HK3))
        replace HA1 := hide ((unhide HA1).below (unhide HK3))
        replace HA2 := hide ((unhide HA2).below (unhide HK3))
        replace HB := hide ((unhide HB).below (unhide HK3))
        replace HC := hide ((unhide HC).below (unhide HK3))
        replace HNIL := hide ((unhide HNIL).below (unhide HK3))
        obtain ⟨g3, hA, hge⟩ := hF.arg bs3
        obtain ⟨⟨ao3, c3, rfl, h1, h2, h3, h4⟩, _⟩ := hA
        have HA3 : Hid (Arg w3 (.slice ao3 s3.length c3) g3 s3) := ⟨⟨ao3, c3, rfl, h1, h2, h3, h4⟩, bs3⟩
        clear h1 h2 h3 h4 hF hge
        go_wp2_with fail
        refine hK.out _ _ (unhide HK3) (fun hHeld => ?_)
        clear hK K HH hHeld
        (try simp only [Act.put, List.setIfInBounds_toArray, List.set_cons_zero, List.set_cons_succ])
        refine stronger (S' := fun W => Below w3.heap.size w3 W) (fun W h => (unhide HK3).trans (h.mono (unhide HK3).size)) _ _ _ _ ?_
        have HH : Hid (Below w3.heap.size w3 w3) := Below.refl _ _
        refine wpAnyH_ready (rs := [10]) (by kernel_rfl) (by simp) ?_
        refine consL rfl (fun K hK => ?_) AllReadyH.nil
        go_simp
        refine (pmul_any _ _ _ _ a s3 _ (unhide HA) (unhide HA3) (by first | omega | simp) (by first | omega | simp)).mono ?_
        rintro e w4 ⟨v4, rfl, hF, hk⟩
        rw [unhide E4] at hF
        have HK4 : Hid (Below w3.heap.size w3 w4) := hk
        clear hk
        replace HT := hide ((unhide HT).trans ((unhide HK4).mono (unhide HT).size))
        replace HA := hide ((unhide HA).below (unhide HK4))
        replace HA1 := hide ((unhide HA1).below (unhide HK4))
        replace HA2 := hide ((unhide HA2).below (unhide HK4))
        replace HA3 := hide ((unhide HA3).below (unhide HK4))
        replace HB := hide ((unhide HB).below (unhide HK4))
        replace HC := hide ((unhide HC).below (unhide HK4))
        replace HNIL := hide ((unhide HNIL).below (unhide HK4))
        obtain ⟨g4, hA, hge⟩ := hF.arg bs2
        obtain ⟨⟨ao4, c4, rfl, h1, h2, h3, h4⟩, _⟩ := hA
        have HA4 : Hid (Arg w4 (.slice ao4 s2.length c4) g4 s2) := ⟨⟨ao4, c4, rfl, h1, h2, h3, h4⟩, bs2⟩
        clear h1 h2 h3 h4 hF hge
        go_wp2_with fail
        refine hK.out _ _ (unhide HK4) (fun hHeld => ?_)
        clear hK K HH hHeld
        (try simp only [Act.put, List.setIfInBounds_toArray, List.set_cons_zero, List.set_cons_succ])
        refine stronger (S' := fun W => Below w4.heap.size w4 W) (fun W h => (unhide HK4).trans (h.mono (unhide HK4).size)) _ _ _ _ ?_
        have HH : Hid (Below w4.heap.size w4 w4) := Below.refl _ _
        refine takeL (i := 11) (v := ?_) rfl (by kernel_rfl) (by kernel_rfl) (by kernel_rfl) (fun _ _ _ h => h) (Or.inl ⟨by rfl, ?_⟩) (unhide HH) ?_
        rotate_left 1
        · intro W1 hSW; have hcv := conv_arg ((unhide HA4).below hSW); clear hSW; go_simp; all_goals (with_reducible rfl)
        (try simp only [Act.put, List.setIfInBounds_toArray, List.set_cons_zero, List.set_cons_succ])
        refine takeL (i := 12) (v := ?_) rfl (by kernel_rfl) (by kernel_rfl) (by kernel_rfl) (fun _ _ _ h => h) (Or.inl ⟨by rfl, ?_⟩) (unhide HH) ?_
        rotate_left 1
        · intro W hSW; go_simp; all_goals (with_reducible rfl)
        (try simp only [Act.put, List.setIfInBounds_toArray, List.set_cons_zero, List.set_cons_succ])
        refine takeL (i := 13) (v := ?_) rfl (by kernel_rfl) (by kernel_rfl) (by kernel_rfl) (fun _ _ _ h => h) (Or.inl ⟨by rfl, ?_⟩) (unhide HH) ?_
        rotate_left 1
        · intro W hSW; go_simp; all_goals (with_reducible rfl)
        (try simp only [Act.put, List.setIfInBounds_toArray, List.set_cons_zero, List.set_cons_succ])
        refine takeL (i := 14) (v := ?_) rfl (by kernel_rfl) (by kernel_rfl) (by kernel_rfl) (fun _ _ _ h => h) (Or.inl ⟨by rfl, ?_⟩) (unhide HH) ?_
        rotate_left 1
        · intro W hSW; go_simp; all_goals (with_reducible rfl)
        (try simp only [Act.put, List.setIfInBounds_toArray, List.set_cons_zero, List.set_cons_succ])
        refine takeL (i := 15) (v := ?_) rfl (by kernel_rfl) (by kernel_rfl) (by kernel_rfl) (fun _ _ _ h => h) (Or.inl ⟨by rfl, ?_⟩) (unhide HH) ?_
        rotate_left 1
        · intro W hSW; go_simp; all_goals (with_reducible rfl)
        (try simp only [Act.put, List.setIfInBounds_toArray, List.set_cons_zero, List.set_cons_succ])
        refine takeL (i := 16) (v := ?_) rfl (by kernel_rfl) (by kernel_rfl) (by kernel_rfl) (fun _ _ _ h => h) (Or.inl ⟨by rfl, ?_⟩) (unhide HH) ?_
        rotate_left 1
        · intro W hSW; go_simp; all_goals (with_reducible rfl)
        (try simp only [Act.put, List.setIfInBounds_toArray, List.set_cons_zero, List.set_cons_succ])
        refine takeL (i := 20) (v := ?_) rfl (by kernel_rfl) (by kernel_rfl) (by kernel_rfl) (fun _ _ _ h => h) (Or.inl ⟨by rfl, ?_⟩) (unhide HH) ?_
        rotate_left 1
        · intro W hSW; go_simp; all_goals (with_reducible rfl)
        (try simp only [Act.put, List.setIfInBounds_toArray, List.set_cons_zero, List.set_cons_succ])
        refine takeL (i := 21) (v := ?_) rfl (by kernel_rfl) (by kernel_rfl) (by kernel_rfl) (fun _ _ _ h => h) (Or.inl ⟨by rfl, ?_⟩) (unhide HH) ?_
        rotate_left 1
        · intro W hSW; go_simp; all_goals (with_reducible rfl)
        (try simp only [Act.put, List.setIfInBounds_toArray, List.set_cons_zero, List.set_cons_succ])
        refine takeL (i := 23) (v := ?_) rfl (by kernel_rfl) (by kernel_rfl) (by kernel_rfl) (fun _ _ _ h => h) (Or.inl ⟨by rfl, ?_⟩) (unhide HH) ?_
        rotate_left 1
        · intro W hSW; go_simp; all_goals (with_reducible rfl)
        (try simp only [Act.put, List.setIfInBounds_toArray, List.set_cons_zero, List.set_cons_succ])
        refine takeL (i := 24) (v := ?_) rfl (by kernel_rfl) (by kernel_rfl) (by kernel_rfl) (fun _ _ _ h => h) (Or.inl ⟨by rfl, ?_⟩) (unhide HH) ?_
        rotate_left 1
        · intro W hSW; go_simp; all_goals (with_reducible rfl)
        (try simp only [Act.put, List.setIfInBounds_toArray, List.set_cons_zero, List.set_cons_succ])
        refine wpAnyH_ready (rs := [17]) (by kernel_rfl) (by simp) ?_
        refine consL rfl (fun K hK => ?_) AllReadyH.nil
        go_simp
        refine (add_any _ _ _ _ b c _ (unhide HB) (unhide HC) (by first | omega | simp) (by first | omega | simp)).mono ?_
        rintro e w5 ⟨v5, rfl, hF, hk⟩
        rw [unhide Es5] at hF
        have HK5 : Hid (Below w4.heap.size w4 w5) := hk
        clear hk
        replace HT := hide ((unhide HT).trans ((unhide HK5).mono (unhide HT).size))
        replace HA := hide ((unhide HA).below (unhide HK5))
        replace HA1 := hide ((unhide HA1).below (unhide HK5))
        replace HA2 := hide ((unhide HA2).below (unhide HK5))
        replace HA3 := hide ((unhide HA3).below (unhide HK5))
        replace HA4 := hide ((unhide HA4).below (unhide HK5))
        replace HB := hide ((unhide HB).below (unhide HK5))
        replace HC := hide ((unhide HC).below (unhide HK5))
        replace HNIL := hide ((unhide HNIL).below (unhide HK5))
        obtain ⟨g5, hA, hge⟩ := hF.arg bs5
        obtain ⟨⟨ao5, c5, rfl, h1, h2, h3, h4⟩, _⟩ := hA
        have HA5 : Hid (Arg w5 (.slice ao5 s5.length c5) g5 s5) := ⟨⟨ao5, c5, rfl, h1, h2, h3, h4⟩, bs5⟩
        clear h1 h2 h3 h4 hF hge
        go_wp2_with fail
        refine hK.out _ _ (unhide HK5) (fun hHeld => ?_)
        clear hK K HH hHeld
        (try simp only [Act.put, List.setIfInBounds_toArray, List.set_cons_zero, List.set_cons_succ])
        refine stronger (S' := fun W => Below w5.heap.size w5 W) (fun W h => (unhide HK5).trans (h.mono (unhide HK5).size)) _ _ _ _ ?_
        have HH : Hid (Below w5.heap.size w5 w5) := Below.refl _ _
        refine wpAnyH_ready (rs := [18]) (by kernel_rfl) (by simp) ?_
        refine consL rfl (fun K hK => ?_) AllReadyH.nil
        go_simp
        refine (pmul_any _ _ _ _ a s5 _ (unhide HA) (unhide HA5) (by first | omega | simp) (by first | omega | simp)).mono ?_
        rintro e w6 ⟨v6, rfl, hF, hk⟩
        rw [unhide Es6] at hF
        have HK6 : Hid (Below w5.heap.size w5 w6) := hk
        clear hk
        replace HT := hide ((unhide HT).trans ((unhide HK6).mono (unhide HT).size))
        replace HA := hide ((unhide HA).below (unhide HK6))
        replace HA1 := hide ((unhide HA1).below (unhide HK6))
        replace HA2 := hide ((unhide HA2).below (unhide HK6))
        replace HA3 := hide ((unhide HA3).below (unhide HK6))
        replace HA4 := hide ((unhide HA4).below (unhide HK6))
        replace HA5 := hide ((unhide HA5).below (unhide HK6))
        replace HB := hide ((unhide HB).below (unhide HK6))
        replace HC := hide ((unhide HC).below (unhide HK6))
        replace HNIL := hide ((unhide HNIL).below (unhide HK6))
        obtain ⟨g6, hA, hge⟩ := hF.arg bs6
        obtain ⟨⟨ao6, c6, rfl, h1, h2, h3, h4⟩, _⟩ := hA
        have HA6 : Hid (Arg w6 (.slice ao6 s6.length c6) g6 s6) := ⟨⟨ao6, c6, rfl, h1, h2, h3, h4⟩, bs6⟩
        clear h1 h2 h3 h4 hF hge
        go_wp2_with fail
        refine hK.out _ _ (unhide HK6) (fun hHeld => ?_)
        clear hK K HH hHeld
        (try simp only [Act.put, List.setIfInBounds_toArray, List.set_cons_zero, List.set_cons_succ])
        refine stronger (S' := fun W => Below w6.heap.size w6 W) (fun W h => (unhide HK6).trans (h.mono (unhide HK6).size)) _ _ _ _ ?_
        have HH : Hid (Below w6.heap.size w6 w6) := Below.refl _ _
        refine takeL (i := 19) (v := ?_) rfl (by kernel_rfl) (by kernel_rfl) (by kernel_rfl) (fun _ _ _ h => h) (Or.inl ⟨by rfl, ?_⟩) (unhide HH) ?_
        rotate_left 1
        · intro W1 hSW; have hcv := conv_arg ((unhide HA6).below hSW); clear hSW; go_simp; all_goals (with_reducible rfl)
        (try simp only [Act.put, List.setIfInBounds_toArray, List.set_cons_zero, List.set_cons_succ])
        refine wpAnyH_ready (rs := [22]) (by kernel_rfl) (by simp) ?_
        refine consL rfl (fun K hK => ?_) AllReadyH.nil
        go_simp
        refine (pmul_any _ _ _ _ a b _ (unhide HA) (unhide HB) (by first | omega | simp) (by first | omega | simp)).mono ?_
        rintro e w7 ⟨v7, rfl, hF, hk⟩
        rw [unhide Es1] at hF
        have HK7 : Hid (Below w6.heap.size w6 w7) := hk
        clear hk
        replace HT := hide ((unhide HT).trans ((unhide HK7).mono (unhide HT).size))
        replace HA := hide ((unhide HA).below (unhide HK7))
        replace HA1 := hide ((unhide HA1).below (unhide HK7))
        replace HA2 := hide ((unhide HA2).below (unhide HK7))
        replace HA3 := hide ((unhide HA3).below (unhide HK7))
        replace HA4 := hide ((unhide HA4).below (unhide HK7))
        replace HA5 := hide ((unhide HA5).below (unhide HK7))
        replace HA6 := hide ((unhide HA6).below (unhide HK7))
        replace HB := hide ((unhide HB).below (unhide HK7))
        replace HC := hide ((unhide HC).below (unhide HK7))
        replace HNIL := hide ((unhide HNIL).below (unhide HK7))
        obtain ⟨g7, hA, hge⟩ := hF.arg bs1
        obtain ⟨⟨ao7, c7, rfl, h1, h2, h3, h4⟩, _⟩ := hA
        have HA7 : Hid (Arg w7 (.slice ao7 s1.length c7) g7 s1) := ⟨⟨ao7, c7, rfl, h1, h2, h3, h4⟩, bs1⟩
        clear h1 h2 h3 h4 hF hge
        go_wp2_with fail
        refine hK.out _ _ (unhide HK7) (fun hHeld => ?_)
        clear hK K HH hHeld
        (try simp only [Act.put, List.setIfInBounds_toArray, List.set_cons_zero, List.set_cons_succ])
        refine stronger (S' := fun W => Below w7.heap.size w7 W) (fun W h => (unhide HK7).trans (h.mono (unhide HK7).size)) _ _ _ _ ?_
        have HH : Hid (Below w7.heap.size w7 w7) := Below.refl _ _
        refine wpAnyH_ready (rs := [25]) (by kernel_rfl) (by simp) ?_
        refine consL rfl (fun K hK => ?_) AllReadyH.nil
        go_simp
        refine (pmul_any _ _ _ _ a c _ (unhide HA) (unhide HC) (by first | omega | simp) (by first | omega | simp)).mono ?_
        rintro e w8 ⟨v8, rfl, hF, hk⟩
        rw [unhide Es8] at hF
        have HK8 : Hid (Below w7.heap.size w7 w8) := hk
        clear hk
        replace HT := hide ((unhide HT).trans ((unhide HK8).mono (unhide HT).size))
        replace HA := hide ((unhide HA).below (unhide HK8))
        replace HA1 := hide ((unhide HA1).below (unhide HK8))
        replace HA2 := hide ((unhide HA2).below (unhide HK8))
        replace HA3 := hide ((unhide HA3).below (unhide HK8))
        replace HA4 := hide ((unhide HA4).below (unhide HK8))
        replace HA5 := hide ((unhide HA5).below (unhide HK8))
        replace HA6 := hide ((unhide HA6).below (unhide HK8))
        replace HA7 := hide ((unhide HA7).below (unhide HK8))
        replace HB := hide ((unhide HB).below (unhide HK8))
        replace HC := hide ((unhide HC).below (unhide HK8))
        replace HNIL := hide ((unhide HNIL).below (unhide HK8))
        obtain ⟨g8, hA, hge⟩ := hF.arg bs8
        obtain ⟨⟨ao8, c8, rfl, h1, h2, h3, h4⟩, _⟩ := hA
        have HA8 : Hid (Arg w8 (.slice ao8 s8.length c8) g8 s8) := ⟨⟨ao8, c8, rfl, h1, h2, h3, h4⟩, bs8⟩
        clear h1 h2 h3 h4 hF hge
        go_wp2_with fail
        refine hK.out _ _ (unhide HK8) (fun hHeld => ?_)
        clear hK K HH hHeld
        (try simp only [Act.put, List.setIfInBounds_toArray, List.set_cons_zero, List.set_cons_succ])
        refine stronger (S' := fun W => Below w8.heap.size w8 W) (fun W h => (unhide HK8).trans (h.mono (unhide HK8).size)) _ _ _ _ ?_
        have HH : Hid (Below w8.heap.size w8 w8) := Below.refl _ _
        refine wpAnyH_ready (rs := [26]) (by kernel_rfl) (by simp) ?_
        refine consL rfl (fun K hK => ?_) AllReadyH.nil
        go_simp
        refine (add_any _ _ _ _ s1 s8 _ (unhide HA7) (unhide HA8) (by first | omega | simp) (by first | omega | simp)).mono ?_
        rintro e w9 ⟨v9, rfl, hF, hk⟩
        rw [unhide E9] at hF
        have HK9 : Hid (Below w8.heap.size w8 w9) := hk
        clear hk
        replace HT := hide ((unhide HT).trans ((unhide HK9).mono (unhide HT).size))
        replace HA := hide ((unhide HA).below (unhide HK9))
        replace HA1 := hide ((unhide HA1).below (unhide HK9))
        replace HA2 := hide ((unhide HA2).below (unhide HK9))
        replace HA3 := hide ((unhide HA3).below (unhide HK9))
        replace HA4 := hide ((unhide HA4).below (unhide HK9))
        replace HA5 := hide ((unhide HA5).below (unhide HK9))
        replace HA6 := hide ((unhide HA6).below (unhide HK9))
        replace HA7 := hide ((unhide HA7).below (unhide HK9))
        replace HA8 := hide ((unhide HA8).below (unhide HK9))
        replace HB := hide ((unhide HB).below (unhide HK9))
        replace HC := hide ((unhide HC).below (unhide HK9))
        replace HNIL := hide ((unhide HNIL).below (unhide HK9))
        obtain ⟨g9, hA, hge⟩ := hF.arg bs6
        obtain ⟨⟨ao9, c9, rfl, h1, h2, h3, h4⟩, _⟩ := hA
        have HA9 : Hid (Arg w9 (.slice ao9 s6.length c9) g9 s6) := ⟨⟨ao9, c9, rfl, h1, h2, h3, h4⟩, bs6⟩
        clear h1 h2 h3 h4 hF hge
        go_wp2_with fail
        refine hK.out _ _ (unhide HK9) (fun hHeld => ?_)
        clear hK K HH hHeld
        (try simp only [Act.put, List.setIfInBounds_toArray, List.set_cons_zero, List.set_cons_succ])
        refine stronger (S' := fun W => Below w9.heap.size w9 W) (fun W h => (unhide HK9).trans (h.mono (unhide HK9).size)) _ _ _ _ ?_
        have HH : Hid (Below w9.heap.size w9 w9) := Below.refl _ _
        refine takeL (i := 27) (v := ?_) rfl (by kernel_rfl) (by kernel_rfl) (by kernel_rfl) (fun _ _ _ h => h) (Or.inl ⟨by rfl, ?_⟩) (unhide HH) ?_
        rotate_left 1
        · intro W1 hSW; have hcv := conv_arg ((unhide HA9).below hSW); clear hSW; go_simp; all_goals (with_reducible rfl)
        (try simp only [Act.put, List.setIfInBounds_toArray, List.set_cons_zero, List.set_cons_succ])
        refine takeL (i := 28) (v := ?_) rfl (by kernel_rfl) (by kernel_rfl) (by kernel_rfl) (fun _ _ _ h => h) (Or.inl ⟨by rfl, ?_⟩) (unhide HH) ?_
        rotate_left 1
        · intro W hSW; go_simp; all_goals (with_reducible rfl)
        (try simp only [Act.put, List.setIfInBounds_toArray, List.set_cons_zero, List.set_cons_succ])
        refine takeL (i := 29) (v := ?_) rfl (by kernel_rfl) (by kernel_rfl) (by kernel_rfl) (fun _ _ _ h => h) (Or.inl ⟨by rfl, ?_⟩) (unhide HH) ?_
        rotate_left 1
        · intro W hSW; go_simp; all_goals (with_reducible rfl)
        (try simp only [Act.put, List.setIfInBounds_toArray, List.set_cons_zero, List.set_cons_succ])
        refine takeL (i := 30) (v := ?_) rfl (by kernel_rfl) (by kernel_rfl) (by kernel_rfl) (fun _ _ _ h => h) (Or.inl ⟨by rfl, ?_⟩) (unhide HH) ?_
        rotate_left 1
        · intro W hSW; go_simp; all_goals (with_reducible rfl)
        (try simp only [Act.put, List.setIfInBounds_toArray, List.set_cons_zero, List.set_cons_succ])
        refine takeL (i := 31) (v := ?_) rfl (by kernel_rfl) (by kernel_rfl) (by kernel_rfl) (fun _ _ _ h => h) (Or.inl ⟨by rfl, ?_⟩) (unhide HH) ?_
        rotate_left 1
        · intro W hSW; go_simp; all_goals (with_reducible rfl)
        (try simp only [Act.put, List.setIfInBounds_toArray, List.set_cons_zero, List.set_cons_succ])
        refine takeL (i := 32) (v := ?_) rfl (by kernel_rfl) (by kernel_rfl) (by kernel_rfl) (fun _ _ _ h => h) (Or.inl ⟨by rfl, ?_⟩) (unhide HH) ?_
        rotate_left 1
        · intro W hSW; go_simp; all_goals (with_reducible rfl)
        (try simp only [Act.put, List.setIfInBounds_toArray, List.set_cons_zero, List.set_cons_succ])
        refine takeL (i := 35) (v := ?_) rfl (by kernel_rfl) (by kernel_rfl) (by kernel_rfl) (fun _ _ _ h => h) (Or.inl ⟨by rfl, ?_⟩) (unhide HH) ?_
        rotate_left 1
        · intro W hSW; go_simp; all_goals (with_reducible rfl)
        (try simp only [Act.put, List.setIfInBounds_toArray, List.set_cons_zero, List.set_cons_succ])
        refine takeL (i := 36) (v := ?_) rfl (by kernel_rfl) (by kernel_rfl) (by kernel_rfl) (fun _ _ _ h => h) (Or.inl ⟨by rfl, ?_⟩) (unhide HH) ?_
        rotate_left 1
        · intro W hSW; go_simp; all_goals (with_reducible rfl)
        (try simp only [Act.put, List.setIfInBounds_toArray, List.set_cons_zero, List.set_cons_succ])
        refine wpAnyH_ready (rs := [33]) (by kernel_rfl) (by simp) ?_
        refine consL rfl (fun K hK => ?_) AllReadyH.nil
        go_simp
        refine (pmul_any _ _ _ _ a b _ (unhide HA) (unhide HB) (by first | omega | simp) (by first | omega | simp)).mono ?_
        rintro e w10 ⟨v10, rfl, hF, hk⟩
        rw [unhide Es1] at hF
        have HK10 : Hid (Below w9.heap.size w9 w10) := hk
        clear hk
        replace HT := hide ((unhide HT).trans ((unhide HK10).mono (unhide HT).size))
        replace HA := hide ((unhide HA).below (unhide HK10))
        replace HA1 := hide ((unhide HA1).below (unhide HK10))
        replace HA2 := hide ((unhide HA2).below (unhide HK10))
        replace HA3 := hide ((unhide HA3).below (unhide HK10))
        replace HA4 := hide ((unhide HA4).below (unhide HK10))
        replace HA5 := hide ((unhide HA5).below (unhide HK10))
        replace HA6 := hide ((unhide HA6).below (unhide HK10))
        replace HA7 := hide ((unhide HA7).below (unhide HK10))
        replace HA8 := hide ((unhide HA8).below (unhide HK10))
        replace HA9 := hide ((unhide HA9).below (unhide HK10))
        replace HB := hide ((unhide HB).below (unhide HK10))
        replace HC := hide ((unhide HC).below (unhide HK10))
        replace HNIL := hide ((unhide HNIL).below (unhide HK10))
        obtain ⟨g10, hA, hge⟩ := hF.arg bs1
        obtain ⟨⟨ao10, c10, rfl, h1, h2, h3, h4⟩, _⟩ := hA
        have HA10 : Hid (Arg w10 (.slice ao10 s1.length c10) g10 s1) := ⟨⟨ao10, c10, rfl, h1, h2, h3, h4⟩, bs1⟩
        clear h1 h2 h3 h4 hF hge
        go_wp2_with fail
        refine hK.out _ _ (unhide HK10) (fun hHeld => ?_)
        clear hK K HH hHeld
        (try simp only [Act.put, List.setIfInBounds_toArray, List.set_cons_zero, List.set_cons_succ])
        refine stronger (S' := fun W => Below w10.heap.size w10 W) (fun W h => (unhide HK10).trans (h.mono (unhide HK10).size)) _ _ _ _ ?_
        have HH : Hid (Below w10.heap.size w10 w10) := Below.refl _ _
        refine takeL (i := 34) (v := ?_) rfl (by kernel_rfl) (by kernel_rfl) (by kernel_rfl) (fun _ _ _ h => h) (Or.inl ⟨by rfl, ?_⟩) (unhide HH) ?_
        rotate_left 1
        · intro W1 hSW; have hcv := conv_arg ((unhide HA10).below hSW); clear hSW; go_simp; all_goals (with_reducible rfl)
        (try simp only [Act.put, List.setIfInBounds_toArray, List.set_cons_zero, List.set_cons_succ])
        refine wpAnyH_ready (rs := [37]) (by kernel_rfl) (by simp) ?_
        refine consL rfl (fun K hK => ?_) AllReadyH.nil
        go_simp
        refine (pmul_any _ _ _ _ b a _ (unhide HB) (unhide HA) (by first | omega | simp) (by first | omega | simp)).mono ?_
        rintro e w11 ⟨v11, rfl, hF, hk⟩
        rw [unhide E11] at hF
        have HK11 : Hid (Below w10.heap.size w10 w11) := hk
        clear hk
        replace HT := hide ((unhide HT).trans ((unhide HK11).mono (unhide HT).size))
        replace HA := hide ((unhide HA).below (unhide HK11))
        replace HA1 := hide ((unhide HA1).below (unhide HK11))
        replace HA10 := hide ((unhide HA10).below (unhide HK11))
        replace HA2 := hide ((unhide HA2).below (unhide HK11))
        replace HA3 := hide ((unhide HA3).below (unhide HK11))
        replace HA4 := hide ((unhide HA4).below (unhide HK11))
        replace HA5 := hide ((unhide HA5).below (unhide HK11))
        replace HA6 := hide ((unhide HA6).below (unhide HK11))
        replace HA7 := hide ((unhide HA7).below (unhide HK11))
        replace HA8 := hide ((unhide HA8).below (unhide HK11))
        replace HA9 := hide ((unhide HA9).below (unhide HK11))
        replace HB := hide ((unhide HB).below (unhide HK11))
        replace HC := hide ((unhide HC).below (unhide HK11))
        replace HNIL := hide ((unhide HNIL).below (unhide HK11))
        obtain ⟨g11, hA, hge⟩ := hF.arg bs1
        obtain ⟨⟨ao11, c11, rfl, h1, h2, h3, h4⟩, _⟩ := hA
        have HA11 : Hid (Arg w11 (.slice ao11 s1.length c11) g11 s1) := ⟨⟨ao11, c11, rfl, h1, h2, h3, h4⟩, bs1⟩
        clear h1 h2 h3 h4 hF hge
        go_wp2_with fail
        refine hK.out _ _ (unhide HK11) (fun hHeld => ?_)
        clear hK K HH hHeld
        (try simp only [Act.put, List.setIfInBounds_toArray, List.set_cons_zero, List.set_cons_succ])
        refine stronger (S' := fun W => Below w11.heap.size w11 W) (fun W h => (unhide HK11).trans (h.mono (unhide HK11).size)) _ _ _ _ ?_
        have HH : Hid (Below w11.heap.size w11 w11) := Below.refl _ _
        refine takeL (i := 38) (v := ?_) rfl (by kernel_rfl) (by kernel_rfl) (by kernel_rfl) (fun _ _ _ h => h) (Or.inl ⟨by rfl, ?_⟩) (unhide HH) ?_
        rotate_left 1
        · intro W1 hSW; have hcv := conv_arg ((unhide HA11).below hSW); clear hSW; go_simp; all_goals (with_reducible rfl)
        (try simp only [Act.put, List.setIfInBounds_toArray, List.set_cons_zero, List.set_cons_succ])
        refine takeL (i := 39) (v := ?_) rfl (by kernel_rfl) (by kernel_rfl) (by kernel_rfl) (fun _ _ _ h => h) (Or.inl ⟨by rfl, ?_⟩) (unhide HH) ?_
        rotate_left 1
        · intro W hSW; go_simp; all_goals (with_reducible rfl)
        (try simp only [Act.put, List.setIfInBounds_toArray, List.set_cons_zero, List.set_cons_succ])
        refine takeL (i := 40) (v := ?_) rfl (by kernel_rfl) (by kernel_rfl) (by kernel_rfl) (fun _ _ _ h => h) (Or.inl ⟨by rfl, ?_⟩) (unhide HH) ?_
        rotate_left 1
        · intro W hSW; go_simp; all_goals (with_reducible rfl)
        (try simp only [Act.put, List.setIfInBounds_toArray, List.set_cons_zero, List.set_cons_succ])
        refine takeL (i := 41) (v := ?_) rfl (by kernel_rfl) (by kernel_rfl) (by kernel_rfl) (fun _ _ _ h => h) (Or.inl ⟨by rfl, ?_⟩) (unhide HH) ?_
        rotate_left 1
        · intro W hSW; go_simp; all_goals (with_reducible rfl)
        (try simp only [Act.put, List.setIfInBounds_toArray, List.set_cons_zero, List.set_cons_succ])
        refine takeL (i := 42) (v := ?_) rfl (by kernel_rfl) (by kernel_rfl) (by kernel_rfl) (fun _ _ _ h => h) (Or.inl ⟨by rfl, ?_⟩) (unhide HH) ?_
        rotate_left 1
        · intro W hSW; go_simp; all_goals (with_reducible rfl)
        (try simp only [Act.put, List.setIfInBounds_toArray, List.set_cons_zero, List.set_cons_succ])
        refine takeL (i := 43) (v := ?_) rfl (by kernel_rfl) (by kernel_rfl) (by kernel_rfl) (fun _ _ _ h => h) (Or.inl ⟨by rfl, ?_⟩) (unhide HH) ?_
        rotate_left 1
        · intro W hSW; go_simp; all_goals (with_reducible rfl)
        (try simp only [Act.put, List.setIfInBounds_toArray, List.set_cons_zero, List.set_cons_succ])
        refine wpAnyH_ready (rs := [44]) (by kernel_rfl) (by simp) ?_
        refine consL rfl (fun K hK => ?_) AllReadyH.nil
        go_simp
        refine (add_any _ _ _ _ a a _ (unhide HA) (unhide HA) (by first | omega | simp) (by first | omega | simp)).mono ?_
        rintro e w12 ⟨v12, rfl, hF, hk⟩
        rw [unhide E12] at hF
        have HK12 : Hid (Below w11.heap.size w11 w12) := hk
        clear hk
        replace HT := hide ((unhide HT).trans ((unhide HK12).mono (unhide HT).size))
        replace HA := hide ((unhide HA).below (unhide HK12))
        replace HA1 := hide ((unhide HA1).below (unhide HK12))
        replace HA10 := hide ((unhide HA10).below (unhide HK12))
        replace HA11 := hide ((unhide HA11).below (unhide HK12))
        replace HA2 := hide ((unhide HA2).below (unhide HK12))
        replace HA3 := hide ((unhide HA3).below (unhide HK12))
        replace HA4 := hide ((unhide HA4).below (unhide HK12))
        replace HA5 := hide ((unhide HA5).below (unhide HK12))
        replace HA6 := hide ((unhide HA6).below (unhide HK12))
        replace HA7 := hide ((unhide HA7).below (unhide HK12))
        replace HA8 := hide ((unhide HA8).below (unhide HK12))
        replace HA9 := hide ((unhide HA9).below (unhide HK12))
        replace HB := hide ((unhide HB).below (unhide HK12))
        replace HC := hide ((unhide HC).below (unhide HK12))
        replace HNIL := hide ((unhide HNIL).below (unhide HK12))
        obtain ⟨g12, hA, hge⟩ := hF.arg Bs.nil
        obtain ⟨⟨ao12, c12, rfl, h1, h2, h3, h4⟩, _⟩ := hA
        have HA12 : Hid (Arg w12 (.slice ao12 ([] : List Nat).length c12) g12 ([] : List Nat)) := ⟨⟨ao12, c12, rfl, h1, h2, h3, h4⟩, Bs.nil⟩
        clear h1 h2 h3 h4 hF hge
        go_wp2_with fail
        refine hK.out _ _ (unhide HK12) (fun hHeld => ?_)
        clear hK K HH hHeld
        (try simp only [Act.put, List.setIfInBounds_toArray, List.set_cons_zero, List.set_cons_succ])
        refine stronger (S' := fun W => Below w12.heap.size w12 W) (fun W h => (unhide HK12).trans (h.mono (unhide HK12).size)) _ _ _ _ ?_
        have HH : Hid (Below w12.heap.size w12 w12) := Below.refl _ _
        refine takeL (i := 45) (v := ?_) rfl (by kernel_rfl) (by kernel_rfl) (by kernel_rfl) (fun _ _ _ h => h) (Or.inl ⟨by rfl, ?_⟩) (unhide HH) ?_
        rotate_left 1
        · intro W hSW; go_simp; all_goals (with_reducible rfl)
        (try simp only [Act.put, List.setIfInBounds_toArray, List.set_cons_zero, List.set_cons_succ])
        refine takeL (i := 46) (v := ?_) rfl (by kernel_rfl) (by kernel_rfl) (by kernel_rfl) (fun _ _ _ h => h) (Or.inl ⟨by rfl, ?_⟩) (unhide HH) ?_
        rotate_left 1
        · intro W hSW; go_simp; all_goals (with_reducible rfl)
        (try simp only [Act.put, List.setIfInBounds_toArray, List.set_cons_zero, List.set_cons_succ])
        refine takeL (i := 47) (v := ?_) rfl (by kernel_rfl) (by kernel_rfl) (by kernel_rfl) (fun _ _ _ h => h) (Or.inl ⟨by rfl, ?_⟩) (unhide HH) ?_
        rotate_left 1
        · intro W hSW; go_simp; all_goals (with_reducible rfl)
        (try simp only [Act.put, List.setIfInBounds_toArray, List.set_cons_zero, List.set_cons_succ])
        refine takeL (i := 48) (v := ?_) rfl (by kernel_rfl) (by kernel_rfl) (by kernel_rfl) (fun _ _ _ h => h) (Or.inl ⟨by rfl, ?_⟩) (unhide HH) ?_
        rotate_left 1
        · intro W hSW; go_simp; all_goals (with_reducible rfl)
        (try simp only [Act.put, List.setIfInBounds_toArray, List.set_cons_zero, List.set_cons_succ])
        refine takeL (i := 49) (v := ?_) rfl (by kernel_rfl) (by kernel_rfl) (by kernel_rfl) (fun _ _ _ h => h) (Or.inl ⟨by rfl, ?_⟩) (unhide HH) ?_
        rotate_left 1
        · intro W hSW; go_simp; all_goals (with_reducible rfl)
        (try simp only [Act.put, List.setIfInBounds_toArray, List.set_cons_zero, List.set_cons_succ])
        refine takeL (i := 52) (v := ?_) rfl (by kernel_rfl) (by kernel_rfl) (by kernel_rfl) (fun _ _ _ h => h) (Or.inl ⟨by rfl, ?_⟩) (unhide HH) ?_
        rotate_left 1
        · intro W hSW; go_simp; all_goals (with_reducible rfl)
        (try simp only [Act.put, List.setIfInBounds_toArray, List.set_cons_zero, List.set_cons_succ])
        refine wpAnyH_ready (rs := [50]) (by kernel_rfl) (by simp) ?_
        refine consL rfl (fun K hK => ?_) AllReadyH.nil
        go_simp
        refine (add_any _ _ _ _ a ([] : List Nat) _ (unhide HA) (unhide HNIL) (by first | omega | simp) (by first | omega | simp)).mono ?_
        rintro e w13 ⟨v13, rfl, hF, hk⟩
        rw [unhide E13] at hF
        have HK13 : Hid (Below w12.heap.size w12 w13) := hk
        clear hk
        replace HT := hide ((unhide HT).trans ((unhide HK13).mono (unhide HT).size))
        replace HA := hide ((unhide HA).below (unhide HK13))
        replace HA1 := hide ((unhide HA1).below (unhide HK13))
        replace HA10 := hide ((unhide HA10).below (unhide HK13))
        replace HA11 := hide ((unhide HA11).below (unhide HK13))
        replace HA12 := hide ((unhide HA12).below (unhide HK13))
        replace HA2 := hide ((unhide HA2).below (unhide HK13))
        replace HA3 := hide ((unhide HA3).below (unhide HK13))
        replace HA4 := hide ((unhide HA4).below (unhide HK13))
        replace HA5 := hide ((unhide HA5).below (unhide HK13))
        replace HA6 := hide ((unhide HA6).below (unhide HK13))
        replace HA7 := hide ((unhide HA7).below (unhide HK13))
        replace HA8 := hide ((unhide HA8).below (unhide HK13))
        replace HA9 := hide ((unhide HA9).below (unhide HK13))
        replace HB := hide ((unhide HB).below (unhide HK13))
        replace HC := hide ((unhide HC).below (unhide HK13))
        replace HNIL := hide ((unhide HNIL).below (unhide HK13))
        obtain ⟨g13, hA, hge⟩ := hF.arg bs13
        obtain ⟨⟨ao13, c13, rfl, h1, h2, h3, h4⟩, _⟩ := hA
        have HA13 : Hid (Arg w13 (.slice ao13 s13.length c13) g13 s13) := ⟨⟨ao13, c13, rfl, h1, h2, h3, h4⟩, bs13⟩
        clear h1 h2 h3 h4 hF hge
        go_wp2_with fail
        refine hK.out _ _ (unhide HK13) (fun hHeld => ?_)
        clear hK K HH hHeld
        (try simp only [Act.put, List.setIfInBounds_toArray, List.set_cons_zero, List.set_cons_succ])
        refine stronger (S' := fun W => Below w13.heap.size w13 W) (fun W h => (unhide HK13).trans (h.mono (unhide HK13).size)) _ _ _ _ ?_
        have HH : Hid (Below w13.heap.size w13 w13) := Below.refl _ _
        refine takeL (i := 51) (v := ?_) rfl (by kernel_rfl) (by kernel_rfl) (by kernel_rfl) (fun _ _ _ h => h) (Or.inl ⟨by rfl, ?_⟩) (unhide HH) ?_
        rotate_left 1
        · intro W1 hSW; have hcv := conv_arg ((unhide HA13).below hSW); clear hSW; go_simp; all_goals (with_reducible rfl)
        (try simp only [Act.put, List.setIfInBounds_toArray, List.set_cons_zero, List.set_cons_succ])
        refine wpAnyH_ready (rs := [53]) (by kernel_rfl) (by simp) ?_
        refine consL rfl (fun K hK => ?_) AllReadyH.nil
        go_simp
        refine (trim_any _ _ a _ (unhide HA) (by omega)).mono ?_
        rintro e w14 ⟨v14, rfl, hF, hk⟩
        rw [unhide Es13] at hF
        have HK14 : Hid (Below w13.heap.size w13 w14) := hk
        clear hk
        replace HT := hide ((unhide HT).trans ((unhide HK14).mono (unhide HT).size))
        replace HA := hide ((unhide HA).below (unhide HK14))
        replace HA1 := hide ((unhide HA1).below (unhide HK14))
        replace HA10 := hide ((unhide HA10).below (unhide HK14))
        replace HA11 := hide ((unhide HA11).below (unhide HK14))
        replace HA12 := hide ((unhide HA12).below (unhide HK14))
        replace HA13 := hide ((unhide HA13).below (unhide HK14))
        replace HA2 := hide ((unhide HA2).below (unhide HK14))
        replace HA3 := hide ((unhide HA3).below (unhide HK14))
        replace HA4 := hide ((unhide HA4).below (unhide HK14))
        replace HA5 := hide ((unhide HA5).below (unhide HK14))
        replace HA6 := hide ((unhide HA6).below (unhide HK14))
        replace HA7 := hide ((unhide HA7).below (unhide HK14))
        replace HA8 := hide ((unhide HA8).below (unhide HK14))
        replace HA9 := hide ((unhide HA9).below (unhide HK14))
        replace HB := hide ((unhide HB).below (unhide HK14))
        replace HC := hide ((unhide HC).below (unhide HK14))
        replace HNIL := hide ((unhide HNIL).below (unhide HK14))
        obtain ⟨g14, hA, hge⟩ := hF.arg bs13
        obtain ⟨⟨ao14, c14, rfl, h1, h2, h3, h4⟩, _⟩ := hA
        have HA14 : Hid (Arg w14 (.slice ao14 s13.length c14) g14 s13) := ⟨⟨ao14, c14, rfl, h1, h2, h3, h4⟩, bs13⟩
        clear h1 h2 h3 h4 hF hge
        go_wp2_with fail
        refine hK.out _ _ (unhide HK14) (fun hHeld => ?_)
        clear hK K HH hHeld
        (try simp only [Act.put, List.setIfInBounds_toArray, List.set_cons_zero, List.set_cons_succ])
        refine stronger (S' := fun W => Below w14.heap.size w14 W) (fun W h => (unhide HK14).trans (h.mono (unhide HK14).size)) _ _ _ _ ?_
        have HH : Hid (Below w14.heap.size w14 w14) := Below.refl _ _
        refine takeL (i := 54) (v := ?_) rfl (by kernel_rfl) (by kernel_rfl) (by kernel_rfl) (fun _ _ _ h => h) (Or.inl ⟨by rfl, ?_⟩) (unhide HH) ?_
        rotate_left 1
        · intro W1 hSW; have hcv := conv_arg ((unhide HA14).below hSW); clear hSW; go_simp; all_goals (with_reducible rfl)
        (try simp only [Act.put, List.setIfInBounds_toArray, List.set_cons_zero, List.set_cons_succ])
        refine takeL (i := 55) (v := ?_) rfl (by kernel_rfl) (by kernel_rfl) (by kernel_rfl) (fun _ _ _ h => h) (Or.inl ⟨by rfl, ?_⟩) (unhide HH) ?_
        rotate_left 1
        · intro W hSW; go_simp; all_goals (with_reducible rfl)
        (try simp only [Act.put, List.setIfInBounds_toArray, List.set_cons_zero, List.set_cons_succ])
        refine takeL (i := 56) (v := ?_) rfl (by kernel_rfl) (by kernel_rfl) (by kernel_rfl) (fun _ _ _ h => h) (Or.inl ⟨by rfl, ?_⟩) (unhide HH) ?_
        rotate_left 1
        · intro W hSW; go_simp; all_goals (with_reducible rfl)
        (try simp only [Act.put, List.setIfInBounds_toArray, List.set_cons_zero, List.set_cons_succ])
        refine takeL (i := 57) (v := ?_) rfl (by kernel_rfl) (by kernel_rfl) (by kernel_rfl) (fun _ _ _ h => h) (Or.inl ⟨by rfl, ?_⟩) (unhide HH) ?_
        rotate_left 1
        · intro W hSW; go_simp; all_goals (with_reducible rfl)
        (try simp only [Act.put, List.setIfInBounds_toArray, List.set_cons_zero, List.set_cons_succ])
        refine takeL (i := 58) (v := ?_) rfl (by kernel_rfl) (by kernel_rfl) (by kernel_rfl) (fun _ _ _ h => h) (Or.inl ⟨by rfl, ?_⟩) (unhide HH) ?_
        rotate_left 1
        · intro W hSW; go_simp; all_goals (with_reducible rfl)
        (try simp only [Act.put, List.setIfInBounds_toArray, List.set_cons_zero, List.set_cons_succ])
        refine wpAnyH_ready (rs := [59]) (by kernel_rfl) (by simp) ?_
        refine consL rfl (fun K hK => ?_) AllReadyH.nil
        go_simp
        refine (pmul_any _ _ _ _ a ([] : List Nat) _ (unhide HA) (unhide HNIL) (by first | omega | simp) (by first | omega | simp)).mono ?_
        rintro e w15 ⟨v15, rfl, hF, hk⟩
        rw [unhide E15] at hF
        have HK15 : Hid (Below w14.heap.size w14 w15) := hk
        clear hk
        replace HT := hide ((unhide HT).trans ((unhide HK15).mono (unhide HT).size))
        replace HA := hide ((unhide HA).below (unhide HK15))
        replace HA1 := hide ((unhide HA1).below (unhide HK15))
        replace HA10 := hide ((unhide HA10).below (unhide HK15))
        replace HA11 := hide ((unhide HA11).below (unhide HK15))
        replace HA12 := hide ((unhide HA12).below (unhide HK15))
        replace HA13 := hide ((unhide HA13).below (unhide HK15))
        replace HA14 := hide ((unhide HA14).below (unhide HK15))
        replace HA2 := hide ((unhide HA2).below (unhide HK15))
        replace HA3 := hide ((unhide HA3).below (unhide HK15))
        replace HA4 := hide ((unhide HA4).below (unhide HK15))
        replace HA5 := hide ((unhide HA5).below (unhide HK15))
        replace HA6 := hide ((unhide HA6).below (unhide HK15))
        replace HA7 := hide ((unhide HA7).below (unhide HK15))
        replace HA8 := hide ((unhide HA8).below (unhide HK15))
        replace HA9 := hide ((unhide HA9).below (unhide HK15))
        replace HB := hide ((unhide HB).below (unhide HK15))
        replace HC := hide ((unhide HC).below (unhide HK15))
        replace HNIL := hide ((unhide HNIL).below (unhide HK15))
        obtain ⟨g15, hA, hge⟩ := hF.arg Bs.nil
        obtain ⟨⟨ao15, c15, rfl, h1, h2, h3, h4⟩, _⟩ := hA
        have HA15 : Hid (Arg w15 (.slice ao15 ([] : List Nat).length c15) g15 ([] : List Nat)) := ⟨⟨ao15, c15, rfl, h1, h2, h3, h4⟩, Bs.nil⟩
        clear h1 h2 h3 h4 hF hge
        go_wp2_with fail
        refine hK.out _ _ (unhide HK15) (fun hHeld => ?_)
        clear hK K HH hHeld
        (try simp only [Act.put, List.setIfInBounds_toArray, List.set_cons_zero, List.set_cons_succ])
        refine stronger (S' := fun W => Below w15.heap.size w15 W) (fun W h => (unhide HK15).trans (h.mono (unhide HK15).size)) _ _ _ _ ?_
        have HH : Hid (Below w15.heap.size w15 w15) := Below.refl _ _
        refine takeL (i := 60) (v := ?_) rfl (by kernel_rfl) (by kernel_rfl) (by kernel_rfl) (fun _ _ _ h => h) (Or.inl ⟨by rfl, ?_⟩) (unhide HH) ?_
        rotate_left 1
        · intro W hSW; go_simp; all_goals (with_reducible rfl)
        (try simp only [Act.put, List.setIfInBounds_toArray, List.set_cons_zero, List.set_cons_succ])
        refine takeL (i := 61) (v := ?_) rfl (by kernel_rfl) (by kernel_rfl) (by kernel_rfl) (fun _ _ _ h => h) (Or.inl ⟨by rfl, ?_⟩) (unhide HH) ?_
        rotate_left 1
        · intro W hSW; go_simp; all_goals (with_reducible rfl)
        (try simp only [Act.put, List.setIfInBounds_toArray, List.set_cons_zero, List.set_cons_succ])
        refine takeL (i := 62) (v := ?_) rfl (by kernel_rfl) (by kernel_rfl) (by kernel_rfl) (fun _ _ _ h => h) (Or.inl ⟨by rfl, ?_⟩) (unhide HH) ?_
        rotate_left 1
        · intro W hSW; go_simp; all_goals (with_reducible rfl)
        (try simp only [Act.put, List.setIfInBounds_toArray, List.set_cons_zero, List.set_cons_succ])
        refine takeL (i := 63) (v := ?_) rfl (by kernel_rfl) (by kernel_rfl) (by kernel_rfl) (fun _ _ _ h => h) (Or.inl ⟨by rfl, ?_⟩) (unhide HH) ?_
        rotate_left 1
        · intro W hSW; go_simp; all_goals (with_reducible rfl)
        (try simp only [Act.put, List.setIfInBounds_toArray, List.set_cons_zero, List.set_cons_succ])
        refine wpAnyH_done (by kernel_rfl) ?_ _
        refine NoPanic.normal ?_
        go_wp2
        go_ret
        exact ⟨rfl, unhide HT⟩

end Go.Proofs.Ytibmfblppjcenaa
