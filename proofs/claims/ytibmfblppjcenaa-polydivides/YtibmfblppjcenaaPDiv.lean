/-
  The walk of PolyDivides.
-/
import Derived.Test.YtibmfblppjcenaaLk
namespace Go.Proofs.Ytibmfblppjcenaa
open Go.RowKit

set_option maxRecDepth 100000 in
set_option maxHeartbeats 16000000 in
theorem divides_walk (va vb : Value) (ga gb : Nat) (a b : List Nat) (w : World) (hA : Arg w va ga a) (hB : Arg w vb gb b) :
    Calls Try.prog 4 #[va, vb] w fun x w' => x = .returned (.bool true) ∧ Below w.heap.size w w' := by
  have HA := hide hA
  have HB := hide hB
  obtain ⟨⟨ao, ca, rfl, _⟩, hbs⟩ := hA
  obtain ⟨⟨bo, cb, rfl, _⟩, hbs2⟩ := hB
  by_cases hla : 40 < a.length
  · have hla' : (40 : Int) < (a.length : Int) := by omega
    go_enter Try.func4, Try.ntmps4
    go_wp2_with fail
    refine (known_any w).mono ?_
    rintro x w1 ⟨rfl, hk1⟩
    have HK1 := hide hk1
    clear hk1
    go_wp2
    go_ret
    exact ⟨rfl, unhide HK1⟩
  · have hla' : (a.length : Int) ≤ 40 := by omega
    by_cases hlb : 40 < b.length
    · have hlb' : (40 : Int) < (b.length : Int) := by omega
      go_enter Try.func4, Try.ntmps4
      go_wp2_with fail
      refine (known_any w).mono ?_
      rintro x w1 ⟨rfl, hk1⟩
      have HK1 := hide hk1
      clear hk1
      go_wp2
      go_ret
      exact ⟨rfl, unhide HK1⟩
    · have hlb' : (b.length : Int) ≤ 40 := by omega
      by_cases hd0 : trim b = []
      · have ED0 := hide hd0
        go_enter Try.func4, Try.ntmps4
        go_wp2_with fail
        refine (known_any w).mono ?_
        rintro x w0 ⟨rfl, hk⟩
        replace HA := hide ((unhide HA).below hk)
        replace HB := hide ((unhide HB).below hk)
        have HT := hide hk
        clear hk
        go_wp2_with fail
        refine (trim_any _ _ b _ (unhide HB) (by omega)).mono ?_
        rintro e w1 ⟨v1, rfl, hF, hk⟩
        rw [unhide ED0] at hF
        have HK1 : Hid (Below w0.heap.size w0 w1) := hk
        clear hk
        replace HT := hide ((unhide HT).trans ((unhide HK1).mono (unhide HT).size))
        replace HA := hide ((unhide HA).below (unhide HK1))
        replace HB := hide ((unhide HB).below (unhide HK1))
        obtain ⟨g1, hA, hge⟩ := hF.arg Bs.nil
        obtain ⟨⟨ao1, c1, rfl, h1, h2, h3, h4⟩, _⟩ := hA
        have HA1 : Hid (Arg w1 (.slice ao1 ([] : List Nat).length c1) g1 ([] : List Nat)) := ⟨⟨ao1, c1, rfl, h1, h2, h3, h4⟩, Bs.nil⟩
        clear h1 h2 h3 h4 hF hge
        go_wp2_with fail
        refine (div_nought _ _ _ _ a b _ (unhide HA) (unhide HB) hd0).mono ?_
        rintro e w2 ⟨rfl, hk⟩
        have HK2 : Hid (Below w1.heap.size w1 w2) := hk
        clear hk
        replace HT := hide ((unhide HT).trans ((unhide HK2).mono (unhide HT).size))
        replace HA := hide ((unhide HA).below (unhide HK2))
        replace HA1 := hide ((unhide HA1).below (unhide HK2))
        replace HB := hide ((unhide HB).below (unhide HK2))
        go_wp2
        go_ret
        exact ⟨rfl, unhide HT⟩
      · obtain ⟨d, ed⟩ : ∃ s, trim b = s := ⟨_, rfl⟩
        have bd : Bs d := by rw [← ed]; exact hbs2.trim
        have ld : d.length ≤ 40 := by
          rw [← ed]
          have := trim_len b; omega
        have Ed := hide ed
        clear ed
        obtain ⟨s1, es1⟩ : ∃ s, trim (pmul a b) = s := ⟨_, rfl⟩
        have bs1 : Bs s1 := by rw [← es1]; exact (Bs.pmul hbs).trim
        have ls1 : s1.length ≤ 80 := by
          rw [← es1]
          have := len_mul a b; omega
        have Es1 := hide es1
        clear es1
        obtain ⟨s3, es3⟩ : ∃ s, trim a = s := ⟨_, rfl⟩
        have bs3 : Bs s3 := by rw [← es3]; exact hbs.trim
        have ls3 : s3.length ≤ 40 := by
          rw [← es3]
          have := trim_len a; omega
        have Es3 := hide es3
        clear es3
        have HDV : Hid (IsDiv s1 b s3 []) := by
          rw [← unhide Es1, ← unhide Es3]
          refine ⟨trim_trim a, rfl, hbs.trim, Bs.nil, by have := List.length_pos_iff.2 hd0; simpa using this, fun i => ?_⟩
          rw [cf_padd, cf_nil, Nat.xor_zero, cf_trim, pmul_left hbs.trim hbs2 (cf_trim a) i]
        have ldp : 0 < d.length := by rw [← unhide Ed]; exact List.length_pos_iff.2 hd0
        go_enter Try.func4, Try.ntmps4
        go_wp2_with fail
        refine (known_any w).mono ?_
        rintro x w0 ⟨rfl, hk⟩
        replace HA := hide ((unhide HA).below hk)
        replace HB := hide ((unhide HB).below hk)
        have HT := hide hk
        clear hk
        go_wp2_with fail
        refine (trim_any _ _ b _ (unhide HB) (by omega)).mono ?_
        rintro e w1 ⟨v1, rfl, hF, hk⟩
        rw [unhide Ed] at hF
        have HK1 : Hid (Below w0.heap.size w0 w1) := hk
        clear hk
        replace HT := hide ((unhide HT).trans ((unhide HK1).mono (unhide HT).size))
        replace HA := hide ((unhide HA).below (unhide HK1))
        replace HB := hide ((unhide HB).below (unhide HK1))
        obtain ⟨g1, hA, hge⟩ := hF.arg bd
        obtain ⟨⟨ao1, c1, rfl, h1, h2, h3, h4⟩, _⟩ := hA
        have HA1 : Hid (Arg w1 (.slice ao1 d.length c1) g1 d) := ⟨⟨ao1, c1, rfl, h1, h2, h3, h4⟩, bd⟩
        clear h1 h2 h3 h4 hF hge
        go_wp2_with fail
        refine (div_any _ _ _ _ a b _ (unhide HA) (unhide HB) (by omega) (by omega) hd0).mono ?_
        rintro e w2 ⟨v1, v2, q, r, rfl, hdiv, hF1, hF2, hk⟩
        have hq := hdiv.bq
        have hr := hdiv.br
        have hln := hdiv.len hbs2
        have hrd := hdiv.lt
        rw [unhide Ed] at hrd
        have hrd' : (r.length : Int) < (d.length : Int) := by omega
        have ld0 : ((d.length : Int) == 0) = false := by rw [beq_eq_false_iff_ne]; omega
        obtain ⟨s5, es5⟩ : ∃ s, trim (pmul q d) = s := ⟨_, rfl⟩
        have bs5 : Bs s5 := by rw [← es5]; exact (Bs.pmul hq).trim
        have ls5 : s5.length ≤ 200 := by
          rw [← es5]
          have := len_mul q d
          omega
        have E6 : Hid (trim (padd s5 r) = s3) := by
          show _ = _
          rw [← unhide Es3, ← es5, ← unhide Ed]
          refine trim_congr (fun i => ?_)
          rw [cf_padd, cf_trim, pmul_right q (cf_trim b) i, ← hdiv.eq i, cf_padd]
        have Es5 := hide es5
        clear es5 hdiv
        have HK2 : Hid (Below w1.heap.size w1 w2) := hk
        clear hk
        replace HT := hide ((unhide HT).trans ((unhide HK2).mono (unhide HT).size))
        replace HA := hide ((unhide HA).below (unhide HK2))
        replace HA1 := hide ((unhide HA1).below (unhide HK2))
        replace HB := hide ((unhide HB).below (unhide HK2))
        obtain ⟨gq1, hA, hge⟩ := hF1.arg hq
        obtain ⟨⟨aq1, cq1, rfl, h1, h2, h3, h4⟩, _⟩ := hA
        have HQ1 : Hid (Arg w2 (.slice aq1 q.length cq1) gq1 q) := ⟨⟨aq1, cq1, rfl, h1, h2, h3, h4⟩, hq⟩
        clear h1 h2 h3 h4 hF1 hge
        obtain ⟨gq2, hA, hge⟩ := hF2.arg hr
        obtain ⟨⟨aq2, cq2, rfl, h1, h2, h3, h4⟩, _⟩ := hA
        have HQ2 : Hid (Arg w2 (.slice aq2 r.length cq2) gq2 r) := ⟨⟨aq2, cq2, rfl, h1, h2, h3, h4⟩, hr⟩
        clear h1 h2 h3 h4 hF2 hge
        go_wp2_with fail
        refine (pmul_any _ _ _ _ a b _ (unhide HA) (unhide HB) (by omega) (by omega)).mono ?_
        rintro e w3 ⟨v3, rfl, hF, hk⟩
        rw [unhide Es1] at hF
        have HK3 : Hid (Below w2.heap.size w2 w3) := hk
        clear hk
        replace HT := hide ((unhide HT).trans ((unhide HK3).mono (unhide HT).size))
        replace HA := hide ((unhide HA).below (unhide HK3))
        replace HA1 := hide ((unhide HA1).below (unhide HK3))
        replace HB := hide ((unhide HB).below (unhide HK3))
        replace HQ1 := hide ((unhide HQ1).below (unhide HK3))
        replace HQ2 := hide ((unhide HQ2).below (unhide HK3))
        obtain ⟨g3, hA, hge⟩ := hF.arg bs1
        obtain ⟨⟨ao3, c3, rfl, h1, h2, h3, h4⟩, _⟩ := hA
        have HA3 : Hid (Arg w3 (.slice ao3 s1.length c3) g3 s1) := ⟨⟨ao3, c3, rfl, h1, h2, h3, h4⟩, bs1⟩
        clear h1 h2 h3 h4 hF hge
        go_wp2_with fail
        refine (div_any _ _ _ _ s1 b _ (unhide HA3) (unhide HB) (by omega) (by omega) hd0).mono ?_
        rintro e w4 ⟨v1, v2, p, z, rfl, hdiv, hF1, hF2, hk⟩
        obtain ⟨ep, ez⟩ := hdiv.once hbs2 (unhide HDV)
        subst ez
        rw [ep] at hF1
        clear hdiv
        have HK4 : Hid (Below w3.heap.size w3 w4) := hk
        clear hk
        replace HT := hide ((unhide HT).trans ((unhide HK4).mono (unhide HT).size))
        replace HA := hide ((unhide HA).below (unhide HK4))
        replace HA1 := hide ((unhide HA1).below (unhide HK4))
        replace HA3 := hide ((unhide HA3).below (unhide HK4))
        replace HB := hide ((unhide HB).below (unhide HK4))
        replace HQ1 := hide ((unhide HQ1).below (unhide HK4))
        replace HQ2 := hide ((unhide HQ2).below (unhide HK4))
        obtain ⟨gq3, hA, hge⟩ := hF1.arg bs3
        obtain ⟨⟨aq3, cq3, rfl, h1, h2, h3, h4⟩, _⟩ := hA
        have HQ3 : Hid (Arg w4 (.slice aq3 s3.length cq3) gq3 s3) := ⟨⟨aq3, cq3, rfl, h1, h2, h3, h4⟩, bs3⟩
        clear h1 h2 h3 h4 hF1 hge
        obtain ⟨gq4, hA, hge⟩ := hF2.arg Bs.nil
        obtain ⟨⟨aq4, cq4, rfl, h1, h2, h3, h4⟩, _⟩ := hA
        have HQ4 : Hid (Arg w4 (.slice aq4 ([] : List Nat).length cq4) gq4 ([] : List Nat)) := ⟨⟨aq4, cq4, rfl, h1, h2, h3, h4⟩, Bs.nil⟩
        clear h1 h2 h3 h4 hF2 hge
        go_wp2_with fail
        replace HT := hide ((unhide HT).drew)
        replace HA := hide ((unhide HA).below (Below.refl _ _).drew)
        replace HA1 := hide ((unhide HA1).below (Below.refl _ _).drew)
        replace HA3 := hide ((unhide HA3).below (Below.refl _ _).drew)
        replace HB := hide ((unhide HB).below (Below.refl _ _).drew)
        replace HQ1 := hide ((unhide HQ1).below (Below.refl _ _).drew)
        replace HQ2 := hide ((unhide HQ2).below (Below.refl _ _).drew)
        replace HQ3 := hide ((unhide HQ3).below (Below.refl _ _).drew)
        replace HQ4 := hide ((unhide HQ4).below (Below.refl _ _).drew)
        refine wp_region_noPanic ?_
        refine wp_region_held_drew (S := fun W => Below w4.drew.heap.size w4.drew W) (by kernel_rfl) (Below.refl _ _) (fun hHeld => ?_)
        have HH := hide hHeld
        clear hHeld
        refine takeL (i := 0) (v := ?_) rfl (by kernel_rfl) (by kernel_rfl) (by kernel_rfl) (fun _ _ _ h => h) (Or.inl ⟨by rfl, ?_⟩) (unhide HH) ?_
        rotate_left 1
        · intro W hSW; go_simp; all_goals (with_reducible rfl)
        (try simp only [Act.put, List.setIfInBounds_toArray, List.set_cons_zero, List.set_cons_succ])
        refine takeL (i := 1) (v := ?_) rfl (by kernel_rfl) (by kernel_rfl) (by kernel_rfl) (fun _ _ _ h => h) (Or.inl ⟨by rfl, ?_⟩) (unhide HH) ?_
        rotate_left 1
        · intro W hSW; go_simp; all_goals (with_reducible rfl)
        (try simp only [Act.put, List.setIfInBounds_toArray, List.set_cons_zero, List.set_cons_succ])
        refine takeL (i := 2) (v := ?_) rfl (by kernel_rfl) (by kernel_rfl) (by kernel_rfl) (fun _ _ _ h => h) (Or.inl ⟨by rfl, ?_⟩) (unhide HH) ?_
        rotate_left 1
        · intro W hSW; go_simp; all_goals (with_reducible rfl)
        (try simp only [Act.put, List.setIfInBounds_toArray, List.set_cons_zero, List.set_cons_succ])
        refine takeL (i := 3) (v := ?_) rfl (by kernel_rfl) (by kernel_rfl) (by kernel_rfl) (fun _ _ _ h => h) (Or.inl ⟨by rfl, ?_⟩) (unhide HH) ?_
        rotate_left 1
        · intro W hSW; go_simp; all_goals (with_reducible rfl)
        (try simp only [Act.put, List.setIfInBounds_toArray, List.set_cons_zero, List.set_cons_succ])
        refine takeL (i := 4) (v := ?_) rfl (by kernel_rfl) (by kernel_rfl) (by kernel_rfl) (fun _ _ _ h => h) (Or.inl ⟨by rfl, ?_⟩) (unhide HH) ?_
        rotate_left 1
        · intro W hSW; go_simp; all_goals (with_reducible rfl)
        (try simp only [Act.put, List.setIfInBounds_toArray, List.set_cons_zero, List.set_cons_succ])
        refine takeL (i := 5) (v := ?_) rfl (by kernel_rfl) (by kernel_rfl) (by kernel_rfl) (fun _ _ _ h => h) (Or.inl ⟨by rfl, ?_⟩) (unhide HH) ?_
        rotate_left 1
        · intro W hSW; go_simp; all_goals (with_reducible rfl)
        (try simp only [Act.put, List.setIfInBounds_toArray, List.set_cons_zero, List.set_cons_succ])
        refine takeL (i := 6) (v := ?_) rfl (by kernel_rfl) (by kernel_rfl) (by kernel_rfl) (fun _ _ _ h => h) (Or.inl ⟨by rfl, ?_⟩) (unhide HH) ?_
        rotate_left 1
        · intro W hSW; go_simp; all_goals (with_reducible rfl)
        (try simp only [Act.put, List.setIfInBounds_toArray, List.set_cons_zero, List.set_cons_succ])
        refine takeL (i := 7) (v := ?_) rfl (by kernel_rfl) (by kernel_rfl) (by kernel_rfl) (fun _ _ _ h => h) (Or.inl ⟨by rfl, ?_⟩) (unhide HH) ?_
        rotate_left 1
        · intro W hSW; go_simp; all_goals (with_reducible rfl)
        (try simp only [Act.put, List.setIfInBounds_toArray, List.set_cons_zero, List.set_cons_succ])
        refine takeL (i := 8) (v := ?_) rfl (by kernel_rfl) (by kernel_rfl) (by kernel_rfl) (fun _ _ _ h => h) (Or.inl ⟨by rfl, ?_⟩) (unhide HH) ?_
        rotate_left 1
        · intro W hSW; go_simp; all_goals (with_reducible rfl)
        (try simp only [Act.put, List.setIfInBounds_toArray, List.set_cons_zero, List.set_cons_succ])
        refine takeL (i := 9) (v := ?_) rfl (by kernel_rfl) (by kernel_rfl) (by kernel_rfl) (fun _ _ _ h => h) (Or.inl ⟨by rfl, ?_⟩) (unhide HH) ?_
        rotate_left 1
        · intro W hSW; go_simp; all_goals (with_reducible rfl)
        (try simp only [Act.put, List.setIfInBounds_toArray, List.set_cons_zero, List.set_cons_succ])
        refine takeL (i := 10) (v := ?_) rfl (by kernel_rfl) (by kernel_rfl) (by kernel_rfl) (fun _ _ _ h => h) (Or.inl ⟨by rfl, ?_⟩) (unhide HH) ?_
        rotate_left 1
        · intro W hSW; go_simp; all_goals (with_reducible rfl)
        (try simp only [Act.put, List.setIfInBounds_toArray, List.set_cons_zero, List.set_cons_succ])
        refine takeL (i := 11) (v := ?_) rfl (by kernel_rfl) (by kernel_rfl) (by kernel_rfl) (fun _ _ _ h => h) (Or.inl ⟨by rfl, ?_⟩) (unhide HH) ?_
        rotate_left 1
        · intro W hSW; go_simp; all_goals (with_reducible rfl)
        (try simp only [Act.put, List.setIfInBounds_toArray, List.set_cons_zero, List.set_cons_succ])
        refine takeL (i := 12) (v := ?_) rfl (by kernel_rfl) (by kernel_rfl) (by kernel_rfl) (fun _ _ _ h => h) (Or.inl ⟨by rfl, ?_⟩) (unhide HH) ?_
        rotate_left 1
        · intro W hSW; go_simp; all_goals (with_reducible rfl)
        (try simp only [Act.put, List.setIfInBounds_toArray, List.set_cons_zero, List.set_cons_succ])
        refine takeL (i := 13) (v := ?_) rfl (by kernel_rfl) (by kernel_rfl) (by kernel_rfl) (fun _ _ _ h => h) (Or.inl ⟨by rfl, ?_⟩) (unhide HH) ?_
        rotate_left 1
        · intro W hSW; go_simp; all_goals (with_reducible rfl)
        (try simp only [Act.put, List.setIfInBounds_toArray, List.set_cons_zero, List.set_cons_succ])
        refine takeL (i := 15) (v := ?_) rfl (by kernel_rfl) (by kernel_rfl) (by kernel_rfl) (fun _ _ _ h => h) (Or.inl ⟨by rfl, ?_⟩) (unhide HH) ?_
        rotate_left 1
        · intro W hSW; go_simp; all_goals (with_reducible rfl)
        (try simp only [Act.put, List.setIfInBounds_toArray, List.set_cons_zero, List.set_cons_succ])
        refine takeL (i := 18) (v := ?_) rfl (by kernel_rfl) (by kernel_rfl) (by kernel_rfl) (fun _ _ _ h => h) (Or.inl ⟨by rfl, ?_⟩) (unhide HH) ?_
        rotate_left 1
        · intro W hSW; go_simp; all_goals (with_reducible rfl)
        (try simp only [Act.put, List.setIfInBounds_toArray, List.set_cons_zero, List.set_cons_succ])
        refine wpAnyH_ready (rs := [14]) (by kernel_rfl) (by simp) ?_
        refine consL rfl (fun K hK => ?_) AllReadyH.nil
        go_simp
        refine (pmul_any _ _ _ _ q d _ (unhide HQ1) (unhide HA1) (by omega) (by omega)).mono ?_
        rintro e w5 ⟨v5, rfl, hF, hk⟩
        rw [unhide Es5] at hF
        have HK5 : Hid (Below w4.drew.heap.size w4.drew w5) := hk
        clear hk
        replace HT := hide ((unhide HT).trans ((unhide HK5).mono (unhide HT).size))
        replace HA := hide ((unhide HA).below (unhide HK5))
        replace HA1 := hide ((unhide HA1).below (unhide HK5))
        replace HA3 := hide ((unhide HA3).below (unhide HK5))
        replace HB := hide ((unhide HB).below (unhide HK5))
        replace HQ1 := hide ((unhide HQ1).below (unhide HK5))
        replace HQ2 := hide ((unhide HQ2).below (unhide HK5))
        replace HQ3 := hide ((unhide HQ3).below (unhide HK5))
        replace HQ4 := hide ((unhide HQ4).below (unhide HK5))
        obtain ⟨g5, hA, hge⟩ := hF.arg bs5
        obtain ⟨⟨ao5, c5, rfl, h1, h2, h3, h4⟩, _⟩ := hA
        have HA5 : Hid (Arg w5 (.slice ao5 s5.length c5) g5 s5) := ⟨⟨ao5, c5, rfl, h1, h2, h3, h4⟩, bs5⟩
        clear h1 h2 h3 h4 hF hge
        go_wp2_with fail
        refine hK.out _ _ (unhide HK5) (fun hHeld => ?_)
        clear hK K HH hHeld
        (try simp only [Act.put, List.setIfInBounds_toArray, List.set_cons_zero, List.set_cons_succ])
        refine stronger (S' := fun W => Below w5.heap.size w5 W) (fun W h => (unhide HK5).trans (h.mono (unhide HK5).size)) _ _ _ _ ?_
        have HH : Hid (Below w5.heap.size w5 w5) := Below.refl _ _
        refine wpAnyH_ready (rs := [16]) (by kernel_rfl) (by simp) ?_
        refine consL rfl (fun K hK => ?_) AllReadyH.nil
        go_simp
        refine (add_any _ _ _ _ s5 r _ (unhide HA5) (unhide HQ2) (by omega) (by omega)).mono ?_
        rintro e w6 ⟨v6, rfl, hF, hk⟩
        rw [unhide E6] at hF
        have HK6 : Hid (Below w5.heap.size w5 w6) := hk
        clear hk
        replace HT := hide ((unhide HT).trans ((unhide HK6).mono (unhide HT).size))
        replace HA := hide ((unhide HA).below (unhide HK6))
        replace HA1 := hide ((unhide HA1).below (unhide HK6))
        replace HA3 := hide ((unhide HA3).below (unhide HK6))
        replace HA5 := hide ((unhide HA5).below (unhide HK6))
        replace HB := hide ((unhide HB).below (unhide HK6))
        replace HQ1 := hide ((unhide HQ1).below (unhide HK6))
        replace HQ2 := hide ((unhide HQ2).below (unhide HK6))
        replace HQ3 := hide ((unhide HQ3).below (unhide HK6))
        replace HQ4 := hide ((unhide HQ4).below (unhide HK6))
        obtain ⟨g6, hA, hge⟩ := hF.arg bs3
        obtain ⟨⟨ao6, c6, rfl, h1, h2, h3, h4⟩, _⟩ := hA
        have HA6 : Hid (Arg w6 (.slice ao6 s3.length c6) g6 s3) := ⟨⟨ao6, c6, rfl, h1, h2, h3, h4⟩, bs3⟩
        clear h1 h2 h3 h4 hF hge
        go_wp2_with fail
        refine hK.out _ _ (unhide HK6) (fun hHeld => ?_)
        clear hK K HH hHeld
        (try simp only [Act.put, List.setIfInBounds_toArray, List.set_cons_zero, List.set_cons_succ])
        refine stronger (S' := fun W => Below w6.heap.size w6 W) (fun W h => (unhide HK6).trans (h.mono (unhide HK6).size)) _ _ _ _ ?_
        have HH : Hid (Below w6.heap.size w6 w6) := Below.refl _ _
        refine takeL (i := 17) (v := ?_) rfl (by kernel_rfl) (by kernel_rfl) (by kernel_rfl) (fun _ _ _ h => h) (Or.inl ⟨by rfl, ?_⟩) (unhide HH) ?_
        rotate_left 1
        · intro W1 hSW; have hcv := conv_arg ((unhide HA6).below hSW); clear hSW; go_simp; all_goals (with_reducible rfl)
        (try simp only [Act.put, List.setIfInBounds_toArray, List.set_cons_zero, List.set_cons_succ])
        refine wpAnyH_ready (rs := [19]) (by kernel_rfl) (by simp) ?_
        refine consL rfl (fun K hK => ?_) AllReadyH.nil
        go_simp
        refine (trim_any _ _ a _ (unhide HA) (by omega)).mono ?_
        rintro e w7 ⟨v7, rfl, hF, hk⟩
        rw [unhide Es3] at hF
        have HK7 : Hid (Below w6.heap.size w6 w7) := hk
        clear hk
        replace HT := hide ((unhide HT).trans ((unhide HK7).mono (unhide HT).size))
        replace HA := hide ((unhide HA).below (unhide HK7))
        replace HA1 := hide ((unhide HA1).below (unhide HK7))
        replace HA3 := hide ((unhide HA3).below (unhide HK7))
        replace HA5 := hide ((unhide HA5).below (unhide HK7))
        replace HA6 := hide ((unhide HA6).below (unhide HK7))
        replace HB := hide ((unhide HB).below (unhide HK7))
        replace HQ1 := hide ((unhide HQ1).below (unhide HK7))
        replace HQ2 := hide ((unhide HQ2).below (unhide HK7))
        replace HQ3 := hide ((unhide HQ3).below (unhide HK7))
        replace HQ4 := hide ((unhide HQ4).below (unhide HK7))
        obtain ⟨g7, hA, hge⟩ := hF.arg bs3
        obtain ⟨⟨ao7, c7, rfl, h1, h2, h3, h4⟩, _⟩ := hA
        have HA7 : Hid (Arg w7 (.slice ao7 s3.length c7) g7 s3) := ⟨⟨ao7, c7, rfl, h1, h2, h3, h4⟩, bs3⟩
        clear h1 h2 h3 h4 hF hge
        go_wp2_with fail
        refine hK.out _ _ (unhide HK7) (fun hHeld => ?_)
        clear hK K HH hHeld
        (try simp only [Act.put, List.setIfInBounds_toArray, List.set_cons_zero, List.set_cons_succ])
        refine stronger (S' := fun W => Below w7.heap.size w7 W) (fun W h => (unhide HK7).trans (h.mono (unhide HK7).size)) _ _ _ _ ?_
        have HH : Hid (Below w7.heap.size w7 w7) := Below.refl _ _
        refine takeL (i := 20) (v := ?_) rfl (by kernel_rfl) (by kernel_rfl) (by kernel_rfl) (fun _ _ _ h => h) (Or.inl ⟨by rfl, ?_⟩) (unhide HH) ?_
        rotate_left 1
        · intro W1 hSW; have hcv := conv_arg ((unhide HA7).below hSW); clear hSW; go_simp; all_goals (with_reducible rfl)
        (try simp only [Act.put, List.setIfInBounds_toArray, List.set_cons_zero, List.set_cons_succ])
        refine takeL (i := 21) (v := ?_) rfl (by kernel_rfl) (by kernel_rfl) (by kernel_rfl) (fun _ _ _ h => h) (Or.inl ⟨by rfl, ?_⟩) (unhide HH) ?_
        rotate_left 1
        · intro W hSW; go_simp; all_goals (with_reducible rfl)
        (try simp only [Act.put, List.setIfInBounds_toArray, List.set_cons_zero, List.set_cons_succ])
        refine takeL (i := 22) (v := ?_) rfl (by kernel_rfl) (by kernel_rfl) (by kernel_rfl) (fun _ _ _ h => h) (Or.inl ⟨by rfl, ?_⟩) (unhide HH) ?_
        rotate_left 1
        · intro W hSW; go_simp; all_goals (with_reducible rfl)
        (try simp only [Act.put, List.setIfInBounds_toArray, List.set_cons_zero, List.set_cons_succ])
        refine takeL (i := 23) (v := ?_) rfl (by kernel_rfl) (by kernel_rfl) (by kernel_rfl) (fun _ _ _ h => h) (Or.inl ⟨by rfl, ?_⟩) (unhide HH) ?_
        rotate_left 1
        · intro W hSW; go_simp; all_goals (with_reducible rfl)
        (try simp only [Act.put, List.setIfInBounds_toArray, List.set_cons_zero, List.set_cons_succ])
        refine takeL (i := 24) (v := ?_) rfl (by kernel_rfl) (by kernel_rfl) (by kernel_rfl) (fun _ _ _ h => h) (Or.inl ⟨by rfl, ?_⟩) (unhide HH) ?_
        rotate_left 1
        · intro W hSW; go_simp; all_goals (with_reducible rfl)
        (try simp only [Act.put, List.setIfInBounds_toArray, List.set_cons_zero, List.set_cons_succ])
        refine takeL (i := 25) (v := ?_) rfl (by kernel_rfl) (by kernel_rfl) (by kernel_rfl) (fun _ _ _ h => h) (Or.inl ⟨by rfl, ?_⟩) (unhide HH) ?_
        rotate_left 1
        · intro W hSW; go_simp; all_goals (with_reducible rfl)
        (try simp only [Act.put, List.setIfInBounds_toArray, List.set_cons_zero, List.set_cons_succ])
        refine takeL (i := 26) (v := ?_) rfl (by kernel_rfl) (by kernel_rfl) (by kernel_rfl) (fun _ _ _ h => h) (Or.inl ⟨by rfl, ?_⟩) (unhide HH) ?_
        rotate_left 1
        · intro W hSW; go_simp; all_goals (with_reducible rfl)
        (try simp only [Act.put, List.setIfInBounds_toArray, List.set_cons_zero, List.set_cons_succ])
        refine takeL (i := 27) (v := ?_) rfl (by kernel_rfl) (by kernel_rfl) (by kernel_rfl) (fun _ _ _ h => h) (Or.inl ⟨by rfl, ?_⟩) (unhide HH) ?_
        rotate_left 1
        · intro W hSW; go_simp; all_goals (with_reducible rfl)
        (try simp only [Act.put, List.setIfInBounds_toArray, List.set_cons_zero, List.set_cons_succ])
        refine takeL (i := 28) (v := ?_) rfl (by kernel_rfl) (by kernel_rfl) (by kernel_rfl) (fun _ _ _ h => h) (Or.inl ⟨by rfl, ?_⟩) (unhide HH) ?_
        rotate_left 1
        · intro W hSW; go_simp; all_goals (with_reducible rfl)
        (try simp only [Act.put, List.setIfInBounds_toArray, List.set_cons_zero, List.set_cons_succ])
        refine takeL (i := 29) (v := ?_) rfl (by kernel_rfl) (by kernel_rfl) (by kernel_rfl) (fun _ _ _ h => h) (Or.inl ⟨by rfl, ?_⟩) (unhide HH) ?_
        rotate_left 1
        · intro W hSW; go_simp; all_goals (with_reducible rfl)
        (try simp only [Act.put, List.setIfInBounds_toArray, List.set_cons_zero, List.set_cons_succ])
        refine takeL (i := 30) (v := ?_) rfl (by kernel_rfl) (by kernel_rfl) (by kernel_rfl) (fun _ _ _ h => h) (Or.inl ⟨by rfl, ?_⟩) (unhide HH) ?_
        rotate_left 1
        · intro W1 hSW; have hcv := conv_arg ((unhide HQ3).below hSW); clear hSW; go_simp; all_goals (with_reducible rfl)
        (try simp only [Act.put, List.setIfInBounds_toArray, List.set_cons_zero, List.set_cons_succ])
        refine takeL (i := 31) (v := ?_) rfl (by kernel_rfl) (by kernel_rfl) (by kernel_rfl) (fun _ _ _ h => h) (Or.inl ⟨by rfl, ?_⟩) (unhide HH) ?_
        rotate_left 1
        · intro W hSW; go_simp; all_goals (with_reducible rfl)
        (try simp only [Act.put, List.setIfInBounds_toArray, List.set_cons_zero, List.set_cons_succ])
        refine wpAnyH_ready (rs := [32]) (by kernel_rfl) (by simp) ?_
        refine consL rfl (fun K hK => ?_) AllReadyH.nil
        go_simp
        refine (trim_any _ _ a _ (unhide HA) (by omega)).mono ?_
        rintro e w8 ⟨v8, rfl, hF, hk⟩
        rw [unhide Es3] at hF
        have HK8 : Hid (Below w7.heap.size w7 w8) := hk
        clear hk
        replace HT := hide ((unhide HT).trans ((unhide HK8).mono (unhide HT).size))
        replace HA := hide ((unhide HA).below (unhide HK8))
        replace HA1 := hide ((unhide HA1).below (unhide HK8))
        replace HA3 := hide ((unhide HA3).below (unhide HK8))
        replace HA5 := hide ((unhide HA5).below (unhide HK8))
        replace HA6 := hide ((unhide HA6).below (unhide HK8))
        replace HA7 := hide ((unhide HA7).below (unhide HK8))
        replace HB := hide ((unhide HB).below (unhide HK8))
        replace HQ1 := hide ((unhide HQ1).below (unhide HK8))
        replace HQ2 := hide ((unhide HQ2).below (unhide HK8))
        replace HQ3 := hide ((unhide HQ3).below (unhide HK8))
        replace HQ4 := hide ((unhide HQ4).below (unhide HK8))
        obtain ⟨g8, hA, hge⟩ := hF.arg bs3
        obtain ⟨⟨ao8, c8, rfl, h1, h2, h3, h4⟩, _⟩ := hA
        have HA8 : Hid (Arg w8 (.slice ao8 s3.length c8) g8 s3) := ⟨⟨ao8, c8, rfl, h1, h2, h3, h4⟩, bs3⟩
        clear h1 h2 h3 h4 hF hge
        go_wp2_with fail
        refine hK.out _ _ (unhide HK8) (fun hHeld => ?_)
        clear hK K HH hHeld
        (try simp only [Act.put, List.setIfInBounds_toArray, List.set_cons_zero, List.set_cons_succ])
        refine stronger (S' := fun W => Below w8.heap.size w8 W) (fun W h => (unhide HK8).trans (h.mono (unhide HK8).size)) _ _ _ _ ?_
        have HH : Hid (Below w8.heap.size w8 w8) := Below.refl _ _
        refine takeL (i := 33) (v := ?_) rfl (by kernel_rfl) (by kernel_rfl) (by kernel_rfl) (fun _ _ _ h => h) (Or.inl ⟨by rfl, ?_⟩) (unhide HH) ?_
        rotate_left 1
        · intro W1 hSW; have hcv := conv_arg ((unhide HA8).below hSW); clear hSW; go_simp; all_goals (with_reducible rfl)
        (try simp only [Act.put, List.setIfInBounds_toArray, List.set_cons_zero, List.set_cons_succ])
        refine takeL (i := 34) (v := ?_) rfl (by kernel_rfl) (by kernel_rfl) (by kernel_rfl) (fun _ _ _ h => h) (Or.inl ⟨by rfl, ?_⟩) (unhide HH) ?_
        rotate_left 1
        · intro W hSW; go_simp; all_goals (with_reducible rfl)
        (try simp only [Act.put, List.setIfInBounds_toArray, List.set_cons_zero, List.set_cons_succ])
        refine takeL (i := 35) (v := ?_) rfl (by kernel_rfl) (by kernel_rfl) (by kernel_rfl) (fun _ _ _ h => h) (Or.inl ⟨by rfl, ?_⟩) (unhide HH) ?_
        rotate_left 1
        · intro W hSW; go_simp; all_goals (with_reducible rfl)
        (try simp only [Act.put, List.setIfInBounds_toArray, List.set_cons_zero, List.set_cons_succ])
        refine takeL (i := 36) (v := ?_) rfl (by kernel_rfl) (by kernel_rfl) (by kernel_rfl) (fun _ _ _ h => h) (Or.inl ⟨by rfl, ?_⟩) (unhide HH) ?_
        rotate_left 1
        · intro W hSW; go_simp; all_goals (with_reducible rfl)
        (try simp only [Act.put, List.setIfInBounds_toArray, List.set_cons_zero, List.set_cons_succ])
        refine wpAnyH_done (by kernel_rfl) ?_ _
        refine NoPanic.normal ?_
        go_wp2
        go_ret
        exact ⟨rfl, unhide HT⟩

end Go.Proofs.Ytibmfblppjcenaa
