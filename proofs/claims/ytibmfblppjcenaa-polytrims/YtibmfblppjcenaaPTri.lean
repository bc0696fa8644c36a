/-
  The walk of PolyTrims.
-/
import Derived.Test.YtibmfblppjcenaaLk
import Derived.Test.YtibmfblppjcenaaZero
import Derived.Test.YtibmfblppjcenaaGri3
namespace Go.Proofs.Ytibmfblppjcenaa
open Go.RowKit

theorem Arg.parts {w : World} {ao : Option Addr} {n c g : Nat} {s : List Nat} (h : Arg w (.slice ao n c) g s) : Row w ao g (ints s) ∧ (ao = none → n = 0 ∧ c = 0) := by
  obtain ⟨⟨ao', c', h1, h2, h3, h4, h5⟩, _⟩ := h
  cases h1
  exact ⟨h5, fun e => by have := h4 e; omega⟩

theorem pad_bs {a : List Nat} (h : Bs a) (m : Nat) : Bs (a ++ List.replicate m 0) := fun i => by
  rw [cf_append]
  split
  · exact h i
  · rw [cf_zeros]; omega
theorem pad_eqv (a : List Nat) (m : Nat) : Eqv (a ++ List.replicate m 0) a := fun i => by
  rw [cf_append]
  split
  · rfl
  · rw [cf_zeros, cf_ge (by omega)]

theorem pad_fr {w : World} {base : Nat} {v : Value} {a : List Nat} {m n : Nat} {ys : List Int} (h : ints a ++ List.replicate m 0 = ys) (ho : w.ownsRow base 5 1 v n (ys.map (Value.int .u8))) : Fr base w v (a ++ List.replicate m 0) := by
  have e : ys = ints (a ++ List.replicate m 0) := by rw [← h]; simp [ints]
  rw [e] at ho
  exact (owns_fr ho).2

theorem fr_arg {w : World} {n g l c : Nat} {s : List Nat} (h : Fr n w (.slice (some ⟨g, 0, none⟩) l c) s) (hb : Bs s) (_ : l = s.length) : Arg w (.slice (some ⟨g, 0, none⟩) s.length c) g s := by
  rcases h with ⟨_, h⟩ | ⟨g', c', h1, h2, h3, h4, h5⟩
  · cases h
  · cases h1
    refine ⟨⟨_, _, rfl, h2, h3, (fun e => by cases e), ?_⟩, hb⟩
    have := h4.row (o := 0) (n := s.length)
    simpa using this

theorem IsDiv.same {a b c e q r : List Nat} (h : IsDiv a e q r) (hc : Eqv c a) (he : Eqv e b) (_ : Bs e) (_ : Bs b) (ht : trim e = trim b) : IsDiv c b q r :=
  ⟨h.tq, h.tr, h.bq, h.br, by rw [← ht]; exact h.lt, fun i => by rw [hc i, ← h.eq i, cf_padd, cf_padd, pmul_right q he i]⟩

set_option maxRecDepth 100000 in
set_option maxHeartbeats 16000000 in
theorem trims_walk (va vb : Value) (ga gb : Nat) (a b : List Nat) (n xi : Int) (w : World) (hA : Arg w va ga a) (hB : Arg w vb gb b) (hxi : 0 ≤ xi ∧ xi ≤ 255) :
    Calls Try.prog 8 #[va, vb, .int .i64 n, .int .u8 xi] w fun x w' => x = .returned (.bool true) ∧ Below w.heap.size w w' := by
  have HA := hide hA
  have HB := hide hB
  obtain ⟨⟨ao, ca, rfl, _⟩, hbs⟩ := hA
  obtain ⟨⟨bo, cb, rfl, _⟩, hbs2⟩ := hB
  obtain ⟨x, rfl⟩ := Int.eq_ofNat_of_zero_le hxi.1
  have hx : x < 256 := by omega
  clear hxi
  by_cases hla : 20 < a.length
  · have hla' : (20 : Int) < (a.length : Int) := by omega
    go_enter Try.func8, Try.ntmps8
    go_wp2_with fail
    refine (known_any w).mono ?_
    rintro x w1 ⟨rfl, hk1⟩
    have HK1 := hide hk1
    clear hk1
    go_wp2
    go_ret
    exact ⟨rfl, unhide HK1⟩
  · have hla' : (a.length : Int) ≤ 20 := by omega
    by_cases hlb : 20 < b.length
    · have hlb' : (20 : Int) < (b.length : Int) := by omega
      go_enter Try.func8, Try.ntmps8
      go_wp2_with fail
      refine (known_any w).mono ?_
      rintro x w1 ⟨rfl, hk1⟩
      have HK1 := hide hk1
      clear hk1
      go_wp2
      go_ret
      exact ⟨rfl, unhide HK1⟩
    · have hlb' : (b.length : Int) ≤ 20 := by omega
      obtain ⟨s1, es1⟩ : ∃ s, trim a = s := ⟨_, rfl⟩
      have bs1 : Bs s1 := by rw [← es1]; exact hbs.trim
      have Es1 := hide es1
      clear es1
      obtain ⟨s2, es2⟩ : ∃ s, trim (pmul a b) = s := ⟨_, rfl⟩
      have bs2 : Bs s2 := by rw [← es2]; exact (Bs.pmul hbs).trim
      have Es2 := hide es2
      clear es2
      obtain ⟨m, hm⟩ : ∃ m : Nat, n % 9 = (m : Int) := ⟨(n % 9).toNat, by omega⟩
      have hm9 : m < 9 := by omega
      have HNM := hide hm
      clear hm
      obtain ⟨c, ec⟩ : ∃ c, a ++ List.replicate m 0 = c := ⟨_, rfl⟩
      have bc : Bs c := by rw [← ec]; exact pad_bs hbs m
      have qc : Eqv c a := by rw [← ec]; exact pad_eqv a m
      have lc : a.length + m = c.length := by rw [← ec]; simp
      have lc2 : c.length ≤ 29 := by omega
      obtain ⟨e, ee⟩ : ∃ e, b ++ List.replicate m 0 = e := ⟨_, rfl⟩
      have be : Bs e := by rw [← ee]; exact pad_bs hbs2 m
      have qe : Eqv e b := by rw [← ee]; exact pad_eqv b m
      have le : b.length + m = e.length := by rw [← ee]; simp
      have le2 : e.length ≤ 29 := by omega
      obtain ⟨y, ey⟩ : ∃ y, ev a x = y := ⟨_, rfl⟩
      have EY1 := hide ey
      have EY2 : Hid (ev c x = y) := by show _ = _; rw [ev_congr hx qc]; exact ey
      have Et : Hid (trim c = s1) := by show _ = _; rw [trim_congr qc]; exact unhide Es1
      have Em : Hid (trim (pmul c b) = s2) := by show _ = _; rw [trim_congr (pmul_left bc hbs2 qc)]; exact unhide Es2
      have Eb : Hid (trim e = trim b) := trim_congr qe
      have Ec := hide ec
      have Ee := hide ee
      have Lc := hide lc
      have Le := hide le
      have Qc := hide qc
      have Qe := hide qe
      clear ec ee lc le qc qe ey
      obtain ⟨i0, hi0, hz0, hz1, hz2⟩ := info_parts infoE
      have HI0 := hide hi0
      clear hi0
      by_cases hd0 : trim b = []
      · go_enter Try.func8, Try.ntmps8
        go_wp2_with fail
        refine (known_any w).mono ?_
        rintro x w0 ⟨rfl, hk⟩
        replace HA := hide ((unhide HA).below hk)
        replace HB := hide ((unhide HB).below hk)
        have HT := hide hk
        clear hk
        have HO1 := hide (World.ownsRow_lit (base := w0.heap.size) (e := 5) (size := 1) w0 #[] 0 (Nat.le_refl _) (by unfold maxLen; omega) rfl)
        have HP1 := hide ((unhide HA).below ((Below.refl _ _).alloc (Nat.le_refl _) (.cells #[] 5))).parts
        go_wp2_with (at_builtin; refine wpList_append_row _ rfl _ _ 22 rfl w0.heap.size 5 i0 Try.underlying22 (unhide HI0) hz0 hz1 hz2 (.slice (some ⟨w0.heap.size, 0, none⟩) 0 0) 0 [] rfl (unhide HO1) ao ga a.length ca (ints a) rfl (ints_len _) (unhide HP1).1 (unhide HP1).2 (by omega) (by simp) ?_)
        intro vp1 wp1 ho hg hv
        obtain ⟨q1, cq1, rfl, hq1, hq1'⟩ := owns_shape ho hv
        have HO1b := hide (show wp1.ownsRow w0.heap.size 5 1 (.slice (some ⟨q1, 0, none⟩) a.length cq1) a.length ((ints a).map (Value.int .u8)) by simpa using ho)
        have HKP1 : Hid (Below w0.heap.size w0 wp1) := (((Kp.refl [] w0).alloc _).grown hg (by intro j hj; cases hj; exact .inr (Nat.le_refl _))).below
        have hzp1 := (unhide HKP1).size
        clear ho hg hv HO1
        go_wp2_with fail
        refine (within_any n 9 _ (by omega) (by omega)).mono ?_
        rintro e wq1 ⟨rfl, hwq⟩
        rw [hwq]
        clear hwq wq1
        rw [unhide HNM]
        go_wp2_with (at_builtin; refine wpList_append_zeros _ rfl _ _ 22 3 rfl w0.heap.size 5 i0 Try.underlying22 Try.underlying3 (unhide HI0) hz0 hz1 hz2 q1 a.length cq1 (ints a) rfl (unhide HO1b) m rfl (by omega) (by omega) hzp1 ?_)
        intro g1 c1 w1 ys HYS ho hg
        have hF := (pad_fr (unhide HYS) ho)
        have hk : Below w0.heap.size w0 w1 := by
          have h := ((Kp.refl [] w0).ofBelow (unhide HKP1)).grown hg (by intro j hj; cases hj; exact .inr hq1)
          exact h.below
        clear ho hg HYS HO1b
        have HK1 : Hid (Below w0.heap.size w0 w1) := hk
        clear hk
        replace HT := hide ((unhide HT).trans ((unhide HK1).mono (unhide HT).size))
        replace HA := hide ((unhide HA).below (unhide HK1))
        replace HB := hide ((unhide HB).below (unhide HK1))
        rw [unhide Ec] at hF
        rw [show a.length + m = c.length from unhide Lc]
        have HC : Hid (Arg w1 (.slice (some ⟨g1, 0, none⟩) c.length c1) g1 c) := fr_arg hF bc (unhide Lc)
        clear hF
        go_wp2_with fail
        refine (div_nought _ _ _ _ c b _ (unhide HC) (unhide HB) hd0).mono ?_
        rintro e w2 ⟨rfl, hk⟩
        have HK2 : Hid (Below w1.heap.size w1 w2) := hk
        clear hk
        replace HT := hide ((unhide HT).trans ((unhide HK2).mono (unhide HT).size))
        replace HA := hide ((unhide HA).below (unhide HK2))
        replace HB := hide ((unhide HB).below (unhide HK2))
        replace HC := hide ((unhide HC).below (unhide HK2))
        have HO3 := hide (World.ownsRow_lit (base := w2.heap.size) (e := 5) (size := 1) w2 #[] 0 (Nat.le_refl _) (by unfold maxLen; omega) rfl)
        have HP3 := hide ((unhide HB).below ((Below.refl _ _).alloc (Nat.le_refl _) (.cells #[] 5))).parts
        go_wp2_with (at_builtin; refine wpList_append_row _ rfl _ _ 22 rfl w2.heap.size 5 i0 Try.underlying22 (unhide HI0) hz0 hz1 hz2 (.slice (some ⟨w2.heap.size, 0, none⟩) 0 0) 0 [] rfl (unhide HO3) bo gb b.length cb (ints b) rfl (ints_len _) (unhide HP3).1 (unhide HP3).2 (by omega) (by simp) ?_)
        intro vp3 wp3 ho hg hv
        obtain ⟨q3, cq3, rfl, hq3, hq3'⟩ := owns_shape ho hv
        have HO3b := hide (show wp3.ownsRow w2.heap.size 5 1 (.slice (some ⟨q3, 0, none⟩) b.length cq3) b.length ((ints b).map (Value.int .u8)) by simpa using ho)
        have HKP3 : Hid (Below w2.heap.size w2 wp3) := (((Kp.refl [] w2).alloc _).grown hg (by intro j hj; cases hj; exact .inr (Nat.le_refl _))).below
        have hzp3 := (unhide HKP3).size
        clear ho hg hv HO3
        go_wp2_with fail
        refine (within_any n 9 _ (by omega) (by omega)).mono ?_
        rintro e wq3 ⟨rfl, hwq⟩
        rw [hwq]
        clear hwq wq3
        rw [unhide HNM]
        go_wp2_with (at_builtin; refine wpList_append_zeros _ rfl _ _ 22 3 rfl w2.heap.size 5 i0 Try.underlying22 Try.underlying3 (unhide HI0) hz0 hz1 hz2 q3 b.length cq3 (ints b) rfl (unhide HO3b) m rfl (by omega) (by omega) hzp3 ?_)
        intro g3 c3 w3 ys HYS ho hg
        have hF := (pad_fr (unhide HYS) ho)
        have hk : Below w2.heap.size w2 w3 := by
          have h := ((Kp.refl [] w2).ofBelow (unhide HKP3)).grown hg (by intro j hj; cases hj; exact .inr hq3)
          exact h.below
        clear ho hg HYS HO3b
        have HK3 : Hid (Below w2.heap.size w2 w3) := hk
        clear hk
        replace HT := hide ((unhide HT).trans ((unhide HK3).mono (unhide HT).size))
        replace HA := hide ((unhide HA).below (unhide HK3))
        replace HB := hide ((unhide HB).below (unhide HK3))
        replace HC := hide ((unhide HC).below (unhide HK3))
        rw [unhide Ee] at hF
        rw [show b.length + m = e.length from unhide Le]
        have HE : Hid (Arg w3 (.slice (some ⟨g3, 0, none⟩) e.length c3) g3 e) := fr_arg hF be (unhide Le)
        clear hF
        go_wp2_with fail
        refine (div_nought _ _ _ _ a e _ (unhide HA) (unhide HE) (by rw [unhide Eb]; exact hd0)).mono ?_
        rintro e' w4 ⟨rfl, hk⟩
        have HK4 : Hid (Below w3.heap.size w3 w4) := hk
        clear hk
        replace HT := hide ((unhide HT).trans ((unhide HK4).mono (unhide HT).size))
        replace HA := hide ((unhide HA).below (unhide HK4))
        replace HB := hide ((unhide HB).below (unhide HK4))
        replace HC := hide ((unhide HC).below (unhide HK4))
        replace HE := hide ((unhide HE).below (unhide HK4))
        have HQ1 : Hid (Arg w4 (.slice none 0 0) 0 []) := ⟨⟨none, 0, rfl, by simp, by simp, fun _ => rfl, .inl rfl⟩, Bs.nil⟩
        go_wp2_with fail
        replace HT := hide ((unhide HT).drew)
        replace HA := hide ((unhide HA).below (Below.refl _ _).drew)
        replace HB := hide ((unhide HB).below (Below.refl _ _).drew)
        replace HC := hide ((unhide HC).below (Below.refl _ _).drew)
        replace HE := hide ((unhide HE).below (Below.refl _ _).drew)
        replace HQ1 := hide ((unhide HQ1).below (Below.refl _ _).drew)
        refine wp_region_noPanic ?_
        refine wp_region_held_drew (S := fun W => Below w4.drew.heap.size w4.drew W) (by kernel_rfl) (Below.refl _ _) (fun hHeld => ?_)
        have HH := hide hHeld
        clear hHeld
        refine takeL (i := 0) (v := ?_) rfl (by kernel_rfl) (by kernel_rfl) (by kernel_rfl) (fun _ _ _ h => h) (Or.inl ⟨by rfl, ?_⟩) (unhide HH) ?_
        rotate_left 1
        · intro W hSW; go_simp; all_goals (with_reducible rfl)
        (try simp only [Act.put, List.setIfInBounds_toArray, List.set_cons_zero, List.set_cons_succ])
        refine takeL (i := 3) (v := ?_) rfl (by kernel_rfl) (by kernel_rfl) (by kernel_rfl) (fun _ _ _ h => h) (Or.inl ⟨by rfl, ?_⟩) (unhide HH) ?_
        rotate_left 1
        · intro W hSW; go_simp; all_goals (with_reducible rfl)
        (try simp only [Act.put, List.setIfInBounds_toArray, List.set_cons_zero, List.set_cons_succ])
        refine wpAnyH_ready (rs := [1]) (by kernel_rfl) (by simp) ?_
        refine consL rfl (fun K hK => ?_) AllReadyH.nil
        go_simp
        refine (trim_any _ _ c _ (unhide HC) (by omega)).mono ?_
        rintro e w5 ⟨v5, rfl, hF, hk⟩
        rw [unhide Et] at hF
        have HK5 : Hid (Below w4.drew.heap.size w4.drew w5) := hk
        clear hk
        replace HT := hide ((unhide HT).trans ((unhide HK5).mono (unhide HT).size))
        replace HA := hide ((unhide HA).below (unhide HK5))
        replace HB := hide ((unhide HB).below (unhide HK5))
        replace HC := hide ((unhide HC).below (unhide HK5))
        replace HE := hide ((unhide HE).below (unhide HK5))
        replace HQ1 := hide ((unhide HQ1).below (unhide HK5))
        obtain ⟨g5, hA, hge⟩ := hF.arg bs1
        obtain ⟨⟨ao5, c5, rfl, h1, h2, h3, h4⟩, _⟩ := hA
        have HA5 : Hid (Arg w5 (.slice ao5 s1.length c5) g5 s1) := ⟨⟨ao5, c5, rfl, h1, h2, h3, h4⟩, bs1⟩
        clear h1 h2 h3 h4 hF hge
        go_wp2_with fail
        refine hK.out _ _ (unhide HK5) (fun hHeld => ?_)
        clear hK K HH hHeld
        (try simp only [Act.put, List.setIfInBounds_toArray, List.set_cons_zero, List.set_cons_succ])
        refine stronger (S' := fun W => Below w5.heap.size w5 W) (fun W h => (unhide HK5).trans (h.mono (unhide HK5).size)) _ _ _ _ ?_
        have HH : Hid (Below w5.heap.size w5 w5) := Below.refl _ _
        refine takeL (i := 2) (v := ?_) rfl (by kernel_rfl) (by kernel_rfl) (by kernel_rfl) (fun _ _ _ h => h) (Or.inl ⟨by rfl, ?_⟩) (unhide HH) ?_
        rotate_left 1
        · intro W1 hSW; have hcv := conv_arg ((unhide HA5).below hSW); clear hSW; go_simp; all_goals (with_reducible rfl)
        (try simp only [Act.put, List.setIfInBounds_toArray, List.set_cons_zero, List.set_cons_succ])
        refine wpAnyH_ready (rs := [4]) (by kernel_rfl) (by simp) ?_
        refine consL rfl (fun K hK => ?_) AllReadyH.nil
        go_simp
        refine (trim_any _ _ a _ (unhide HA) (by omega)).mono ?_
        rintro e w6 ⟨v6, rfl, hF, hk⟩
        rw [unhide Es1] at hF
        have HK6 : Hid (Below w5.heap.size w5 w6) := hk
        clear hk
        replace HT := hide ((unhide HT).trans ((unhide HK6).mono (unhide HT).size))
        replace HA := hide ((unhide HA).below (unhide HK6))
        replace HA5 := hide ((unhide HA5).below (unhide HK6))
        replace HB := hide ((unhide HB).below (unhide HK6))
        replace HC := hide ((unhide HC).below (unhide HK6))
        replace HE := hide ((unhide HE).below (unhide HK6))
        replace HQ1 := hide ((unhide HQ1).below (unhide HK6))
        obtain ⟨g6, hA, hge⟩ := hF.arg bs1
        obtain ⟨⟨ao6, c6, rfl, h1, h2, h3, h4⟩, _⟩ := hA
        have HA6 : Hid (Arg w6 (.slice ao6 s1.length c6) g6 s1) := ⟨⟨ao6, c6, rfl, h1, h2, h3, h4⟩, bs1⟩
        clear h1 h2 h3 h4 hF hge
        go_wp2_with fail
        refine hK.out _ _ (unhide HK6) (fun hHeld => ?_)
        clear hK K HH hHeld
        (try simp only [Act.put, List.setIfInBounds_toArray, List.set_cons_zero, List.set_cons_succ])
        refine stronger (S' := fun W => Below w6.heap.size w6 W) (fun W h => (unhide HK6).trans (h.mono (unhide HK6).size)) _ _ _ _ ?_
        have HH : Hid (Below w6.heap.size w6 w6) := Below.refl _ _
        refine takeL (i := 5) (v := ?_) rfl (by kernel_rfl) (by kernel_rfl) (by kernel_rfl) (fun _ _ _ h => h) (Or.inl ⟨by rfl, ?_⟩) (unhide HH) ?_
        rotate_left 1
        · intro W1 hSW; have hcv := conv_arg ((unhide HA6).below hSW); clear hSW; go_simp; all_goals (with_reducible rfl)
        (try simp only [Act.put, List.setIfInBounds_toArray, List.set_cons_zero, List.set_cons_succ])
        refine takeL (i := 6) (v := ?_) rfl (by kernel_rfl) (by kernel_rfl) (by kernel_rfl) (fun _ _ _ h => h) (Or.inl ⟨by rfl, ?_⟩) (unhide HH) ?_
        rotate_left 1
        · intro W hSW; go_simp; all_goals (with_reducible rfl)
        (try simp only [Act.put, List.setIfInBounds_toArray, List.set_cons_zero, List.set_cons_succ])
        refine takeL (i := 7) (v := ?_) rfl (by kernel_rfl) (by kernel_rfl) (by kernel_rfl) (fun _ _ _ h => h) (Or.inl ⟨by rfl, ?_⟩) (unhide HH) ?_
        rotate_left 1
        · intro W hSW; go_simp; all_goals (with_reducible rfl)
        (try simp only [Act.put, List.setIfInBounds_toArray, List.set_cons_zero, List.set_cons_succ])
        refine takeL (i := 8) (v := ?_) rfl (by kernel_rfl) (by kernel_rfl) (by kernel_rfl) (fun _ _ _ h => h) (Or.inl ⟨by rfl, ?_⟩) (unhide HH) ?_
        rotate_left 1
        · intro W hSW; go_simp; all_goals (with_reducible rfl)
        (try simp only [Act.put, List.setIfInBounds_toArray, List.set_cons_zero, List.set_cons_succ])
        refine takeL (i := 9) (v := ?_) rfl (by kernel_rfl) (by kernel_rfl) (by kernel_rfl) (fun _ _ _ h => h) (Or.inl ⟨by rfl, ?_⟩) (unhide HH) ?_
        rotate_left 1
        · intro W1 hSW; have hcv := conv_arg ((unhide HQ1).below hSW); clear hSW; go_simp; all_goals (with_reducible rfl)
        (try simp only [Act.put, List.setIfInBounds_toArray, List.set_cons_zero, List.set_cons_succ])
        refine takeL (i := 10) (v := ?_) rfl (by kernel_rfl) (by kernel_rfl) (by kernel_rfl) (fun _ _ _ h => h) (Or.inl ⟨by rfl, ?_⟩) (unhide HH) ?_
        rotate_left 1
        · intro W hSW; go_simp; all_goals (with_reducible rfl)
        (try simp only [Act.put, List.setIfInBounds_toArray, List.set_cons_zero, List.set_cons_succ])
        refine takeL (i := 11) (v := ?_) rfl (by kernel_rfl) (by kernel_rfl) (by kernel_rfl) (fun _ _ _ h => h) (Or.inl ⟨by rfl, ?_⟩) (unhide HH) ?_
        rotate_left 1
        · intro W1 hSW; have hcv := conv_arg ((unhide HQ1).below hSW); clear hSW; go_simp; all_goals (with_reducible rfl)
        (try simp only [Act.put, List.setIfInBounds_toArray, List.set_cons_zero, List.set_cons_succ])
        refine takeL (i := 12) (v := ?_) rfl (by kernel_rfl) (by kernel_rfl) (by kernel_rfl) (fun _ _ _ h => h) (Or.inl ⟨by rfl, ?_⟩) (unhide HH) ?_
        rotate_left 1
        · intro W hSW; go_simp; all_goals (with_reducible rfl)
        (try simp only [Act.put, List.setIfInBounds_toArray, List.set_cons_zero, List.set_cons_succ])
        refine takeL (i := 13) (v := ?_) rfl (by kernel_rfl) (by kernel_rfl) (by kernel_rfl) (fun _ _ _ h => h) (Or.inl ⟨by rfl, ?_⟩) (unhide HH) ?_
        rotate_left 1
        · intro W hSW; go_simp; all_goals (with_reducible rfl)
        (try simp only [Act.put, List.setIfInBounds_toArray, List.set_cons_zero, List.set_cons_succ])
        refine takeL (i := 14) (v := ?_) rfl (by kernel_rfl) (by kernel_rfl) (by kernel_rfl) (fun _ _ _ h => h) (Or.inl ⟨by rfl, ?_⟩) (unhide HH) ?_
        rotate_left 1
        · intro W hSW; go_simp; all_goals (with_reducible rfl)
        (try simp only [Act.put, List.setIfInBounds_toArray, List.set_cons_zero, List.set_cons_succ])
        refine takeL (i := 15) (v := ?_) rfl (by kernel_rfl) (by kernel_rfl) (by kernel_rfl) (fun _ _ _ h => h) (Or.inl ⟨by rfl, ?_⟩) (unhide HH) ?_
        rotate_left 1
        · intro W hSW; go_simp; all_goals (with_reducible rfl)
        (try simp only [Act.put, List.setIfInBounds_toArray, List.set_cons_zero, List.set_cons_succ])
        refine takeL (i := 16) (v := ?_) rfl (by kernel_rfl) (by kernel_rfl) (by kernel_rfl) (fun _ _ _ h => h) (Or.inl ⟨by rfl, ?_⟩) (unhide HH) ?_
        rotate_left 1
        · intro W1 hSW; have hcv := conv_arg ((unhide HQ1).below hSW); clear hSW; go_simp; all_goals (with_reducible rfl)
        (try simp only [Act.put, List.setIfInBounds_toArray, List.set_cons_zero, List.set_cons_succ])
        refine takeL (i := 17) (v := ?_) rfl (by kernel_rfl) (by kernel_rfl) (by kernel_rfl) (fun _ _ _ h => h) (Or.inl ⟨by rfl, ?_⟩) (unhide HH) ?_
        rotate_left 1
        · intro W hSW; go_simp; all_goals (with_reducible rfl)
        (try simp only [Act.put, List.setIfInBounds_toArray, List.set_cons_zero, List.set_cons_succ])
        refine takeL (i := 18) (v := ?_) rfl (by kernel_rfl) (by kernel_rfl) (by kernel_rfl) (fun _ _ _ h => h) (Or.inl ⟨by rfl, ?_⟩) (unhide HH) ?_
        rotate_left 1
        · intro W1 hSW; have hcv := conv_arg ((unhide HQ1).below hSW); clear hSW; go_simp; all_goals (with_reducible rfl)
        (try simp only [Act.put, List.setIfInBounds_toArray, List.set_cons_zero, List.set_cons_succ])
        refine takeL (i := 19) (v := ?_) rfl (by kernel_rfl) (by kernel_rfl) (by kernel_rfl) (fun _ _ _ h => h) (Or.inl ⟨by rfl, ?_⟩) (unhide HH) ?_
        rotate_left 1
        · intro W hSW; go_simp; all_goals (with_reducible rfl)
        (try simp only [Act.put, List.setIfInBounds_toArray, List.set_cons_zero, List.set_cons_succ])
        refine takeL (i := 20) (v := ?_) rfl (by kernel_rfl) (by kernel_rfl) (by kernel_rfl) (fun _ _ _ h => h) (Or.inl ⟨by rfl, ?_⟩) (unhide HH) ?_
        rotate_left 1
        · intro W hSW; go_simp; all_goals (with_reducible rfl)
        (try simp only [Act.put, List.setIfInBounds_toArray, List.set_cons_zero, List.set_cons_succ])
        refine takeL (i := 21) (v := ?_) rfl (by kernel_rfl) (by kernel_rfl) (by kernel_rfl) (fun _ _ _ h => h) (Or.inl ⟨by rfl, ?_⟩) (unhide HH) ?_
        rotate_left 1
        · intro W hSW; go_simp; all_goals (with_reducible rfl)
        (try simp only [Act.put, List.setIfInBounds_toArray, List.set_cons_zero, List.set_cons_succ])
        refine takeL (i := 22) (v := ?_) rfl (by kernel_rfl) (by kernel_rfl) (by kernel_rfl) (fun _ _ _ h => h) (Or.inl ⟨by rfl, ?_⟩) (unhide HH) ?_
        rotate_left 1
        · intro W hSW; go_simp; all_goals (with_reducible rfl)
        (try simp only [Act.put, List.setIfInBounds_toArray, List.set_cons_zero, List.set_cons_succ])
        refine takeL (i := 23) (v := ?_) rfl (by kernel_rfl) (by kernel_rfl) (by kernel_rfl) (fun _ _ _ h => h) (Or.inl ⟨by rfl, ?_⟩) (unhide HH) ?_
        rotate_left 1
        · intro W hSW; go_simp; all_goals (with_reducible rfl)
        (try simp only [Act.put, List.setIfInBounds_toArray, List.set_cons_zero, List.set_cons_succ])
        refine takeL (i := 24) (v := ?_) rfl (by kernel_rfl) (by kernel_rfl) (by kernel_rfl) (fun _ _ _ h => h) (Or.inl ⟨by rfl, ?_⟩) (unhide HH) ?_
        rotate_left 1
        · intro W hSW; go_simp; all_goals (with_reducible rfl)
        (try simp only [Act.put, List.setIfInBounds_toArray, List.set_cons_zero, List.set_cons_succ])
        refine takeL (i := 25) (v := ?_) rfl (by kernel_rfl) (by kernel_rfl) (by kernel_rfl) (fun _ _ _ h => h) (Or.inl ⟨by rfl, ?_⟩) (unhide HH) ?_
        rotate_left 1
        · intro W hSW; go_simp; all_goals (with_reducible rfl)
        (try simp only [Act.put, List.setIfInBounds_toArray, List.set_cons_zero, List.set_cons_succ])
        refine takeL (i := 26) (v := ?_) rfl (by kernel_rfl) (by kernel_rfl) (by kernel_rfl) (fun _ _ _ h => h) (Or.inl ⟨by rfl, ?_⟩) (unhide HH) ?_
        rotate_left 1
        · intro W hSW; go_simp; all_goals (with_reducible rfl)
        (try simp only [Act.put, List.setIfInBounds_toArray, List.set_cons_zero, List.set_cons_succ])
        refine takeL (i := 27) (v := ?_) rfl (by kernel_rfl) (by kernel_rfl) (by kernel_rfl) (fun _ _ _ h => h) (Or.inl ⟨by rfl, ?_⟩) (unhide HH) ?_
        rotate_left 1
        · intro W hSW; go_simp; all_goals (with_reducible rfl)
        (try simp only [Act.put, List.setIfInBounds_toArray, List.set_cons_zero, List.set_cons_succ])
        refine takeL (i := 28) (v := ?_) rfl (by kernel_rfl) (by kernel_rfl) (by kernel_rfl) (fun _ _ _ h => h) (Or.inl ⟨by rfl, ?_⟩) (unhide HH) ?_
        rotate_left 1
        · intro W hSW; go_simp; all_goals (with_reducible rfl)
        (try simp only [Act.put, List.setIfInBounds_toArray, List.set_cons_zero, List.set_cons_succ])
        refine takeL (i := 30) (v := ?_) rfl (by kernel_rfl) (by kernel_rfl) (by kernel_rfl) (fun _ _ _ h => h) (Or.inl ⟨by rfl, ?_⟩) (unhide HH) ?_
        rotate_left 1
        · intro W hSW; go_simp; all_goals (with_reducible rfl)
        (try simp only [Act.put, List.setIfInBounds_toArray, List.set_cons_zero, List.set_cons_succ])
        refine takeL (i := 31) (v := ?_) rfl (by kernel_rfl) (by kernel_rfl) (by kernel_rfl) (fun _ _ _ h => h) (Or.inl ⟨by rfl, ?_⟩) (unhide HH) ?_
        rotate_left 1
        · intro W hSW; go_simp; all_goals (with_reducible rfl)
        (try simp only [Act.put, List.setIfInBounds_toArray, List.set_cons_zero, List.set_cons_succ])
        refine wpAnyH_ready (rs := [29]) (by kernel_rfl) (by simp) ?_
        refine consL rfl (fun K hK => ?_) AllReadyH.nil
        go_simp
        refine (eval_any _ _ c x _ (unhide HC) (by omega) (by omega)).mono ?_
        rintro e w7 ⟨rfl, hk⟩
        rw [unhide EY2]
        have HK7 : Hid (Below w6.heap.size w6 w7) := hk
        clear hk
        replace HT := hide ((unhide HT).trans ((unhide HK7).mono (unhide HT).size))
        replace HA := hide ((unhide HA).below (unhide HK7))
        replace HA5 := hide ((unhide HA5).below (unhide HK7))
        replace HA6 := hide ((unhide HA6).below (unhide HK7))
        replace HB := hide ((unhide HB).below (unhide HK7))
        replace HC := hide ((unhide HC).below (unhide HK7))
        replace HE := hide ((unhide HE).below (unhide HK7))
        replace HQ1 := hide ((unhide HQ1).below (unhide HK7))
        go_wp2_with fail
        refine hK.out _ _ (unhide HK7) (fun hHeld => ?_)
        clear hK K HH hHeld
        (try simp only [Act.put, List.setIfInBounds_toArray, List.set_cons_zero, List.set_cons_succ])
        refine stronger (S' := fun W => Below w7.heap.size w7 W) (fun W h => (unhide HK7).trans (h.mono (unhide HK7).size)) _ _ _ _ ?_
        have HH : Hid (Below w7.heap.size w7 w7) := Below.refl _ _
        refine wpAnyH_ready (rs := [32]) (by kernel_rfl) (by simp) ?_
        refine consL rfl (fun K hK => ?_) AllReadyH.nil
        go_simp
        refine (eval_any _ _ a x _ (unhide HA) (by omega) (by omega)).mono ?_
        rintro e w8 ⟨rfl, hk⟩
        rw [unhide EY1]
        have HK8 : Hid (Below w7.heap.size w7 w8) := hk
        clear hk
        replace HT := hide ((unhide HT).trans ((unhide HK8).mono (unhide HT).size))
        replace HA := hide ((unhide HA).below (unhide HK8))
        replace HA5 := hide ((unhide HA5).below (unhide HK8))
        replace HA6 := hide ((unhide HA6).below (unhide HK8))
        replace HB := hide ((unhide HB).below (unhide HK8))
        replace HC := hide ((unhide HC).below (unhide HK8))
        replace HE := hide ((unhide HE).below (unhide HK8))
        replace HQ1 := hide ((unhide HQ1).below (unhide HK8))
        go_wp2_with fail
        refine hK.out _ _ (unhide HK8) (fun hHeld => ?_)
        clear hK K HH hHeld
        (try simp only [Act.put, List.setIfInBounds_toArray, List.set_cons_zero, List.set_cons_succ])
        refine stronger (S' := fun W => Below w8.heap.size w8 W) (fun W h => (unhide HK8).trans (h.mono (unhide HK8).size)) _ _ _ _ ?_
        have HH : Hid (Below w8.heap.size w8 w8) := Below.refl _ _
        refine takeL (i := 33) (v := ?_) rfl (by kernel_rfl) (by kernel_rfl) (by kernel_rfl) (fun _ _ _ h => h) (Or.inl ⟨by rfl, ?_⟩) (unhide HH) ?_
        rotate_left 1
        · intro W hSW; go_simp; all_goals (with_reducible rfl)
        (try simp only [Act.put, List.setIfInBounds_toArray, List.set_cons_zero, List.set_cons_succ])
        refine takeL (i := 34) (v := ?_) rfl (by kernel_rfl) (by kernel_rfl) (by kernel_rfl) (fun _ _ _ h => h) (Or.inl ⟨by rfl, ?_⟩) (unhide HH) ?_
        rotate_left 1
        · intro W hSW; go_simp; all_goals (with_reducible rfl)
        (try simp only [Act.put, List.setIfInBounds_toArray, List.set_cons_zero, List.set_cons_succ])
        refine takeL (i := 35) (v := ?_) rfl (by kernel_rfl) (by kernel_rfl) (by kernel_rfl) (fun _ _ _ h => h) (Or.inl ⟨by rfl, ?_⟩) (unhide HH) ?_
        rotate_left 1
        · intro W hSW; go_simp; all_goals (with_reducible rfl)
        (try simp only [Act.put, List.setIfInBounds_toArray, List.set_cons_zero, List.set_cons_succ])
        refine takeL (i := 36) (v := ?_) rfl (by kernel_rfl) (by kernel_rfl) (by kernel_rfl) (fun _ _ _ h => h) (Or.inl ⟨by rfl, ?_⟩) (unhide HH) ?_
        rotate_left 1
        · intro W hSW; go_simp; all_goals (with_reducible rfl)
        (try simp only [Act.put, List.setIfInBounds_toArray, List.set_cons_zero, List.set_cons_succ])
        refine takeL (i := 37) (v := ?_) rfl (by kernel_rfl) (by kernel_rfl) (by kernel_rfl) (fun _ _ _ h => h) (Or.inl ⟨by rfl, ?_⟩) (unhide HH) ?_
        rotate_left 1
        · intro W hSW; go_simp; all_goals (with_reducible rfl)
        (try simp only [Act.put, List.setIfInBounds_toArray, List.set_cons_zero, List.set_cons_succ])
        refine takeL (i := 40) (v := ?_) rfl (by kernel_rfl) (by kernel_rfl) (by kernel_rfl) (fun _ _ _ h => h) (Or.inl ⟨by rfl, ?_⟩) (unhide HH) ?_
        rotate_left 1
        · intro W hSW; go_simp; all_goals (with_reducible rfl)
        (try simp only [Act.put, List.setIfInBounds_toArray, List.set_cons_zero, List.set_cons_succ])
        refine takeL (i := 41) (v := ?_) rfl (by kernel_rfl) (by kernel_rfl) (by kernel_rfl) (fun _ _ _ h => h) (Or.inl ⟨by rfl, ?_⟩) (unhide HH) ?_
        rotate_left 1
        · intro W hSW; go_simp; all_goals (with_reducible rfl)
        (try simp only [Act.put, List.setIfInBounds_toArray, List.set_cons_zero, List.set_cons_succ])
        refine wpAnyH_ready (rs := [38]) (by kernel_rfl) (by simp) ?_
        refine consL rfl (fun K hK => ?_) AllReadyH.nil
        go_simp
        refine (pmul_any _ _ _ _ c b _ (unhide HC) (unhide HB) (by first | omega | simp) (by first | omega | simp)).mono ?_
        rintro e w9 ⟨v9, rfl, hF, hk⟩
        rw [unhide Em] at hF
        have HK9 : Hid (Below w8.heap.size w8 w9) := hk
        clear hk
        replace HT := hide ((unhide HT).trans ((unhide HK9).mono (unhide HT).size))
        replace HA := hide ((unhide HA).below (unhide HK9))
        replace HA5 := hide ((unhide HA5).below (unhide HK9))
        replace HA6 := hide ((unhide HA6).below (unhide HK9))
        replace HB := hide ((unhide HB).below (unhide HK9))
        replace HC := hide ((unhide HC).below (unhide HK9))
        replace HE := hide ((unhide HE).below (unhide HK9))
        replace HQ1 := hide ((unhide HQ1).below (unhide HK9))
        obtain ⟨g9, hA, hge⟩ := hF.arg bs2
        obtain ⟨⟨ao9, c9, rfl, h1, h2, h3, h4⟩, _⟩ := hA
        have HA9 : Hid (Arg w9 (.slice ao9 s2.length c9) g9 s2) := ⟨⟨ao9, c9, rfl, h1, h2, h3, h4⟩, bs2⟩
        clear h1 h2 h3 h4 hF hge
        go_wp2_with fail
        refine hK.out _ _ (unhide HK9) (fun hHeld => ?_)
        clear hK K HH hHeld
        (try simp only [Act.put, List.setIfInBounds_toArray, List.set_cons_zero, List.set_cons_succ])
        refine stronger (S' := fun W => Below w9.heap.size w9 W) (fun W h => (unhide HK9).trans (h.mono (unhide HK9).size)) _ _ _ _ ?_
        have HH : Hid (Below w9.heap.size w9 w9) := Below.refl _ _
        refine takeL (i := 39) (v := ?_) rfl (by kernel_rfl) (by kernel_rfl) (by kernel_rfl) (fun _ _ _ h => h) (Or.inl ⟨by rfl, ?_⟩) (unhide HH) ?_
        rotate_left 1
        · intro W1 hSW; have hcv := conv_arg ((unhide HA9).below hSW); clear hSW; go_simp; all_goals (with_reducible rfl)
        (try simp only [Act.put, List.setIfInBounds_toArray, List.set_cons_zero, List.set_cons_succ])
        refine wpAnyH_ready (rs := [42]) (by kernel_rfl) (by simp) ?_
        refine consL rfl (fun K hK => ?_) AllReadyH.nil
        go_simp
        refine (pmul_any _ _ _ _ a b _ (unhide HA) (unhide HB) (by first | omega | simp) (by first | omega | simp)).mono ?_
        rintro e w10 ⟨v10, rfl, hF, hk⟩
        rw [unhide Es2] at hF
        have HK10 : Hid (Below w9.heap.size w9 w10) := hk
        clear hk
        replace HT := hide ((unhide HT).trans ((unhide HK10).mono (unhide HT).size))
        replace HA := hide ((unhide HA).below (unhide HK10))
        replace HA5 := hide ((unhide HA5).below (unhide HK10))
        replace HA6 := hide ((unhide HA6).below (unhide HK10))
        replace HA9 := hide ((unhide HA9).below (unhide HK10))
        replace HB := hide ((unhide HB).below (unhide HK10))
        replace HC := hide ((unhide HC).below (unhide HK10))
        replace HE := hide ((unhide HE).below (unhide HK10))
        replace HQ1 := hide ((unhide HQ1).below (unhide HK10))
        obtain ⟨g10, hA, hge⟩ := hF.arg bs2
        obtain ⟨⟨ao10, c10, rfl, h1, h2, h3, h4⟩, _⟩ := hA
        have HA10 : Hid (Arg w10 (.slice ao10 s2.length c10) g10 s2) := ⟨⟨ao10, c10, rfl, h1, h2, h3, h4⟩, bs2⟩
        clear h1 h2 h3 h4 hF hge
        go_wp2_with fail
        refine hK.out _ _ (unhide HK10) (fun hHeld => ?_)
        clear hK K HH hHeld
        (try simp only [Act.put, List.setIfInBounds_toArray, List.set_cons_zero, List.set_cons_succ])
        refine stronger (S' := fun W => Below w10.heap.size w10 W) (fun W h => (unhide HK10).trans (h.mono (unhide HK10).size)) _ _ _ _ ?_
        have HH : Hid (Below w10.heap.size w10 w10) := Below.refl _ _
        refine takeL (i := 43) (v := ?_) rfl (by kernel_rfl) (by kernel_rfl) (by kernel_rfl) (fun _ _ _ h => h) (Or.inl ⟨by rfl, ?_⟩) (unhide HH) ?_
        rotate_left 1
        · intro W1 hSW; have hcv := conv_arg ((unhide HA10).below hSW); clear hSW; go_simp; all_goals (with_reducible rfl)
        (try simp only [Act.put, List.setIfInBounds_toArray, List.set_cons_zero, List.set_cons_succ])
        refine takeL (i := 44) (v := ?_) rfl (by kernel_rfl) (by kernel_rfl) (by kernel_rfl) (fun _ _ _ h => h) (Or.inl ⟨by rfl, ?_⟩) (unhide HH) ?_
        rotate_left 1
        · intro W hSW; go_simp; all_goals (with_reducible rfl)
        (try simp only [Act.put, List.setIfInBounds_toArray, List.set_cons_zero, List.set_cons_succ])
        refine takeL (i := 45) (v := ?_) rfl (by kernel_rfl) (by kernel_rfl) (by kernel_rfl) (fun _ _ _ h => h) (Or.inl ⟨by rfl, ?_⟩) (unhide HH) ?_
        rotate_left 1
        · intro W hSW; go_simp; all_goals (with_reducible rfl)
        (try simp only [Act.put, List.setIfInBounds_toArray, List.set_cons_zero, List.set_cons_succ])
        refine takeL (i := 46) (v := ?_) rfl (by kernel_rfl) (by kernel_rfl) (by kernel_rfl) (fun _ _ _ h => h) (Or.inl ⟨by rfl, ?_⟩) (unhide HH) ?_
        rotate_left 1
        · intro W hSW; go_simp; all_goals (with_reducible rfl)
        (try simp only [Act.put, List.setIfInBounds_toArray, List.set_cons_zero, List.set_cons_succ])
        refine wpAnyH_done (by kernel_rfl) ?_ _
        refine NoPanic.normal ?_
        go_wp2
        go_ret
        exact ⟨rfl, unhide HT⟩
      · go_enter Try.func8, Try.ntmps8
        go_wp2_with fail
        refine (known_any w).mono ?_
        rintro x w0 ⟨rfl, hk⟩
        replace HA := hide ((unhide HA).below hk)
        replace HB := hide ((unhide HB).below hk)
        have HT := hide hk
        clear hk
        have HO1 := hide (World.ownsRow_lit (base := w0.heap.size) (e := 5) (size := 1) w0 #[] 0 (Nat.le_refl _) (by unfold maxLen; omega) rfl)
        have HP1 := hide ((unhide HA).below ((Below.refl _ _).alloc (Nat.le_refl _) (.cells #[] 5))).parts
        go_wp2_with (at_builtin; refine wpList_append_row _ rfl _ _ 22 rfl w0.heap.size 5 i0 Try.underlying22 (unhide HI0) hz0 hz1 hz2 (.slice (some ⟨w0.heap.size, 0, none⟩) 0 0) 0 [] rfl (unhide HO1) ao ga a.length ca (ints a) rfl (ints_len _) (unhide HP1).1 (unhide HP1).2 (by omega) (by simp) ?_)
        intro vp1 wp1 ho hg hv
        obtain ⟨q1, cq1, rfl, hq1, hq1'⟩ := owns_shape ho hv
        have HO1b := hide (show wp1.ownsRow w0.heap.size 5 1 (.slice (some ⟨q1, 0, none⟩) a.length cq1) a.length ((ints a).map (Value.int .u8)) by simpa using ho)
        have HKP1 : Hid (Below w0.heap.size w0 wp1) := (((Kp.refl [] w0).alloc _).grown hg (by intro j hj; cases hj; exact .inr (Nat.le_refl _))).below
        have hzp1 := (unhide HKP1).size
        clear ho hg hv HO1
        go_wp2_with fail
        refine (within_any n 9 _ (by omega) (by omega)).mono ?_
        rintro e wq1 ⟨rfl, hwq⟩
        rw [hwq]
        clear hwq wq1
        rw [unhide HNM]
        go_wp2_with (at_builtin; refine wpList_append_zeros _ rfl _ _ 22 3 rfl w0.heap.size 5 i0 Try.underlying22 Try.underlying3 (unhide HI0) hz0 hz1 hz2 q1 a.length cq1 (ints a) rfl (unhide HO1b) m rfl (by omega) (by omega) hzp1 ?_)
        intro g1 c1 w1 ys HYS ho hg
        have hF := (pad_fr (unhide HYS) ho)
        have hk : Below w0.heap.size w0 w1 := by
          have h := ((Kp.refl [] w0).ofBelow (unhide HKP1)).grown hg (by intro j hj; cases hj; exact .inr hq1)
          exact h.below
        clear ho hg HYS HO1b
        have HK1 : Hid (Below w0.heap.size w0 w1) := hk
        clear hk
        replace HT := hide ((unhide HT).trans ((unhide HK1).mono (unhide HT).size))
        replace HA := hide ((unhide HA).below (unhide HK1))
        replace HB := hide ((unhide HB).below (unhide HK1))
        rw [unhide Ec] at hF
        rw [show a.length + m = c.length from unhide Lc]
        have HC : Hid (Arg w1 (.slice (some ⟨g1, 0, none⟩) c.length c1) g1 c) := fr_arg hF bc (unhide Lc)
        clear hF
        go_wp2_with fail
        refine (div_any _ _ _ _ c b _ (unhide HC) (unhide HB) (by omega) (by omega) hd0).mono ?_
        rintro e w2 ⟨v1, v2, q, r, rfl, hdiv, hF1, hF2, hk⟩
        have hq := hdiv.bq
        have hr := hdiv.br
        have HD := hide hdiv
        clear hdiv
        have HK2 : Hid (Below w1.heap.size w1 w2) := hk
        clear hk
        replace HT := hide ((unhide HT).trans ((unhide HK2).mono (unhide HT).size))
        replace HA := hide ((unhide HA).below (unhide HK2))
        replace HB := hide ((unhide HB).below (unhide HK2))
        replace HC := hide ((unhide HC).below (unhide HK2))
        obtain ⟨gq1, hA, hge⟩ := hF1.arg hq
        obtain ⟨⟨aq1, cq1, rfl, h1, h2, h3, h4⟩, _⟩ := hA
        have HQ1 : Hid (Arg w2 (.slice aq1 q.length cq1) gq1 q) := ⟨⟨aq1, cq1, rfl, h1, h2, h3, h4⟩, hq⟩
        clear h1 h2 h3 h4 hF1 hge
        obtain ⟨gq2, hA, hge⟩ := hF2.arg hr
        obtain ⟨⟨aq2, cq2, rfl, h1, h2, h3, h4⟩, _⟩ := hA
        have HQ2 : Hid (Arg w2 (.slice aq2 r.length cq2) gq2 r) := ⟨⟨aq2, cq2, rfl, h1, h2, h3, h4⟩, hr⟩
        clear h1 h2 h3 h4 hF2 hge
        have HO3 := hide (World.ownsRow_lit (base := w2.heap.size) (e := 5) (size := 1) w2 #[] 0 (Nat.le_refl _) (by unfold maxLen; omega) rfl)
        have HP3 := hide ((unhide HB).below ((Below.refl _ _).alloc (Nat.le_refl _) (.cells #[] 5))).parts
        go_wp2_with (at_builtin; refine wpList_append_row _ rfl _ _ 22 rfl w2.heap.size 5 i0 Try.underlying22 (unhide HI0) hz0 hz1 hz2 (.slice (some ⟨w2.heap.size, 0, none⟩) 0 0) 0 [] rfl (unhide HO3) bo gb b.length cb (ints b) rfl (ints_len _) (unhide HP3).1 (unhide HP3).2 (by omega) (by simp) ?_)
        intro vp3 wp3 ho hg hv
        obtain ⟨q3, cq3, rfl, hq3, hq3'⟩ := owns_shape ho hv
        have HO3b := hide (show wp3.ownsRow w2.heap.size 5 1 (.slice (some ⟨q3, 0, none⟩) b.length cq3) b.length ((ints b).map (Value.int .u8)) by simpa using ho)
        have HKP3 : Hid (Below w2.heap.size w2 wp3) := (((Kp.refl [] w2).alloc _).grown hg (by intro j hj; cases hj; exact .inr (Nat.le_refl _))).below
        have hzp3 := (unhide HKP3).size
        clear ho hg hv HO3
        go_wp2_with fail
        refine (within_any n 9 _ (by omega) (by omega)).mono ?_
        rintro e wq3 ⟨rfl, hwq⟩
        rw [hwq]
        clear hwq wq3
        rw [unhide HNM]
        go_wp2_with (at_builtin; refine wpList_append_zeros _ rfl _ _ 22 3 rfl w2.heap.size 5 i0 Try.underlying22 Try.underlying3 (unhide HI0) hz0 hz1 hz2 q3 b.length cq3 (ints b) rfl (unhide HO3b) m rfl (by omega) (by omega) hzp3 ?_)
        intro g3 c3 w3 ys HYS ho hg
        have hF := (pad_fr (unhide HYS) ho)
        have hk : Below w2.heap.size w2 w3 := by
          have h := ((Kp.refl [] w2).ofBelow (unhide HKP3)).grown hg (by intro j hj; cases hj; exact .inr hq3)
          exact h.below
        clear ho hg HYS HO3b
        have HK3 : Hid (Below w2.heap.size w2 w3) := hk
        clear hk
        replace HT := hide ((unhide HT).trans ((unhide HK3).mono (unhide HT).size))
        replace HA := hide ((unhide HA).below (unhide HK3))
        replace HB := hide ((unhide HB).below (unhide HK3))
        replace HC := hide ((unhide HC).below (unhide HK3))
        replace HQ1 := hide ((unhide HQ1).below (unhide HK3))
        replace HQ2 := hide ((unhide HQ2).below (unhide HK3))
        rw [unhide Ee] at hF
        rw [show b.length + m = e.length from unhide Le]
        have HE : Hid (Arg w3 (.slice (some ⟨g3, 0, none⟩) e.length c3) g3 e) := fr_arg hF be (unhide Le)
        clear hF
        go_wp2_with fail
        refine (div_any _ _ _ _ a e _ (unhide HA) (unhide HE) (by omega) (by omega) (by rw [unhide Eb]; exact hd0)).mono ?_
        rintro e' w4 ⟨v1, v2, q2, r2, rfl, hdiv, hF1, hF2, hk⟩
        obtain ⟨rfl, rfl⟩ := (hdiv.same (unhide Qc) (unhide Qe) be hbs2 (unhide Eb)).once hbs2 (unhide HD)
        clear hdiv
        have HK4 : Hid (Below w3.heap.size w3 w4) := hk
        clear hk
        replace HT := hide ((unhide HT).trans ((unhide HK4).mono (unhide HT).size))
        replace HA := hide ((unhide HA).below (unhide HK4))
        replace HB := hide ((unhide HB).below (unhide HK4))
        replace HC := hide ((unhide HC).below (unhide HK4))
        replace HE := hide ((unhide HE).below (unhide HK4))
        replace HQ1 := hide ((unhide HQ1).below (unhide HK4))
        replace HQ2 := hide ((unhide HQ2).below (unhide HK4))
        obtain ⟨gq3, hA, hge⟩ := hF1.arg hq
        obtain ⟨⟨aq3, cq3, rfl, h1, h2, h3, h4⟩, _⟩ := hA
        have HQ3 : Hid (Arg w4 (.slice aq3 q2.length cq3) gq3 q2) := ⟨⟨aq3, cq3, rfl, h1, h2, h3, h4⟩, hq⟩
        clear h1 h2 h3 h4 hF1 hge
        obtain ⟨gq4, hA, hge⟩ := hF2.arg hr
        obtain ⟨⟨aq4, cq4, rfl, h1, h2, h3, h4⟩, _⟩ := hA
        have HQ4 : Hid (Arg w4 (.slice aq4 r2.length cq4) gq4 r2) := ⟨⟨aq4, cq4, rfl, h1, h2, h3, h4⟩, hr⟩
        clear h1 h2 h3 h4 hF2 hge
        go_wp2_with fail
        replace HT := hide ((unhide HT).drew)
        replace HA := hide ((unhide HA).below (Below.refl _ _).drew)
        replace HB := hide ((unhide HB).below (Below.refl _ _).drew)
        replace HC := hide ((unhide HC).below (Below.refl _ _).drew)
        replace HE := hide ((unhide HE).below (Below.refl _ _).drew)
        replace HQ1 := hide ((unhide HQ1).below (Below.refl _ _).drew)
        replace HQ2 := hide ((unhide HQ2).below (Below.refl _ _).drew)
        replace HQ3 := hide ((unhide HQ3).below (Below.refl _ _).drew)
        replace HQ4 := hide ((unhide HQ4).below (Below.refl _ _).drew)
        refine wp_region_noPanic ?_
        refine wp_region_held_drew (S := fun W => Below w4.drew.heap.size w4.drew W) (by kernel_rfl) (Below.refl _ _) (fun hHeld => ?_)
        have HH := hide hHeld
        clear hHeld
        refine takeL (i := 0) (v := ?_) rfl (by kernel_rfl) (by kernel_rfl) (by kernel_rfl) (fun _ _ _ h => h) (Or.inl ⟨by rfl, ?_⟩) (unhide HH) ?_
        rotate_left 1
        · intro W hSW; go_simp; all_goals (with_reducible rfl)
        (try simp only [Act.put, List.setIfInBounds_toArray, List.set_cons_zero, List.set_cons_succ])
        refine takeL (i := 3) (v := ?_) rfl (by kernel_rfl) (by kernel_rfl) (by kernel_rfl) (fun _ _ _ h => h) (Or.inl ⟨by rfl, ?_⟩) (unhide HH) ?_
        rotate_left 1
        · intro W hSW; go_simp; all_goals (with_reducible rfl)
        (try simp only [Act.put, List.setIfInBounds_toArray, List.set_cons_zero, List.set_cons_succ])
        refine wpAnyH_ready (rs := [1]) (by kernel_rfl) (by simp) ?_
        refine consL rfl (fun K hK => ?_) AllReadyH.nil
        go_simp
        refine (trim_any _ _ c _ (unhide HC) (by omega)).mono ?_
        rintro e w5 ⟨v5, rfl, hF, hk⟩
        rw [unhide Et] at hF
        have HK5 : Hid (Below w4.drew.heap.size w4.drew w5) := hk
        clear hk
        replace HT := hide ((unhide HT).trans ((unhide HK5).mono (unhide HT).size))
        replace HA := hide ((unhide HA).below (unhide HK5))
        replace HB := hide ((unhide HB).below (unhide HK5))
        replace HC := hide ((unhide HC).below (unhide HK5))
        replace HE := hide ((unhide HE).below (unhide HK5))
        replace HQ1 := hide ((unhide HQ1).below (unhide HK5))
        replace HQ2 := hide ((unhide HQ2).below (unhide HK5))
        replace HQ3 := hide ((unhide HQ3).below (unhide HK5))
        replace HQ4 := hide ((unhide HQ4).below (unhide HK5))
        obtain ⟨g5, hA, hge⟩ := hF.arg bs1
        obtain ⟨⟨ao5, c5, rfl, h1, h2, h3, h4⟩, _⟩ := hA
        have HA5 : Hid (Arg w5 (.slice ao5 s1.length c5) g5 s1) := ⟨⟨ao5, c5, rfl, h1, h2, h3, h4⟩, bs1⟩
        clear h1 h2 h3 h4 hF hge
        go_wp2_with fail
        refine hK.out _ _ (unhide HK5) (fun hHeld => ?_)
        clear hK K HH hHeld
        (try simp only [Act.put, List.setIfInBounds_toArray, List.set_cons_zero, List.set_cons_succ])
        refine stronger (S' := fun W => Below w5.heap.size w5 W) (fun W h => (unhide HK5).trans (h.mono (unhide HK5).size)) _ _ _ _ ?_
        have HH : Hid (Below w5.heap.size w5 w5) := Below.refl _ _
        refine takeL (i := 2) (v := ?_) rfl (by kernel_rfl) (by kernel_rfl) (by kernel_rfl) (fun _ _ _ h => h) (Or.inl ⟨by rfl, ?_⟩) (unhide HH) ?_
        rotate_left 1
        · intro W1 hSW; have hcv := conv_arg ((unhide HA5).below hSW); clear hSW; go_simp; all_goals (with_reducible rfl)
        (try simp only [Act.put, List.setIfInBounds_toArray, List.set_cons_zero, List.set_cons_succ])
        refine wpAnyH_ready (rs := [4]) (by kernel_rfl) (by simp) ?_
        refine consL rfl (fun K hK => ?_) AllReadyH.nil
        go_simp
        refine (trim_any _ _ a _ (unhide HA) (by omega)).mono ?_
        rintro e w6 ⟨v6, rfl, hF, hk⟩
        rw [unhide Es1] at hF
        have HK6 : Hid (Below w5.heap.size w5 w6) := hk
        clear hk
        replace HT := hide ((unhide HT).trans ((unhide HK6).mono (unhide HT).size))
        replace HA := hide ((unhide HA).below (unhide HK6))
        replace HA5 := hide ((unhide HA5).below (unhide HK6))
        replace HB := hide ((unhide HB).below (unhide HK6))
        replace HC := hide ((unhide HC).below (unhide HK6))
        replace HE := hide ((unhide HE).below (unhide HK6))
        replace HQ1 := hide ((unhide HQ1).below (unhide HK6))
        replace HQ2 := hide ((unhide HQ2).below (unhide HK6))
        replace HQ3 := hide ((unhide HQ3).below (unhide HK6))
        replace HQ4 := hide ((unhide HQ4).below (unhide HK6))
        obtain ⟨g6, hA, hge⟩ := hF.arg bs1
        obtain ⟨⟨ao6, c6, rfl, h1, h2, h3, h4⟩, _⟩ := hA
        have HA6 : Hid (Arg w6 (.slice ao6 s1.length c6) g6 s1) := ⟨⟨ao6, c6, rfl, h1, h2, h3, h4⟩, bs1⟩
        clear h1 h2 h3 h4 hF hge
        go_wp2_with fail
        refine hK.out _ _ (unhide HK6) (fun hHeld => ?_)
        clear hK K HH hHeld
        (try simp only [Act.put, List.setIfInBounds_toArray, List.set_cons_zero, List.set_cons_succ])
        refine stronger (S' := fun W => Below w6.heap.size w6 W) (fun W h => (unhide HK6).trans (h.mono (unhide HK6).size)) _ _ _ _ ?_
        have HH : Hid (Below w6.heap.size w6 w6) := Below.refl _ _
        refine takeL (i := 5) (v := ?_) rfl (by kernel_rfl) (by kernel_rfl) (by kernel_rfl) (fun _ _ _ h => h) (Or.inl ⟨by rfl, ?_⟩) (unhide HH) ?_
        rotate_left 1
        · intro W1 hSW; have hcv := conv_arg ((unhide HA6).below hSW); clear hSW; go_simp; all_goals (with_reducible rfl)
        (try simp only [Act.put, List.setIfInBounds_toArray, List.set_cons_zero, List.set_cons_succ])
        refine takeL (i := 6) (v := ?_) rfl (by kernel_rfl) (by kernel_rfl) (by kernel_rfl) (fun _ _ _ h => h) (Or.inl ⟨by rfl, ?_⟩) (unhide HH) ?_
        rotate_left 1
        · intro W hSW; go_simp; all_goals (with_reducible rfl)
        (try simp only [Act.put, List.setIfInBounds_toArray, List.set_cons_zero, List.set_cons_succ])
        refine takeL (i := 7) (v := ?_) rfl (by kernel_rfl) (by kernel_rfl) (by kernel_rfl) (fun _ _ _ h => h) (Or.inl ⟨by rfl, ?_⟩) (unhide HH) ?_
        rotate_left 1
        · intro W hSW; go_simp; all_goals (with_reducible rfl)
        (try simp only [Act.put, List.setIfInBounds_toArray, List.set_cons_zero, List.set_cons_succ])
        refine takeL (i := 8) (v := ?_) rfl (by kernel_rfl) (by kernel_rfl) (by kernel_rfl) (fun _ _ _ h => h) (Or.inl ⟨by rfl, ?_⟩) (unhide HH) ?_
        rotate_left 1
        · intro W hSW; go_simp; all_goals (with_reducible rfl)
        (try simp only [Act.put, List.setIfInBounds_toArray, List.set_cons_zero, List.set_cons_succ])
        refine takeL (i := 9) (v := ?_) rfl (by kernel_rfl) (by kernel_rfl) (by kernel_rfl) (fun _ _ _ h => h) (Or.inl ⟨by rfl, ?_⟩) (unhide HH) ?_
        rotate_left 1
        · intro W1 hSW; have hcv := conv_arg ((unhide HQ1).below hSW); clear hSW; go_simp; all_goals (with_reducible rfl)
        (try simp only [Act.put, List.setIfInBounds_toArray, List.set_cons_zero, List.set_cons_succ])
        refine takeL (i := 10) (v := ?_) rfl (by kernel_rfl) (by kernel_rfl) (by kernel_rfl) (fun _ _ _ h => h) (Or.inl ⟨by rfl, ?_⟩) (unhide HH) ?_
        rotate_left 1
        · intro W hSW; go_simp; all_goals (with_reducible rfl)
        (try simp only [Act.put, List.setIfInBounds_toArray, List.set_cons_zero, List.set_cons_succ])
        refine takeL (i := 11) (v := ?_) rfl (by kernel_rfl) (by kernel_rfl) (by kernel_rfl) (fun _ _ _ h => h) (Or.inl ⟨by rfl, ?_⟩) (unhide HH) ?_
        rotate_left 1
        · intro W1 hSW; have hcv := conv_arg ((unhide HQ3).below hSW); clear hSW; go_simp; all_goals (with_reducible rfl)
        (try simp only [Act.put, List.setIfInBounds_toArray, List.set_cons_zero, List.set_cons_succ])
        refine takeL (i := 12) (v := ?_) rfl (by kernel_rfl) (by kernel_rfl) (by kernel_rfl) (fun _ _ _ h => h) (Or.inl ⟨by rfl, ?_⟩) (unhide HH) ?_
        rotate_left 1
        · intro W hSW; go_simp; all_goals (with_reducible rfl)
        (try simp only [Act.put, List.setIfInBounds_toArray, List.set_cons_zero, List.set_cons_succ])
        refine takeL (i := 13) (v := ?_) rfl (by kernel_rfl) (by kernel_rfl) (by kernel_rfl) (fun _ _ _ h => h) (Or.inl ⟨by rfl, ?_⟩) (unhide HH) ?_
        rotate_left 1
        · intro W hSW; go_simp; all_goals (with_reducible rfl)
        (try simp only [Act.put, List.setIfInBounds_toArray, List.set_cons_zero, List.set_cons_succ])
        refine takeL (i := 14) (v := ?_) rfl (by kernel_rfl) (by kernel_rfl) (by kernel_rfl) (fun _ _ _ h => h) (Or.inl ⟨by rfl, ?_⟩) (unhide HH) ?_
        rotate_left 1
        · intro W hSW; go_simp; all_goals (with_reducible rfl)
        (try simp only [Act.put, List.setIfInBounds_toArray, List.set_cons_zero, List.set_cons_succ])
        refine takeL (i := 15) (v := ?_) rfl (by kernel_rfl) (by kernel_rfl) (by kernel_rfl) (fun _ _ _ h => h) (Or.inl ⟨by rfl, ?_⟩) (unhide HH) ?_
        rotate_left 1
        · intro W hSW; go_simp; all_goals (with_reducible rfl)
        (try simp only [Act.put, List.setIfInBounds_toArray, List.set_cons_zero, List.set_cons_succ])
        refine takeL (i := 16) (v := ?_) rfl (by kernel_rfl) (by kernel_rfl) (by kernel_rfl) (fun _ _ _ h => h) (Or.inl ⟨by rfl, ?_⟩) (unhide HH) ?_
        rotate_left 1
        · intro W1 hSW; have hcv := conv_arg ((unhide HQ2).below hSW); clear hSW; go_simp; all_goals (with_reducible rfl)
        (try simp only [Act.put, List.setIfInBounds_toArray, List.set_cons_zero, List.set_cons_succ])
        refine takeL (i := 17) (v := ?_) rfl (by kernel_rfl) (by kernel_rfl) (by kernel_rfl) (fun _ _ _ h => h) (Or.inl ⟨by rfl, ?_⟩) (unhide HH) ?_
        rotate_left 1
        · intro W hSW; go_simp; all_goals (with_reducible rfl)
        (try simp only [Act.put, List.setIfInBounds_toArray, List.set_cons_zero, List.set_cons_succ])
        refine takeL (i := 18) (v := ?_) rfl (by kernel_rfl) (by kernel_rfl) (by kernel_rfl) (fun _ _ _ h => h) (Or.inl ⟨by rfl, ?_⟩) (unhide HH) ?_
        rotate_left 1
        · intro W1 hSW; have hcv := conv_arg ((unhide HQ4).below hSW); clear hSW; go_simp; all_goals (with_reducible rfl)
        (try simp only [Act.put, List.setIfInBounds_toArray, List.set_cons_zero, List.set_cons_succ])
        refine takeL (i := 19) (v := ?_) rfl (by kernel_rfl) (by kernel_rfl) (by kernel_rfl) (fun _ _ _ h => h) (Or.inl ⟨by rfl, ?_⟩) (unhide HH) ?_
        rotate_left 1
        · intro W hSW; go_simp; all_goals (with_reducible rfl)
        (try simp only [Act.put, List.setIfInBounds_toArray, List.set_cons_zero, List.set_cons_succ])
        refine takeL (i := 20) (v := ?_) rfl (by kernel_rfl) (by kernel_rfl) (by kernel_rfl) (fun _ _ _ h => h) (Or.inl ⟨by rfl, ?_⟩) (unhide HH) ?_
        rotate_left 1
        · intro W hSW; go_simp; all_goals (with_reducible rfl)
        (try simp only [Act.put, List.setIfInBounds_toArray, List.set_cons_zero, List.set_cons_succ])
        refine takeL (i := 21) (v := ?_) rfl (by kernel_rfl) (by kernel_rfl) (by kernel_rfl) (fun _ _ _ h => h) (Or.inl ⟨by rfl, ?_⟩) (unhide HH) ?_
        rotate_left 1
        · intro W hSW; go_simp; all_goals (with_reducible rfl)
        (try simp only [Act.put, List.setIfInBounds_toArray, List.set_cons_zero, List.set_cons_succ])
        refine takeL (i := 22) (v := ?_) rfl (by kernel_rfl) (by kernel_rfl) (by kernel_rfl) (fun _ _ _ h => h) (Or.inl ⟨by rfl, ?_⟩) (unhide HH) ?_
        rotate_left 1
        · intro W hSW; go_simp; all_goals (with_reducible rfl)
        (try simp only [Act.put, List.setIfInBounds_toArray, List.set_cons_zero, List.set_cons_succ])
        refine takeL (i := 23) (v := ?_) rfl (by kernel_rfl) (by kernel_rfl) (by kernel_rfl) (fun _ _ _ h => h) (Or.inl ⟨by rfl, ?_⟩) (unhide HH) ?_
        rotate_left 1
        · intro W hSW; go_simp; all_goals (with_reducible rfl)
        (try simp only [Act.put, List.setIfInBounds_toArray, List.set_cons_zero, List.set_cons_succ])
        refine takeL (i := 24) (v := ?_) rfl (by kernel_rfl) (by kernel_rfl) (by kernel_rfl) (fun _ _ _ h => h) (Or.inl ⟨by rfl, ?_⟩) (unhide HH) ?_
        rotate_left 1
        · intro W hSW; go_simp; all_goals (with_reducible rfl)
        (try simp only [Act.put, List.setIfInBounds_toArray, List.set_cons_zero, List.set_cons_succ])
        refine takeL (i := 25) (v := ?_) rfl (by kernel_rfl) (by kernel_rfl) (by kernel_rfl) (fun _ _ _ h => h) (Or.inl ⟨by rfl, ?_⟩) (unhide HH) ?_
        rotate_left 1
        · intro W hSW; go_simp; all_goals (with_reducible rfl)
        (try simp only [Act.put, List.setIfInBounds_toArray, List.set_cons_zero, List.set_cons_succ])
        refine takeL (i := 26) (v := ?_) rfl (by kernel_rfl) (by kernel_rfl) (by kernel_rfl) (fun _ _ _ h => h) (Or.inl ⟨by rfl, ?_⟩) (unhide HH) ?_
        rotate_left 1
        · intro W hSW; go_simp; all_goals (with_reducible rfl)
        (try simp only [Act.put, List.setIfInBounds_toArray, List.set_cons_zero, List.set_cons_succ])
        refine takeL (i := 27) (v := ?_) rfl (by kernel_rfl) (by kernel_rfl) (by kernel_rfl) (fun _ _ _ h => h) (Or.inl ⟨by rfl, ?_⟩) (unhide HH) ?_
        rotate_left 1
        · intro W hSW; go_simp; all_goals (with_reducible rfl)
        (try simp only [Act.put, List.setIfInBounds_toArray, List.set_cons_zero, List.set_cons_succ])
        refine takeL (i := 28) (v := ?_) rfl (by kernel_rfl) (by kernel_rfl) (by kernel_rfl) (fun _ _ _ h => h) (Or.inl ⟨by rfl, ?_⟩) (unhide HH) ?_
        rotate_left 1
        · intro W hSW; go_simp; all_goals (with_reducible rfl)
        (try simp only [Act.put, List.setIfInBounds_toArray, List.set_cons_zero, List.set_cons_succ])
        refine takeL (i := 30) (v := ?_) rfl (by kernel_rfl) (by kernel_rfl) (by kernel_rfl) (fun _ _ _ h => h) (Or.inl ⟨by rfl, ?_⟩) (unhide HH) ?_
        rotate_left 1
        · intro W hSW; go_simp; all_goals (with_reducible rfl)
        (try simp only [Act.put, List.setIfInBounds_toArray, List.set_cons_zero, List.set_cons_succ])
        refine takeL (i := 31) (v := ?_) rfl (by kernel_rfl) (by kernel_rfl) (by kernel_rfl) (fun _ _ _ h => h) (Or.inl ⟨by rfl, ?_⟩) (unhide HH) ?_
        rotate_left 1
        · intro W hSW; go_simp; all_goals (with_reducible rfl)
        (try simp only [Act.put, List.setIfInBounds_toArray, List.set_cons_zero, List.set_cons_succ])
        refine wpAnyH_ready (rs := [29]) (by kernel_rfl) (by simp) ?_
        refine consL rfl (fun K hK => ?_) AllReadyH.nil
        go_simp
        refine (eval_any _ _ c x _ (unhide HC) (by omega) (by omega)).mono ?_
        rintro e w7 ⟨rfl, hk⟩
        rw [unhide EY2]
        have HK7 : Hid (Below w6.heap.size w6 w7) := hk
        clear hk
        replace HT := hide ((unhide HT).trans ((unhide HK7).mono (unhide HT).size))
        replace HA := hide ((unhide HA).below (unhide HK7))
        replace HA5 := hide ((unhide HA5).below (unhide HK7))
        replace HA6 := hide ((unhide HA6).below (unhide HK7))
        replace HB := hide ((unhide HB).below (unhide HK7))
        replace HC := hide ((unhide HC).below (unhide HK7))
        replace HE := hide ((unhide HE).below (unhide HK7))
        replace HQ1 := hide ((unhide HQ1).below (unhide HK7))
        replace HQ2 := hide ((unhide HQ2).below (unhide HK7))
        replace HQ3 := hide ((unhide HQ3).below (unhide HK7))
        replace HQ4 := hide ((unhide HQ4).below (unhide HK7))
        go_wp2_with fail
        refine hK.out _ _ (unhide HK7) (fun hHeld => ?_)
        clear hK K HH hHeld
        (try simp only [Act.put, List.setIfInBounds_toArray, List.set_cons_zero, List.set_cons_succ])
        refine stronger (S' := fun W => Below w7.heap.size w7 W) (fun W h => (unhide HK7).trans (h.mono (unhide HK7).size)) _ _ _ _ ?_
        have HH : Hid (Below w7.heap.size w7 w7) := Below.refl _ _
        refine wpAnyH_ready (rs := [32]) (by kernel_rfl) (by simp) ?_
        refine consL rfl (fun K hK => ?_) AllReadyH.nil
        go_simp
        refine (eval_any _ _ a x _ (unhide HA) (by omega) (by omega)).mono ?_
        rintro e w8 ⟨rfl, hk⟩
        rw [unhide EY1]
        have HK8 : Hid (Below w7.heap.size w7 w8) := hk
        clear hk
        replace HT := hide ((unhide HT).trans ((unhide HK8).mono (unhide HT).size))
        replace HA := hide ((unhide HA).below (unhide HK8))
        replace HA5 := hide ((unhide HA5).below (unhide HK8))
        replace HA6 := hide ((unhide HA6).below (unhide HK8))
        replace HB := hide ((unhide HB).below (unhide HK8))
        replace HC := hide ((unhide HC).below (unhide HK8))
        replace HE := hide ((unhide HE).below (unhide HK8))
        replace HQ1 := hide ((unhide HQ1).below (unhide HK8))
        replace HQ2 := hide ((unhide HQ2).below (unhide HK8))
        replace HQ3 := hide ((unhide HQ3).below (unhide HK8))
        replace HQ4 := hide ((unhide HQ4).below (unhide HK8))
        go_wp2_with fail
        refine hK.out _ _ (unhide HK8) (fun hHeld => ?_)
        clear hK K HH hHeld
        (try simp only [Act.put, List.setIfInBounds_toArray, List.set_cons_zero, List.set_cons_succ])
        refine stronger (S' := fun W => Below w8.heap.size w8 W) (fun W h => (unhide HK8).trans (h.mono (unhide HK8).size)) _ _ _ _ ?_
        have HH : Hid (Below w8.heap.size w8 w8) := Below.refl _ _
        refine takeL (i := 33) (v := ?_) rfl (by kernel_rfl) (by kernel_rfl) (by kernel_rfl) (fun _ _ _ h => h) (Or.inl ⟨by rfl, ?_⟩) (unhide HH) ?_
        rotate_left 1
        · intro W hSW; go_simp; all_goals (with_reducible rfl)
        (try simp only [Act.put, List.setIfInBounds_toArray, List.set_cons_zero, List.set_cons_succ])
        refine takeL (i := 34) (v := ?_) rfl (by kernel_rfl) (by kernel_rfl) (by kernel_rfl) (fun _ _ _ h => h) (Or.inl ⟨by rfl, ?_⟩) (unhide HH) ?_
        rotate_left 1
        · intro W hSW; go_simp; all_goals (with_reducible rfl)
        (try simp only [Act.put, List.setIfInBounds_toArray, List.set_cons_zero, List.set_cons_succ])
        refine takeL (i := 35) (v := ?_) rfl (by kernel_rfl) (by kernel_rfl) (by kernel_rfl) (fun _ _ _ h => h) (Or.inl ⟨by rfl, ?_⟩) (unhide HH) ?_
        rotate_left 1
        · intro W hSW; go_simp; all_goals (with_reducible rfl)
        (try simp only [Act.put, List.setIfInBounds_toArray, List.set_cons_zero, List.set_cons_succ])
        refine takeL (i := 36) (v := ?_) rfl (by kernel_rfl) (by kernel_rfl) (by kernel_rfl) (fun _ _ _ h => h) (Or.inl ⟨by rfl, ?_⟩) (unhide HH) ?_
        rotate_left 1
        · intro W hSW; go_simp; all_goals (with_reducible rfl)
        (try simp only [Act.put, List.setIfInBounds_toArray, List.set_cons_zero, List.set_cons_succ])
        refine takeL (i := 37) (v := ?_) rfl (by kernel_rfl) (by kernel_rfl) (by kernel_rfl) (fun _ _ _ h => h) (Or.inl ⟨by rfl, ?_⟩) (unhide HH) ?_
        rotate_left 1
        · intro W hSW; go_simp; all_goals (with_reducible rfl)
        (try simp only [Act.put, List.setIfInBounds_toArray, List.set_cons_zero, List.set_cons_succ])
        refine takeL (i := 40) (v := ?_) rfl (by kernel_rfl) (by kernel_rfl) (by kernel_rfl) (fun _ _ _ h => h) (Or.inl ⟨by rfl, ?_⟩) (unhide HH) ?_
        rotate_left 1
        · intro W hSW; go_simp; all_goals (with_reducible rfl)
        (try simp only [Act.put, List.setIfInBounds_toArray, List.set_cons_zero, List.set_cons_succ])
        refine takeL (i := 41) (v := ?_) rfl (by kernel_rfl) (by kernel_rfl) (by kernel_rfl) (fun _ _ _ h => h) (Or.inl ⟨by rfl, ?_⟩) (unhide HH) ?_
        rotate_left 1
        · intro W hSW; go_simp; all_goals (with_reducible rfl)
        (try simp only [Act.put, List.setIfInBounds_toArray, List.set_cons_zero, List.set_cons_succ])
        refine wpAnyH_ready (rs := [38]) (by kernel_rfl) (by simp) ?_
        refine consL rfl (fun K hK => ?_) AllReadyH.nil
        go_simp
        refine (pmul_any _ _ _ _ c b _ (unhide HC) (unhide HB) (by first | omega | simp) (by first | omega | simp)).mono ?_
        rintro e w9 ⟨v9, rfl, hF, hk⟩
        rw [unhide Em] at hF
        have HK9 : Hid (Below w8.heap.size w8 w9) := hk
        clear hk
        replace HT := hide ((unhide HT).trans ((unhide HK9).mono (unhide HT).size))
        replace HA := hide ((unhide HA).below (unhide HK9))
        replace HA5 := hide ((unhide HA5).below (unhide HK9))
        replace HA6 := hide ((unhide HA6).below (unhide HK9))
        replace HB := hide ((unhide HB).below (unhide HK9))
        replace HC := hide ((unhide HC).below (unhide HK9))
        replace HE := hide ((unhide HE).below (unhide HK9))
        replace HQ1 := hide ((unhide HQ1).below (unhide HK9))
        replace HQ2 := hide ((unhide HQ2).below (unhide HK9))
        replace HQ3 := hide ((unhide HQ3).below (unhide HK9))
        replace HQ4 := hide ((unhide HQ4).below (unhide HK9))
        obtain ⟨g9, hA, hge⟩ := hF.arg bs2
        obtain ⟨⟨ao9, c9, rfl, h1, h2, h3, h4⟩, _⟩ := hA
        have HA9 : Hid (Arg w9 (.slice ao9 s2.length c9) g9 s2) := ⟨⟨ao9, c9, rfl, h1, h2, h3, h4⟩, bs2⟩
        clear h1 h2 h3 h4 hF hge
        go_wp2_with fail
        refine hK.out _ _ (unhide HK9) (fun hHeld => ?_)
        clear hK K HH hHeld
        (try simp only [Act.put, List.setIfInBounds_toArray, List.set_cons_zero, List.set_cons_succ])
        refine stronger (S' := fun W => Below w9.heap.size w9 W) (fun W h => (unhide HK9).trans (h.mono (unhide HK9).size)) _ _ _ _ ?_
        have HH : Hid (Below w9.heap.size w9 w9) := Below.refl _ _
        refine takeL (i := 39) (v := ?_) rfl (by kernel_rfl) (by kernel_rfl) (by kernel_rfl) (fun _ _ _ h => h) (Or.inl ⟨by rfl, ?_⟩) (unhide HH) ?_
        rotate_left 1
        · intro W1 hSW; have hcv := conv_arg ((unhide HA9).below hSW); clear hSW; go_simp; all_goals (with_reducible rfl)
        (try simp only [Act.put, List.setIfInBounds_toArray, List.set_cons_zero, List.set_cons_succ])
        refine wpAnyH_ready (rs := [42]) (by kernel_rfl) (by simp) ?_
        refine consL rfl (fun K hK => ?_) AllReadyH.nil
        go_simp
        refine (pmul_any _ _ _ _ a b _ (unhide HA) (unhide HB) (by first | omega | simp) (by first | omega | simp)).mono ?_
        rintro e w10 ⟨v10, rfl, hF, hk⟩
        rw [unhide Es2] at hF
        have HK10 : Hid (Below w9.heap.size w9 w10) := hk
        clear hk
        replace HT := hide ((unhide HT).trans ((unhide HK10).mono (unhide HT).size))
        replace HA := hide ((unhide HA).below (unhide HK10))
        replace HA5 := hide ((unhide HA5).below (unhide HK10))
        replace HA6 := hide ((unhide HA6).below (unhide HK10))
        replace HA9 := hide ((unhide HA9).below (unhide HK10))
        replace HB := hide ((unhide HB).below (unhide HK10))
        replace HC := hide ((unhide HC).below (unhide HK10))
        replace HE := hide ((unhide HE).below (unhide HK10))
        replace HQ1 := hide ((unhide HQ1).below (unhide HK10))
        replace HQ2 := hide ((unhide HQ2).below (unhide HK10))
        replace HQ3 := hide ((unhide HQ3).below (unhide HK10))
        replace HQ4 := hide ((unhide HQ4).below (unhide HK10))
        obtain ⟨g10, hA, hge⟩ := hF.arg bs2
        obtain ⟨⟨ao10, c10, rfl, h1, h2, h3, h4⟩, _⟩ := hA
        have HA10 : Hid (Arg w10 (.slice ao10 s2.length c10) g10 s2) := ⟨⟨ao10, c10, rfl, h1, h2, h3, h4⟩, bs2⟩
        clear h1 h2 h3 h4 hF hge
        go_wp2_with fail
        refine hK.out _ _ (unhide HK10) (fun hHeld => ?_)
        clear hK K HH hHeld
        (try simp only [Act.put, List.setIfInBounds_toArray, List.set_cons_zero, List.set_cons_succ])
        refine stronger (S' := fun W => Below w10.heap.size w10 W) (fun W h => (unhide HK10).trans (h.mono (unhide HK10).size)) _ _ _ _ ?_
        have HH : Hid (Below w10.heap.size w10 w10) := Below.refl _ _
        refine takeL (i := 43) (v := ?_) rfl (by kernel_rfl) (by kernel_rfl) (by kernel_rfl) (fun _ _ _ h => h) (Or.inl ⟨by rfl, ?_⟩) (unhide HH) ?_
        rotate_left 1
        · intro W1 hSW; have hcv := conv_arg ((unhide HA10).below hSW); clear hSW; go_simp; all_goals (with_reducible rfl)
        (try simp only [Act.put, List.setIfInBounds_toArray, List.set_cons_zero, List.set_cons_succ])
        refine takeL (i := 44) (v := ?_) rfl (by kernel_rfl) (by kernel_rfl) (by kernel_rfl) (fun _ _ _ h => h) (Or.inl ⟨by rfl, ?_⟩) (unhide HH) ?_
        rotate_left 1
        · intro W hSW; go_simp; all_goals (with_reducible rfl)
        (try simp only [Act.put, List.setIfInBounds_toArray, List.set_cons_zero, List.set_cons_succ])
        refine takeL (i := 45) (v := ?_) rfl (by kernel_rfl) (by kernel_rfl) (by kernel_rfl) (fun _ _ _ h => h) (Or.inl ⟨by rfl, ?_⟩) (unhide HH) ?_
        rotate_left 1
        · intro W hSW; go_simp; all_goals (with_reducible rfl)
        (try simp only [Act.put, List.setIfInBounds_toArray, List.set_cons_zero, List.set_cons_succ])
        refine takeL (i := 46) (v := ?_) rfl (by kernel_rfl) (by kernel_rfl) (by kernel_rfl) (fun _ _ _ h => h) (Or.inl ⟨by rfl, ?_⟩) (unhide HH) ?_
        rotate_left 1
        · intro W hSW; go_simp; all_goals (with_reducible rfl)
        (try simp only [Act.put, List.setIfInBounds_toArray, List.set_cons_zero, List.set_cons_succ])
        refine wpAnyH_done (by kernel_rfl) ?_ _
        refine NoPanic.normal ?_
        go_wp2
        go_ret
        exact ⟨rfl, unhide HT⟩

end Go.Proofs.Ytibmfblppjcenaa
