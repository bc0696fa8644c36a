/-
  RsBounds' walk.
-/
import Derived.Test.YtdlbkgehgbacmabT6
namespace Go.Proofs.Ytdlbkgehgbacmab
open Go.RowKit

theorem arg_three (w : World) : Arg (w.alloc (.cells #[.int .u8 1, .int .u8 2, .int .u8 3] 5)) (.slice (some ⟨w.heap.size, 0, none⟩) 3 3) w.heap.size [1, 2, 3] := by
  have h : Blk (w.alloc (.cells #[.int .u8 1, .int .u8 2, .int .u8 3] 5)) w.heap.size [1, 2, 3] := ⟨_, World.alloc_heap_new w _, fun j hj => by
    have hj2 : j = 0 ∨ j = 1 ∨ j = 2 := by simp at hj; omega
    rcases hj2 with rfl | rfl | rfl <;> rfl⟩
  exact h.arg (c := 3) (Bs.of (fun x hx => by simp at hx; omega)) (by simp) (by unfold maxLen; omega)
theorem z_nil (w : World) : ZArg w (.slice none 0 0) 0 [] := ⟨⟨none, 0, rfl, by simp, by simp, fun _ => rfl, .inl rfl⟩, by simp⟩
theorem z_one (w : World) (k : Nat) (hk : k < 1000) : ZArg (w.alloc (.cells #[.int .i64 (k : Int)] 3)) (.slice (some ⟨w.heap.size, 0, none⟩) 1 1) w.heap.size [(k : Int)] :=
  ⟨⟨some ⟨w.heap.size, 0, none⟩, 1, rfl, by simp, by unfold maxLen; omega, (fun h => by cases h), .inr ⟨0, rfl, fun j hj => by
    have : j = 0 := by simpa using hj
    subst this
    exact (cell_new' w _ _).1⟩⟩, by simp; omega⟩
theorem keep_nil (i : Nat) : keep [] i = true := by simp [keep]
theorem pk_nil (N : Nat) : pk [] N = true := pk_of ⟨by simp, by simp, by simp⟩
theorem fix_none {l : List (List Nat)} {s : Nat} (hs : ∀ i, i < l.length → (l.getD i []).length = s) (hb : ∀ i, Bs (l.getD i [])) : IsFix l [] l s :=
  ⟨rfl, fun i hi _ => hs i hi, hs, fun _ _ _ => rfl, hb, fun ⟨z, hz, _⟩ => by simp at hz, fun h => by simp at h⟩
theorem par_not {l : List (List Nat)} {n : Nat} (hl : l.length = n) (h : n < 2 ∨ 14 < n) : pP l = [] ∧ pQ l = [] := by
  have : okP l = false := by
    unfold okP
    rw [hl]
    rcases h with h | h
    · rw [decide_eq_false (by omega)]; rfl
    · rw [decide_eq_false (p := n ≤ 14) (by omega)]; simp
  unfold pP pQ
  rw [this]
  exact ⟨rfl, rfl⟩
theorem okC_not {l : List (List Nat)} {n : Nat} (hl : l.length = n) (h : n < 4 ∨ 16 < n) : chk l = false := by
  unfold chk okC
  rw [hl]
  rcases h with h | h
  · rw [decide_eq_false (by omega)]; rfl
  · rw [decide_eq_false (p := n ≤ 16) (by omega)]; simp
theorem fixOk_not {l : List (List Nat)} {zs : List Int} {n : Nat} (hl : l.length = n) (h : n < 4 ∨ 16 < n) : fixOk l zs = false := by
  unfold fixOk
  rw [hl]
  rcases h with h | h
  · rw [decide_eq_false (p := 4 ≤ n) (by omega)]; simp
  · rw [decide_eq_false (p := n ≤ 16) (by omega)]; simp
theorem evK_not {l : List (List Nat)} {zs : List Int} {i j : Nat} (hi : i < l.length) (hj : j < l.length) (hki : keep zs i = true) (hkj : keep zs j = true) (h : (l.getD i []).length ≠ (l.getD j []).length) : fixOk l zs = false := by
  have : evK l zs = false := by
    cases he : evK l zs with
    | false => rfl
    | true =>
      have h2 := of_decide_eq_true (p := ∀ i, i < l.length → ∀ j, j < l.length → keep zs i = true → keep zs j = true → (l.getD i []).length = (l.getD j []).length) he
      exact absurd (h2 i hi j hj hki hkj) h
  unfold fixOk
  rw [this, Bool.and_false]

set_option maxRecDepth 100000 in
set_option maxHeartbeats 32000000 in
theorem rbou_walk (n0 s0 k0 : Int) (w : World) : Calls Try.prog 4 #[.int .i64 n0, .int .i64 s0, .int .i64 k0] w fun e w' => e = .returned (.bool true) ∧ Below w.heap.size w w' := by
  obtain ⟨iB, hiB, hzB0, hzB1, hzB2⟩ := info_parts infoE
  have HIB := hide hiB
  clear hiB
  go_enter Try.func4, Try.ntmps4
  go_wp2_with fail
  refine (known_any w).mono ?_
  rintro e w1 ⟨rfl, hk⟩
  have HB := hide hk
  clear hk
  go_wp2_with fail
  refine (within_any n0 20 w1 (by omega) (by omega)).mono ?_
  rintro e w2 ⟨rfl, hw2⟩
  subst hw2
  obtain ⟨n, hn⟩ : ∃ m : Nat, n0 % 20 = (m : Int) := ⟨(n0 % 20).toNat, by omega⟩
  have hn20 : n < 20 := by omega
  rw [hn]
  clear hn
  go_wp2_with fail
  refine (within_any s0 5 w2 (by omega) (by omega)).mono ?_
  rintro e w3 ⟨rfl, hw3⟩
  subst hw3
  obtain ⟨s, hs⟩ : ∃ s : Nat, s0 % 5 = (s : Int) := ⟨(s0 % 5).toNat, by omega⟩
  have hs5 : s < 5 := by omega
  rw [hs]
  clear hs
  have HA := hide (arg_three w3)
  have HB3 := hide ((unhide HB).trans ((Below.refl _ w3).alloc (Nat.le_refl _) (.cells #[.int .u8 1, .int .u8 2, .int .u8 3] 5) |>.mono (unhide HB).size))
  go_wp2_with fail
  generalize w3.alloc (.cells #[.int .u8 1, .int .u8 2, .int .u8 3] 5) = wa at HA HB3 ⊢
  refine (rows2_any _ w3.heap.size [1, 2, 3] n s (by omega) (by omega) wa (unhide HA)).mono ?_
  rintro e w4 ⟨v7, ps, l, rfl, hO, hl, hs, hk⟩
  have HBwa := HB3
  replace HB := hide ((unhide HB3).trans (hk.mono (unhide HB3).size))
  have HO := hide hO
  have HL := hide hl
  have HS : Hid (∀ i, i < n → (l.getD i []).length = s) := fun i hi => (hs i hi).1
  have HAS := hide hs
  have HBL : Hid (∀ i, Bs (l.getD i [])) := hO.bs
  have HV : Hid (∃ vo vc, v7 = .slice vo n vc) := by
    rcases hO.shape with ⟨h1, h2⟩ | ⟨q, cq, h1, _⟩
    · exact ⟨none, 0, by rw [h1, ← hl, h2]; rfl⟩
    · exact ⟨_, cq, by rw [← hl]; exact h1⟩
  obtain ⟨vo, vc, hv⟩ := unhide HV
  subst hv
  clear hO hl hs hk HA HB3 HV
  have HLEN : Hid (∀ i, (l.getD i []).length ≤ 100000) := len_of (unhide HL) (unhide HS) (by omega)
  go_wp2_with fail
  obtain ⟨G, hR, _⟩ := (unhide HO).arg
  refine (parity_any _ G _ _ l w4 hR (unhide HLEN)).mono ?_
  clear hR
  rintro e w5 ⟨v1, v2, rfl, hP, hQ, hk⟩
  replace HB := hide ((unhide HB).trans (hk.mono (unhide HB).size))
  have HK45 := hide hk
  replace HO := hide ((unhide HO).below hk)
  obtain ⟨gP, hAP, _⟩ := hP.arg (par_bs (unhide HBL)).1
  obtain ⟨gQ, hAQ, _⟩ := hQ.arg (par_bs (unhide HBL)).2
  obtain ⟨aP, cP, hvP, _⟩ := hAP.ex
  obtain ⟨aQ, cQ, hvQ, _⟩ := hAQ.ex
  subst hvP
  subst hvQ
  clear hAP hAQ hP hQ hk
  obtain ⟨lp, hlp⟩ : ∃ lp, (pP l).length = lp := ⟨_, rfl⟩
  obtain ⟨lq, hlq⟩ : ∃ lq, (pQ l).length = lq := ⟨_, rfl⟩
  rw [hlp, hlq]
  have HLPQ : Hid ((2 ≤ n ∧ n ≤ 14 → lp = s ∧ lq = s) ∧ (n < 2 ∨ 14 < n → lp = 0 ∧ lq = 0)) := by
    refine ⟨fun h => ?_, fun h => ?_⟩
    · obtain ⟨hok, hsz⟩ := okP_of (unhide HL) h.1 h.2 (unhide HS)
      rw [← hlp, ← hlq, (par_of hok).1, (par_of hok).2, smL_len, smL_len, hsz]
      exact ⟨rfl, rfl⟩
    · obtain ⟨h1, h2⟩ := par_not (unhide HL) h
      rw [← hlp, ← hlq, h1, h2]
      exact ⟨rfl, rfl⟩
  clear hlp hlq
  go_wp2_with fail
  obtain ⟨G, hR, _⟩ := (unhide HO).arg
  refine (fix_any _ G _ _ l _ 0 [] w5 hR (z_nil w5) (unhide HLEN)).mono ?_
  clear hR
  rintro e w6 ⟨hk, h⟩
  replace HB := hide ((unhide HB).trans (hk.mono (unhide HB).size))
  replace HO := hide ((unhide HO).below hk)
  have HK46 := hide ((unhide HK45).trans (hk.mono (unhide HK45).size))
  clear hk
  by_cases hfine : 4 ≤ n ∧ n ≤ 16
  · obtain ⟨hn4, hn16⟩ := hfine
    have HOKF : Hid (fixOk l [] = true) := fixOk_of (n := s) (pk_nil _) (by rw [unhide HL]; exact hn4) (by rw [unhide HL]; exact hn16) (fun i hi _ => unhide HS i (by rw [← unhide HL]; exact hi))
    rcases h with ⟨_, vx, Gx, Ax, Cx, x, nx, rfl, hRX, hFX⟩ | ⟨hno, _⟩
    rotate_left 1
    · rw [unhide HOKF] at hno
      cases hno
    have hxl : x = l := by
      have hI := fix_none (l := l) (s := s) (fun i hi => unhide HS i (by rw [← unhide HL]; exact hi)) (unhide HBL)
      have h2 : nx = s := hFX.size_eq hI (by simp) (by rw [unhide HL]; exact hn4)
      rw [h2] at hFX
      exact fix_once (by rw [unhide HL]; exact hn4) (by rw [unhide HL]; exact hn16) (pk_nil _) hFX hI
    obtain ⟨ax, cx, hvx, _⟩ := hRX.ex
    subst hvx
    have HRX := hide hRX
    have HXL := hide hxl
    clear hRX hFX hxl
    have i4 : (4 : Int) ≤ (n : Int) := by omega
    have i16 : (n : Int) ≤ 16 := by omega
    have i2 : (2 : Int) ≤ (n : Int) := by omega
    have HT : Hid ((n ≤ 14 ∧ lp = s ∧ lq = s) ∨ (14 < n ∧ lp = 0)) := by
      by_cases h14 : n ≤ 14
      · exact .inl ⟨h14, (unhide HLPQ).1 ⟨by omega, h14⟩⟩
      · exact .inr ⟨by omega, ((unhide HLPQ).2 (.inr (by omega))).1⟩
    rcases unhide HT with ⟨h14, h1, h2⟩ | ⟨h14, h1⟩
    · have i14 : (n : Int) ≤ 14 := by omega
      have q1 : ((lp : Int) != (s : Int)) = false := by rw [h1]; simp
      have q2 : ((lq : Int) != (s : Int)) = false := by rw [h2]; simp
      clear h1 h2
      by_cases hp0 : 0 < lp
      · have ip : (0 : Int) < (lp : Int) := by omega
        go_wp2_with fail
        obtain ⟨G, hR, _⟩ := (unhide HO).arg
        refine (same_any _ _ Gx G Ax _ Cx _ x l w6 (unhide HRX) hR).mono ?_
        clear hR
        rintro e w7 ⟨rfl, hk⟩
        have hdd : decide (x = l) = true := decide_eq_true (unhide HXL)
        rw [hdd]
        replace HB := hide ((unhide HB).trans (hk.mono (unhide HB).size))
        replace HO := hide ((unhide HO).below hk)
        have HK47 := hide ((unhide HK46).trans (hk.mono (unhide HK46).size))
        clear hdd hk
        go_wp2_with fail
        refine (within_any k0 (n : Int) w7 (by omega) (by omega)).mono ?_
        rintro e w8 ⟨rfl, hw8⟩
        subst hw8
        obtain ⟨k, hkk⟩ : ∃ k : Nat, k0 % (n : Int) = (k : Int) := ⟨(k0 % (n : Int)).toNat, by have := Int.emod_nonneg k0 (show (n : Int) ≠ 0 by omega); omega⟩
        have hkn : k < n := by have := Int.emod_lt_of_pos k0 (show (0 : Int) < (n : Int) by omega); omega
        rw [hkk]
        clear hkk
        have hkn' : (k : Int) < (n : Int) := by omega
        obtain ⟨g7, c7, hsh, hg7, hg7l, hc7, hc7m, hcl⟩ := (unhide HO).some (unhide HL) (by omega)
        cases hsh
        have HAK := hide (((unhide HAS) k hkn).2.below (unhide HK47))
        have hck := hcl k hkn
        rw [unhide HS k hkn] at hck HAK
        have hkE : Below w8.heap.size w8 (w8.alloc (.cells #[] 5)) := (Below.refl _ _).alloc (Nat.le_refl _) _
        have HE := hide (own_none w8 5)
        have hckE := (hkE.cell (p := ⟨g7, k, none⟩) (block_lt_of_cell hck)).trans hck
        have HAKE := hide ((unhide HAK).below hkE)
        obtain ⟨⟨aK, cK, hvK, hsK, _, hnK, hrK⟩, _⟩ := unhide HAKE
        rw [unhide HS k hkn] at hvK hsK
        have hpa : psA ps k = aK := by injection hvK
        have hpc : psC ps k = cK := by injection hvK
        rw [hpa, hpc] at hck hckE
        have HNK := hide hnK
        have HRK := hide hrK
        have HKE := hide hkE
        clear hcl hkE hvK hnK hrK
        obtain ⟨rk, hrk⟩ : ∃ rk, l.getD k [] = rk := ⟨_, rfl⟩
        have HSK : Hid (rk.length = s) := by show _ = _; rw [← hrk]; exact unhide HS k hkn
        have HBK : Hid (Bs rk) := by show Bs _; rw [← hrk]; exact unhide HBL k
        rw [hrk] at HRK
        clear hrk
        go_wp2_with (at_builtin; refine wpList_append_row _ rfl _ _ 22 rfl w8.heap.size 5 iB Try.underlying22 (unhide HIB) hzB0 hzB1 hzB2 (.slice (some ⟨w8.heap.size, 0, none⟩) 0 0) 0 [] rfl (unhide HE) aK wa.heap.size s cK (ints (rk)) rfl (by rw [ints_len]; exact unhide HSK) (unhide HRK) (fun h => by have h0 := unhide HNK h; omega) (by omega) (by simp) ?_)
        intro v8 wb ho hg hnn
        have HB9 := hide (below_grown (unhide HKE) hg (by simp) (fun k hk => by have e2 : w8.heap.size = k := Option.some.inj hk; omega))
        obtain ⟨g8, c8, hv8, hg8, hg8l⟩ := owns_shape ho hnn
        subst hv8
        have HO8 := hide ho
        clear ho hg hnn
        have hk9 : Below wb.heap.size wb (wb.alloc (.cells #[.int .u8 7] 5)) := (Below.refl _ _).alloc (Nat.le_refl _) _
        have HO9 : Hid ((wb.alloc (.cells #[.int .u8 7] 5)).ownsRow w8.heap.size 5 1 (.slice (some ⟨g8, 0, none⟩) s c8) s ((ints (rk)).map (Value.int .u8))) := (Kp.refl [] wb |>.ofBelow hk9).owns (unhide HO8) (by simp)
        have H7 : Hid (Row (wb.alloc (.cells #[.int .u8 7] 5)) (some ⟨wb.heap.size, 0, none⟩) wb.heap.size [7]) := .inr ⟨0, rfl, fun j hj => by
          have : j = 0 := by simpa using hj
          subst this
          exact (cell_new' wb _ _).1⟩
        have HK9 := hide ((unhide HB9).trans (hk9.mono (unhide HB9).size))
        have hzb := (unhide HB9).size
        clear hk9
        go_wp2_with (at_builtin; refine wpList_append_row _ rfl _ _ 22 rfl w8.heap.size 5 iB Try.underlying22 (unhide HIB) hzB0 hzB1 hzB2 (.slice (some ⟨g8, 0, none⟩) s c8) s ((ints (rk)).map (Value.int .u8)) rfl (unhide HO9) (some ⟨wb.heap.size, 0, none⟩) wb.heap.size 1 1 [7] rfl rfl (unhide H7) (fun h => by cases h) (by omega) (by simp; omega) ?_)
        intro v9 wc ho hg hnn
        have hkc := below_grown (unhide HK9) hg (by simp; omega) (fun k hk => by have e2 : g8 = k := Option.some.inj hk; omega)
        obtain ⟨g9, c9, hv9, hg9, hg9l⟩ := owns_shape ho hnn
        subst hv9
        have hF9 : Fr w8.heap.size wc (.slice (some ⟨g9, 0, none⟩) (s + 1) c9) (rk ++ [7]) := by
          have e : (ints (rk)).map (Value.int .u8) ++ [Value.int .u8 7] = (ints (rk ++ [7])).map (Value.int .u8) := by simp [ints]
          rw [e] at ho
          exact (owns_fr ho).2
        have hr9 : (rk ++ [7]).length = s + 1 := by rw [List.length_append, unhide HSK]; rfl
        obtain ⟨gA9, hA9, hgA9⟩ := hF9.arg (fun i => by rw [cf_append]; split; exact unhide HBK i; exact (Bs.cons (by omega) Bs.nil) _)
        have HTN : Hid (Tn wc g7 n ps l) := (tn_of (unhide HO) (unhide HL) (fun j hj => ⟨wa.heap.size, ((unhide HAS) j hj).2.below (unhide HK47), fun _ => by omega⟩)).below hkc
        obtain ⟨hcT, hfT⟩ := (unhide HTN).cell hkn
        have HT2 := hide ((unhide HTN).set hkn (a := some ⟨g9, 0, none⟩) (c := c9) (r := rk ++ [7]) (by rw [hr9]; exact hA9) (fun _ => by omega))
        rw [hr9] at HT2
        obtain ⟨t, ht⟩ : ∃ t, l.set k (rk ++ [7]) = t := ⟨_, rfl⟩
        rw [ht] at HT2
        have HTG : Hid (∀ j, t.getD j [] = if k = j then rk ++ [7] else l.getD j []) := fun j => by rw [← ht, getD_set (by rw [unhide HL]; exact hkn)]
        have HR9 := hide hr9
        have HBC := hide ((unhide HB).trans (hkc.mono (unhide HB).size))
        have HBS : Hid (Below w.heap.size w (wc.setCell ⟨g7, k, none⟩ (.slice (some ⟨g9, 0, none⟩) (s + 1) c9))) := (unhide HBC).setCell (p := ⟨g7, k, none⟩) (by have h1 := hg7; have h2 := (unhide HBwa).size; show w.heap.size ≤ g7; omega) _
        have HTLEN : Hid (∀ j, (t.getD j []).length ≤ 100000) := fun j => by
          rw [unhide HTG j]
          split
          · rw [hr9]; omega
          · exact unhide HLEN j
        have HTL : Hid (t.length = n) := by show _ = _; rw [← ht, List.length_set]; exact unhide HL
        clear ho hg hnn hkc hF9 hA9 hgA9 hr9 ht
        go_wp2_with fail
        generalize wc.setCell ⟨g7, k, none⟩ (.slice (some ⟨g9, 0, none⟩) (s + 1) c9) = wd at HT2 HBS ⊢
        obtain ⟨j, hjn, hjk⟩ : ∃ j, j < n ∧ k ≠ j := by
          by_cases e : k = 0
          · exact ⟨1, by omega, by omega⟩
          · exact ⟨0, by omega, e⟩
        have HUN : Hid ((t.getD k []).length ≠ (t.getD j []).length) := by
          show _ ≠ _
          rw [unhide HTG k, unhide HTG j, if_pos rfl, if_neg hjk, unhide HR9, unhide HS j hjn]
          omega
        have hF1 : fixOk t [] = false := evK_not (by rw [unhide HTL]; exact hkn) (by rw [unhide HTL]; exact hjn) (keep_nil _) (keep_nil _) (unhide HUN)
        refine (fix_any _ g7 _ _ t _ 0 [] wd ((unhide HT2).arg hc7 hc7m) (z_nil wd) (unhide HTLEN)).mono ?_
        rintro e we ⟨hk, h⟩
        rcases h with ⟨hno, _⟩ | ⟨_, rfl⟩
        · rw [hF1] at hno; cases hno
        replace HT2 := hide ((unhide HT2).below hk)
        replace HBS := hide ((unhide HBS).trans (hk.mono (unhide HBS).size))
        have HZ1 := hide (z_one we k (by omega))
        have hkf : Below we.heap.size we (we.alloc (.cells #[.int .i64 (k : Int)] 3)) := (Below.refl _ _).alloc (Nat.le_refl _) _
        replace HT2 := hide ((unhide HT2).below hkf)
        replace HBS := hide ((unhide HBS).trans (hkf.mono (unhide HBS).size))
        clear hF1 hk hkf
        go_wp2_with fail
        generalize we.alloc (.cells #[.int .i64 (k : Int)] 3) = wf at HZ1 HT2 HBS ⊢
        have hF2 : fixOk t [(k : Int)] = true := fixOk_of (n := s) (pk_of ⟨by simp, by simp; rw [unhide HTL]; omega, by simp⟩) (by rw [unhide HTL]; exact hn4) (by rw [unhide HTL]; exact hn16) (fun i hi hki => by
          rw [unhide HTL] at hi
          have hne : k ≠ i := fun e => by rw [← e] at hki; simp [keep] at hki
          rw [unhide HTG i, if_neg hne, unhide HS i hi])
        refine (fix_any _ g7 _ _ t _ we.heap.size [(k : Int)] wf ((unhide HT2).arg hc7 hc7m) (unhide HZ1) (unhide HTLEN)).mono ?_
        rintro e wg ⟨hk, h⟩
        rcases h with ⟨_, vy, Gy, Ay, Cy, y, ny, rfl, hRY, _⟩ | ⟨hno, _⟩
        rotate_left 1
        · rw [hF2] at hno; cases hno
        obtain ⟨ay, cy, hvy, _⟩ := hRY.ex
        subst hvy
        replace HT2 := hide ((unhide HT2).below hk)
        replace HBS := hide ((unhide HBS).trans (hk.mono (unhide HBS).size))
        clear hF2 hk hRY
        go_wp2_with fail
        have hCK : chk t = false := by
          unfold chk okC
          rw [not_evn (i := k) (j := j) (by rw [unhide HTL]; exact hkn) (by rw [unhide HTL]; exact hjn) (unhide HUN)]
          simp
        refine (check_any _ g7 _ _ t wg ((unhide HT2).arg hc7 hc7m) (unhide HTLEN)).mono ?_
        rintro e wh ⟨rfl, hk⟩
        rw [hCK]
        replace HBS := hide ((unhide HBS).trans (hk.mono (unhide HBS).size))
        clear hk hCK
        go_wp2_with fail
        go_ret
        exact ⟨rfl, unhide HBS⟩
      · have ip : (lp : Int) ≤ 0 := by omega
        go_wp2_with fail
        obtain ⟨G, hR, _⟩ := (unhide HO).arg
        refine (same_any _ _ Gx G Ax _ Cx _ x l w6 (unhide HRX) hR).mono ?_
        clear hR
        rintro e w7 ⟨rfl, hk⟩
        have hdd : decide (x = l) = true := decide_eq_true (unhide HXL)
        rw [hdd]
        replace HB := hide ((unhide HB).trans (hk.mono (unhide HB).size))
        replace HO := hide ((unhide HO).below hk)
        have HK47 := hide ((unhide HK46).trans (hk.mono (unhide HK46).size))
        clear hdd hk
        go_wp2_with fail
        refine (within_any k0 (n : Int) w7 (by omega) (by omega)).mono ?_
        rintro e w8 ⟨rfl, hw8⟩
        subst hw8
        obtain ⟨k, hkk⟩ : ∃ k : Nat, k0 % (n : Int) = (k : Int) := ⟨(k0 % (n : Int)).toNat, by have := Int.emod_nonneg k0 (show (n : Int) ≠ 0 by omega); omega⟩
        have hkn : k < n := by have := Int.emod_lt_of_pos k0 (show (0 : Int) < (n : Int) by omega); omega
        rw [hkk]
        clear hkk
        have hkn' : (k : Int) < (n : Int) := by omega
        obtain ⟨g7, c7, hsh, hg7, hg7l, hc7, hc7m, hcl⟩ := (unhide HO).some (unhide HL) (by omega)
        cases hsh
        have HAK := hide (((unhide HAS) k hkn).2.below (unhide HK47))
        have hck := hcl k hkn
        rw [unhide HS k hkn] at hck HAK
        have hkE : Below w8.heap.size w8 (w8.alloc (.cells #[] 5)) := (Below.refl _ _).alloc (Nat.le_refl _) _
        have HE := hide (own_none w8 5)
        have hckE := (hkE.cell (p := ⟨g7, k, none⟩) (block_lt_of_cell hck)).trans hck
        have HAKE := hide ((unhide HAK).below hkE)
        obtain ⟨⟨aK, cK, hvK, hsK, _, hnK, hrK⟩, _⟩ := unhide HAKE
        rw [unhide HS k hkn] at hvK hsK
        have hpa : psA ps k = aK := by injection hvK
        have hpc : psC ps k = cK := by injection hvK
        rw [hpa, hpc] at hck hckE
        have HNK := hide hnK
        have HRK := hide hrK
        have HKE := hide hkE
        clear hcl hkE hvK hnK hrK
        obtain ⟨rk, hrk⟩ : ∃ rk, l.getD k [] = rk := ⟨_, rfl⟩
        have HSK : Hid (rk.length = s) := by show _ = _; rw [← hrk]; exact unhide HS k hkn
        have HBK : Hid (Bs rk) := by show Bs _; rw [← hrk]; exact unhide HBL k
        rw [hrk] at HRK
        clear hrk
        go_wp2_with (at_builtin; refine wpList_append_row _ rfl _ _ 22 rfl w8.heap.size 5 iB Try.underlying22 (unhide HIB) hzB0 hzB1 hzB2 (.slice (some ⟨w8.heap.size, 0, none⟩) 0 0) 0 [] rfl (unhide HE) aK wa.heap.size s cK (ints (rk)) rfl (by rw [ints_len]; exact unhide HSK) (unhide HRK) (fun h => by have h0 := unhide HNK h; omega) (by omega) (by simp) ?_)
        intro v8 wb ho hg hnn
        have HB9 := hide (below_grown (unhide HKE) hg (by simp) (fun k hk => by have e2 : w8.heap.size = k := Option.some.inj hk; omega))
        obtain ⟨g8, c8, hv8, hg8, hg8l⟩ := owns_shape ho hnn
        subst hv8
        have HO8 := hide ho
        clear ho hg hnn
        have hk9 : Below wb.heap.size wb (wb.alloc (.cells #[.int .u8 7] 5)) := (Below.refl _ _).alloc (Nat.le_refl _) _
        have HO9 : Hid ((wb.alloc (.cells #[.int .u8 7] 5)).ownsRow w8.heap.size 5 1 (.slice (some ⟨g8, 0, none⟩) s c8) s ((ints (rk)).map (Value.int .u8))) := (Kp.refl [] wb |>.ofBelow hk9).owns (unhide HO8) (by simp)
        have H7 : Hid (Row (wb.alloc (.cells #[.int .u8 7] 5)) (some ⟨wb.heap.size, 0, none⟩) wb.heap.size [7]) := .inr ⟨0, rfl, fun j hj => by
          have : j = 0 := by simpa using hj
          subst this
          exact (cell_new' wb _ _).1⟩
        have HK9 := hide ((unhide HB9).trans (hk9.mono (unhide HB9).size))
        have hzb := (unhide HB9).size
        clear hk9
        go_wp2_with (at_builtin; refine wpList_append_row _ rfl _ _ 22 rfl w8.heap.size 5 iB Try.underlying22 (unhide HIB) hzB0 hzB1 hzB2 (.slice (some ⟨g8, 0, none⟩) s c8) s ((ints (rk)).map (Value.int .u8)) rfl (unhide HO9) (some ⟨wb.heap.size, 0, none⟩) wb.heap.size 1 1 [7] rfl rfl (unhide H7) (fun h => by cases h) (by omega) (by simp; omega) ?_)
        intro v9 wc ho hg hnn
        have hkc := below_grown (unhide HK9) hg (by simp; omega) (fun k hk => by have e2 : g8 = k := Option.some.inj hk; omega)
        obtain ⟨g9, c9, hv9, hg9, hg9l⟩ := owns_shape ho hnn
        subst hv9
        have hF9 : Fr w8.heap.size wc (.slice (some ⟨g9, 0, none⟩) (s + 1) c9) (rk ++ [7]) := by
          have e : (ints (rk)).map (Value.int .u8) ++ [Value.int .u8 7] = (ints (rk ++ [7])).map (Value.int .u8) := by simp [ints]
          rw [e] at ho
          exact (owns_fr ho).2
        have hr9 : (rk ++ [7]).length = s + 1 := by rw [List.length_append, unhide HSK]; rfl
        obtain ⟨gA9, hA9, hgA9⟩ := hF9.arg (fun i => by rw [cf_append]; split; exact unhide HBK i; exact (Bs.cons (by omega) Bs.nil) _)
        have HTN : Hid (Tn wc g7 n ps l) := (tn_of (unhide HO) (unhide HL) (fun j hj => ⟨wa.heap.size, ((unhide HAS) j hj).2.below (unhide HK47), fun _ => by omega⟩)).below hkc
        obtain ⟨hcT, hfT⟩ := (unhide HTN).cell hkn
        have HT2 := hide ((unhide HTN).set hkn (a := some ⟨g9, 0, none⟩) (c := c9) (r := rk ++ [7]) (by rw [hr9]; exact hA9) (fun _ => by omega))
        rw [hr9] at HT2
        obtain ⟨t, ht⟩ : ∃ t, l.set k (rk ++ [7]) = t := ⟨_, rfl⟩
        rw [ht] at HT2
        have HTG : Hid (∀ j, t.getD j [] = if k = j then rk ++ [7] else l.getD j []) := fun j => by rw [← ht, getD_set (by rw [unhide HL]; exact hkn)]
        have HR9 := hide hr9
        have HBC := hide ((unhide HB).trans (hkc.mono (unhide HB).size))
        have HBS : Hid (Below w.heap.size w (wc.setCell ⟨g7, k, none⟩ (.slice (some ⟨g9, 0, none⟩) (s + 1) c9))) := (unhide HBC).setCell (p := ⟨g7, k, none⟩) (by have h1 := hg7; have h2 := (unhide HBwa).size; show w.heap.size ≤ g7; omega) _
        have HTLEN : Hid (∀ j, (t.getD j []).length ≤ 100000) := fun j => by
          rw [unhide HTG j]
          split
          · rw [hr9]; omega
          · exact unhide HLEN j
        have HTL : Hid (t.length = n) := by show _ = _; rw [← ht, List.length_set]; exact unhide HL
        clear ho hg hnn hkc hF9 hA9 hgA9 hr9 ht
        go_wp2_with fail
        generalize wc.setCell ⟨g7, k, none⟩ (.slice (some ⟨g9, 0, none⟩) (s + 1) c9) = wd at HT2 HBS ⊢
        obtain ⟨j, hjn, hjk⟩ : ∃ j, j < n ∧ k ≠ j := by
          by_cases e : k = 0
          · exact ⟨1, by omega, by omega⟩
          · exact ⟨0, by omega, e⟩
        have HUN : Hid ((t.getD k []).length ≠ (t.getD j []).length) := by
          show _ ≠ _
          rw [unhide HTG k, unhide HTG j, if_pos rfl, if_neg hjk, unhide HR9, unhide HS j hjn]
          omega
        have hF1 : fixOk t [] = false := evK_not (by rw [unhide HTL]; exact hkn) (by rw [unhide HTL]; exact hjn) (keep_nil _) (keep_nil _) (unhide HUN)
        refine (fix_any _ g7 _ _ t _ 0 [] wd ((unhide HT2).arg hc7 hc7m) (z_nil wd) (unhide HTLEN)).mono ?_
        rintro e we ⟨hk, h⟩
        rcases h with ⟨hno, _⟩ | ⟨_, rfl⟩
        · rw [hF1] at hno; cases hno
        replace HT2 := hide ((unhide HT2).below hk)
        replace HBS := hide ((unhide HBS).trans (hk.mono (unhide HBS).size))
        have HZ1 := hide (z_one we k (by omega))
        have hkf : Below we.heap.size we (we.alloc (.cells #[.int .i64 (k : Int)] 3)) := (Below.refl _ _).alloc (Nat.le_refl _) _
        replace HT2 := hide ((unhide HT2).below hkf)
        replace HBS := hide ((unhide HBS).trans (hkf.mono (unhide HBS).size))
        clear hF1 hk hkf
        go_wp2_with fail
        generalize we.alloc (.cells #[.int .i64 (k : Int)] 3) = wf at HZ1 HT2 HBS ⊢
        have hF2 : fixOk t [(k : Int)] = true := fixOk_of (n := s) (pk_of ⟨by simp, by simp; rw [unhide HTL]; omega, by simp⟩) (by rw [unhide HTL]; exact hn4) (by rw [unhide HTL]; exact hn16) (fun i hi hki => by
          rw [unhide HTL] at hi
          have hne : k ≠ i := fun e => by rw [← e] at hki; simp [keep] at hki
          rw [unhide HTG i, if_neg hne, unhide HS i hi])
        refine (fix_any _ g7 _ _ t _ we.heap.size [(k : Int)] wf ((unhide HT2).arg hc7 hc7m) (unhide HZ1) (unhide HTLEN)).mono ?_
        rintro e wg ⟨hk, h⟩
        rcases h with ⟨_, vy, Gy, Ay, Cy, y, ny, rfl, hRY, _⟩ | ⟨hno, _⟩
        rotate_left 1
        · rw [hF2] at hno; cases hno
        obtain ⟨ay, cy, hvy, _⟩ := hRY.ex
        subst hvy
        replace HT2 := hide ((unhide HT2).below hk)
        replace HBS := hide ((unhide HBS).trans (hk.mono (unhide HBS).size))
        clear hF2 hk hRY
        go_wp2_with fail
        have hCK : chk t = false := by
          unfold chk okC
          rw [not_evn (i := k) (j := j) (by rw [unhide HTL]; exact hkn) (by rw [unhide HTL]; exact hjn) (unhide HUN)]
          simp
        refine (check_any _ g7 _ _ t wg ((unhide HT2).arg hc7 hc7m) (unhide HTLEN)).mono ?_
        rintro e wh ⟨rfl, hk⟩
        rw [hCK]
        replace HBS := hide ((unhide HBS).trans (hk.mono (unhide HBS).size))
        clear hk hCK
        go_wp2_with fail
        go_ret
        exact ⟨rfl, unhide HBS⟩
    · have i14 : (14 : Int) < (n : Int) := by omega
      have ip : (lp : Int) ≤ 0 := by omega
      clear h1
      go_wp2_with fail
      obtain ⟨G, hR, _⟩ := (unhide HO).arg
      refine (same_any _ _ Gx G Ax _ Cx _ x l w6 (unhide HRX) hR).mono ?_
      clear hR
      rintro e w7 ⟨rfl, hk⟩
      have hdd : decide (x = l) = true := decide_eq_true (unhide HXL)
      rw [hdd]
      replace HB := hide ((unhide HB).trans (hk.mono (unhide HB).size))
      replace HO := hide ((unhide HO).below hk)
      have HK47 := hide ((unhide HK46).trans (hk.mono (unhide HK46).size))
      clear hdd hk
      go_wp2_with fail
      refine (within_any k0 (n : Int) w7 (by omega) (by omega)).mono ?_
      rintro e w8 ⟨rfl, hw8⟩
      subst hw8
      obtain ⟨k, hkk⟩ : ∃ k : Nat, k0 % (n : Int) = (k : Int) := ⟨(k0 % (n : Int)).toNat, by have := Int.emod_nonneg k0 (show (n : Int) ≠ 0 by omega); omega⟩
      have hkn : k < n := by have := Int.emod_lt_of_pos k0 (show (0 : Int) < (n : Int) by omega); omega
      rw [hkk]
      clear hkk
      have hkn' : (k : Int) < (n : Int) := by omega
      obtain ⟨g7, c7, hsh, hg7, hg7l, hc7, hc7m, hcl⟩ := (unhide HO).some (unhide HL) (by omega)
      cases hsh
      have HAK := hide (((unhide HAS) k hkn).2.below (unhide HK47))
      have hck := hcl k hkn
      rw [unhide HS k hkn] at hck HAK
      have hkE : Below w8.heap.size w8 (w8.alloc (.cells #[] 5)) := (Below.refl _ _).alloc (Nat.le_refl _) _
      have HE := hide (own_none w8 5)
      have hckE := (hkE.cell (p := ⟨g7, k, none⟩) (block_lt_of_cell hck)).trans hck
      have HAKE := hide ((unhide HAK).below hkE)
      obtain ⟨⟨aK, cK, hvK, hsK, _, hnK, hrK⟩, _⟩ := unhide HAKE
      rw [unhide HS k hkn] at hvK hsK
      have hpa : psA ps k = aK := by injection hvK
      have hpc : psC ps k = cK := by injection hvK
      rw [hpa, hpc] at hck hckE
      have HNK := hide hnK
      have HRK := hide hrK
      have HKE := hide hkE
      clear hcl hkE hvK hnK hrK
      obtain ⟨rk, hrk⟩ : ∃ rk, l.getD k [] = rk := ⟨_, rfl⟩
      have HSK : Hid (rk.length = s) := by show _ = _; rw [← hrk]; exact unhide HS k hkn
      have HBK : Hid (Bs rk) := by show Bs _; rw [← hrk]; exact unhide HBL k
      rw [hrk] at HRK
      clear hrk
      go_wp2_with (at_builtin; refine wpList_append_row _ rfl _ _ 22 rfl w8.heap.size 5 iB Try.underlying22 (unhide HIB) hzB0 hzB1 hzB2 (.slice (some ⟨w8.heap.size, 0, none⟩) 0 0) 0 [] rfl (unhide HE) aK wa.heap.size s cK (ints (rk)) rfl (by rw [ints_len]; exact unhide HSK) (unhide HRK) (fun h => by have h0 := unhide HNK h; omega) (by omega) (by simp) ?_)
      intro v8 wb ho hg hnn
      have HB9 := hide (below_grown (unhide HKE) hg (by simp) (fun k hk => by have e2 : w8.heap.size = k := Option.some.inj hk; omega))
      obtain ⟨g8, c8, hv8, hg8, hg8l⟩ := owns_shape ho hnn
      subst hv8
      have HO8 := hide ho
      clear ho hg hnn
      have hk9 : Below wb.heap.size wb (wb.alloc (.cells #[.int .u8 7] 5)) := (Below.refl _ _).alloc (Nat.le_refl _) _
      have HO9 : Hid ((wb.alloc (.cells #[.int .u8 7] 5)).ownsRow w8.heap.size 5 1 (.slice (some ⟨g8, 0, none⟩) s c8) s ((ints (rk)).map (Value.int .u8))) := (Kp.refl [] wb |>.ofBelow hk9).owns (unhide HO8) (by simp)
      have H7 : Hid (Row (wb.alloc (.cells #[.int .u8 7] 5)) (some ⟨wb.heap.size, 0, none⟩) wb.heap.size [7]) := .inr ⟨0, rfl, fun j hj => by
        have : j = 0 := by simpa using hj
        subst this
        exact (cell_new' wb _ _).1⟩
      have HK9 := hide ((unhide HB9).trans (hk9.mono (unhide HB9).size))
      have hzb := (unhide HB9).size
      clear hk9
      go_wp2_with (at_builtin; refine wpList_append_row _ rfl _ _ 22 rfl w8.heap.size 5 iB Try.underlying22 (unhide HIB) hzB0 hzB1 hzB2 (.slice (some ⟨g8, 0, none⟩) s c8) s ((ints (rk)).map (Value.int .u8)) rfl (unhide HO9) (some ⟨wb.heap.size, 0, none⟩) wb.heap.size 1 1 [7] rfl rfl (unhide H7) (fun h => by cases h) (by omega) (by simp; omega) ?_)
      intro v9 wc ho hg hnn
      have hkc := below_grown (unhide HK9) hg (by simp; omega) (fun k hk => by have e2 : g8 = k := Option.some.inj hk; omega)
      obtain ⟨g9, c9, hv9, hg9, hg9l⟩ := owns_shape ho hnn
      subst hv9
      have hF9 : Fr w8.heap.size wc (.slice (some ⟨g9, 0, none⟩) (s + 1) c9) (rk ++ [7]) := by
        have e : (ints (rk)).map (Value.int .u8) ++ [Value.int .u8 7] = (ints (rk ++ [7])).map (Value.int .u8) := by simp [ints]
        rw [e] at ho
        exact (owns_fr ho).2
      have hr9 : (rk ++ [7]).length = s + 1 := by rw [List.length_append, unhide HSK]; rfl
      obtain ⟨gA9, hA9, hgA9⟩ := hF9.arg (fun i => by rw [cf_append]; split; exact unhide HBK i; exact (Bs.cons (by omega) Bs.nil) _)
      have HTN : Hid (Tn wc g7 n ps l) := (tn_of (unhide HO) (unhide HL) (fun j hj => ⟨wa.heap.size, ((unhide HAS) j hj).2.below (unhide HK47), fun _ => by omega⟩)).below hkc
      obtain ⟨hcT, hfT⟩ := (unhide HTN).cell hkn
      have HT2 := hide ((unhide HTN).set hkn (a := some ⟨g9, 0, none⟩) (c := c9) (r := rk ++ [7]) (by rw [hr9]; exact hA9) (fun _ => by omega))
      rw [hr9] at HT2
      obtain ⟨t, ht⟩ : ∃ t, l.set k (rk ++ [7]) = t := ⟨_, rfl⟩
      rw [ht] at HT2
      have HTG : Hid (∀ j, t.getD j [] = if k = j then rk ++ [7] else l.getD j []) := fun j => by rw [← ht, getD_set (by rw [unhide HL]; exact hkn)]
      have HR9 := hide hr9
      have HBC := hide ((unhide HB).trans (hkc.mono (unhide HB).size))
      have HBS : Hid (Below w.heap.size w (wc.setCell ⟨g7, k, none⟩ (.slice (some ⟨g9, 0, none⟩) (s + 1) c9))) := (unhide HBC).setCell (p := ⟨g7, k, none⟩) (by have h1 := hg7; have h2 := (unhide HBwa).size; show w.heap.size ≤ g7; omega) _
      have HTLEN : Hid (∀ j, (t.getD j []).length ≤ 100000) := fun j => by
        rw [unhide HTG j]
        split
        · rw [hr9]; omega
        · exact unhide HLEN j
      have HTL : Hid (t.length = n) := by show _ = _; rw [← ht, List.length_set]; exact unhide HL
      clear ho hg hnn hkc hF9 hA9 hgA9 hr9 ht
      go_wp2_with fail
      generalize wc.setCell ⟨g7, k, none⟩ (.slice (some ⟨g9, 0, none⟩) (s + 1) c9) = wd at HT2 HBS ⊢
      obtain ⟨j, hjn, hjk⟩ : ∃ j, j < n ∧ k ≠ j := by
        by_cases e : k = 0
        · exact ⟨1, by omega, by omega⟩
        · exact ⟨0, by omega, e⟩
      have HUN : Hid ((t.getD k []).length ≠ (t.getD j []).length) := by
        show _ ≠ _
        rw [unhide HTG k, unhide HTG j, if_pos rfl, if_neg hjk, unhide HR9, unhide HS j hjn]
        omega
      have hF1 : fixOk t [] = false := evK_not (by rw [unhide HTL]; exact hkn) (by rw [unhide HTL]; exact hjn) (keep_nil _) (keep_nil _) (unhide HUN)
      refine (fix_any _ g7 _ _ t _ 0 [] wd ((unhide HT2).arg hc7 hc7m) (z_nil wd) (unhide HTLEN)).mono ?_
      rintro e we ⟨hk, h⟩
      rcases h with ⟨hno, _⟩ | ⟨_, rfl⟩
      · rw [hF1] at hno; cases hno
      replace HT2 := hide ((unhide HT2).below hk)
      replace HBS := hide ((unhide HBS).trans (hk.mono (unhide HBS).size))
      have HZ1 := hide (z_one we k (by omega))
      have hkf : Below we.heap.size we (we.alloc (.cells #[.int .i64 (k : Int)] 3)) := (Below.refl _ _).alloc (Nat.le_refl _) _
      replace HT2 := hide ((unhide HT2).below hkf)
      replace HBS := hide ((unhide HBS).trans (hkf.mono (unhide HBS).size))
      clear hF1 hk hkf
      go_wp2_with fail
      generalize we.alloc (.cells #[.int .i64 (k : Int)] 3) = wf at HZ1 HT2 HBS ⊢
      have hF2 : fixOk t [(k : Int)] = true := fixOk_of (n := s) (pk_of ⟨by simp, by simp; rw [unhide HTL]; omega, by simp⟩) (by rw [unhide HTL]; exact hn4) (by rw [unhide HTL]; exact hn16) (fun i hi hki => by
        rw [unhide HTL] at hi
        have hne : k ≠ i := fun e => by rw [← e] at hki; simp [keep] at hki
        rw [unhide HTG i, if_neg hne, unhide HS i hi])
      refine (fix_any _ g7 _ _ t _ we.heap.size [(k : Int)] wf ((unhide HT2).arg hc7 hc7m) (unhide HZ1) (unhide HTLEN)).mono ?_
      rintro e wg ⟨hk, h⟩
      rcases h with ⟨_, vy, Gy, Ay, Cy, y, ny, rfl, hRY, _⟩ | ⟨hno, _⟩
      rotate_left 1
      · rw [hF2] at hno; cases hno
      obtain ⟨ay, cy, hvy, _⟩ := hRY.ex
      subst hvy
      replace HT2 := hide ((unhide HT2).below hk)
      replace HBS := hide ((unhide HBS).trans (hk.mono (unhide HBS).size))
      clear hF2 hk hRY
      go_wp2_with fail
      have hCK : chk t = false := by
        unfold chk okC
        rw [not_evn (i := k) (j := j) (by rw [unhide HTL]; exact hkn) (by rw [unhide HTL]; exact hjn) (unhide HUN)]
        simp
      refine (check_any _ g7 _ _ t wg ((unhide HT2).arg hc7 hc7m) (unhide HTLEN)).mono ?_
      rintro e wh ⟨rfl, hk⟩
      rw [hCK]
      replace HBS := hide ((unhide HBS).trans (hk.mono (unhide HBS).size))
      clear hk hCK
      go_wp2_with fail
      go_ret
      exact ⟨rfl, unhide HBS⟩
  · have hnf : n < 4 ∨ 16 < n := by omega
    rcases h with ⟨hno, _⟩ | ⟨_, rfl⟩
    · rw [fixOk_not (unhide HL) hnf] at hno
      cases hno
    have HCK : Hid (chk l = false) := okC_not (unhide HL) hnf
    clear hfine
    by_cases hA : n < 2
    · have a1 : (n : Int) < 2 := by omega
      have a2 : (n : Int) < 4 := by omega
      have ip : (lp : Int) ≤ 0 := by have := ((unhide HLPQ).2 (.inl hA)).1; omega
      go_wp2_with fail
      obtain ⟨G, hR, _⟩ := (unhide HO).arg
      refine (check_any _ G _ _ l w6 hR (unhide HLEN)).mono ?_
      clear hR
      rintro e w7 ⟨rfl, hk⟩
      rw [unhide HCK]
      replace HB := hide ((unhide HB).trans (hk.mono (unhide HB).size))
      clear hk
      go_wp2_with fail
      go_ret
      exact ⟨rfl, unhide HB⟩
    · by_cases hB : n < 4
      · have a1 : (2 : Int) ≤ (n : Int) := by omega
        have a2 : (n : Int) < 4 := by omega
        have a3 : (n : Int) ≤ 14 := by omega
        obtain ⟨h1, h2⟩ := (unhide HLPQ).1 ⟨by omega, by omega⟩
        have q1 : ((lp : Int) != (s : Int)) = false := by rw [h1]; simp
        have q2 : ((lq : Int) != (s : Int)) = false := by rw [h2]; simp
        clear h1 h2
        by_cases hp0 : 0 < lp
        · have ip : (0 : Int) < (lp : Int) := by omega
          go_wp2_with fail
          obtain ⟨G, hR, _⟩ := (unhide HO).arg
          refine (check_any _ G _ _ l w6 hR (unhide HLEN)).mono ?_
          clear hR
          rintro e w7 ⟨rfl, hk⟩
          rw [unhide HCK]
          replace HB := hide ((unhide HB).trans (hk.mono (unhide HB).size))
          clear hk
          go_wp2_with fail
          go_ret
          exact ⟨rfl, unhide HB⟩
        · have ip : (lp : Int) ≤ 0 := by omega
          go_wp2_with fail
          obtain ⟨G, hR, _⟩ := (unhide HO).arg
          refine (check_any _ G _ _ l w6 hR (unhide HLEN)).mono ?_
          clear hR
          rintro e w7 ⟨rfl, hk⟩
          rw [unhide HCK]
          replace HB := hide ((unhide HB).trans (hk.mono (unhide HB).size))
          clear hk
          go_wp2_with fail
          go_ret
          exact ⟨rfl, unhide HB⟩
      · have a1 : (4 : Int) ≤ (n : Int) := by omega
        have a2 : (16 : Int) < (n : Int) := by omega
        have a3 : (14 : Int) < (n : Int) := by omega
        have ip : (lp : Int) ≤ 0 := by have := ((unhide HLPQ).2 (.inr (by omega))).1; omega
        go_wp2_with fail
        obtain ⟨G, hR, _⟩ := (unhide HO).arg
        refine (check_any _ G _ _ l w6 hR (unhide HLEN)).mono ?_
        clear hR
        rintro e w7 ⟨rfl, hk⟩
        rw [unhide HCK]
        replace HB := hide ((unhide HB).trans (hk.mono (unhide HB).size))
        clear hk
        go_wp2_with fail
        go_ret
        exact ⟨rfl, unhide HB⟩

end Go.Proofs.Ytdlbkgehgbacmab
