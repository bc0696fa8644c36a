/-
  bits.Mix.
-/
import Derived.Test.YtnondiaefpdlpaaB6g
import Derived.Test.YtnondiaefpdlpaaB6k
namespace Go.Proofs.Ytnondiaefpdlpaa
open Go.RowKit Go.Shelf
attribute [local go_sem] Oper.semAt_some

theorem Row.below' {w w' : World} {ao : Option Addr} {g : Nat} {s : List Nat} (hr : Row w ao g (ints s)) (h : Below w.heap.size w w') : Row w' ao g (ints s) := Row.below h hr

/-- Some bytes mixed. -/
def mixP (a b mask l : List Nat) : List Nat := l.foldl (fun t i => t.set i (mx (mAt mask i) (cf a i) (cf b i))) a
theorem mixP_snoc (a b mask l : List Nat) (i : Nat) : mixP a b mask (l ++ [i]) = (mixP a b mask l).set i (mx (mAt mask i) (cf a i) (cf b i)) := by rw [mixP, List.foldl_append]; rfl
theorem mixP_len (a b mask l : List Nat) : (mixP a b mask l).length = a.length := by
  have : ∀ (l t : List Nat), (l.foldl (fun t i => t.set i (mx (mAt mask i) (cf a i) (cf b i))) t).length = t.length := by
    intro l
    induction l with
    | nil => intro t; rfl
    | cons x l ih => intro t; rw [List.foldl_cons, ih, List.length_set]
  exact this l a
theorem cf_mixP (a b mask : List Nat) (n j : Nat) (hn : n ≤ a.length) : cf (mixP a b mask (List.range n)) j = if j < n then mx (mAt mask j) (cf a j) (cf b j) else cf a j := by
  induction n with
  | zero => rfl
  | succ n ih =>
    rw [List.range_succ, mixP_snoc, cf_set _ _ _ _ (by rw [mixP_len]; omega), ih (by omega)]
    by_cases e : j = n
    · rw [if_pos e, if_pos (by omega), e]
    · rw [if_neg e]
      by_cases e2 : j < n
      · rw [if_pos e2, if_pos (by omega)]
      · rw [if_neg e2, if_neg (by omega)]
theorem mixP_all {a b mask : List Nat} (hm : mask ≠ []) : mixP a b mask (List.range a.length) = mixF a b mask := by
  refine eq_of_cf (by rw [mixP_len, mixF_len]) (fun j => ?_)
  rw [cf_mixP _ _ _ _ _ (Nat.le_refl _)]
  by_cases e : j < a.length
  · rw [if_pos e, cf_mixF e hm]
  · rw [if_neg e, cf_ge (by omega), cf_ge (by rw [mixF_len]; omega)]
theorem mixP_none (a b mask : List Nat) : mixP a b mask [] = a := rfl

set_option maxRecDepth 100000 in
set_option maxHeartbeats 8000000 in
theorem mix_any (u v m : Value) (ga gb gm : Nat) (a b mask : List Nat) (w : World) (hA : Arg w u ga a) (hB : Arg w v gb b) (hM : Arg w m gm mask) (hla : a.length = b.length → a.length ≤ 1000) :
    Calls Try.prog 51 #[u, v, m] w fun e w' => ∃ r, e = .returned r ∧ Fr w.heap.size w' r (mixL a b mask) ∧ Below w.heap.size w w' := by
  have HA := hide hA
  obtain ⟨⟨ao, ca, rfl, hc1, hc2, hnila, hra⟩, hba⟩ := hA
  obtain ⟨⟨bo, cb, rfl, hd1, hd2, hnilb, hrb⟩, hbb⟩ := hB
  obtain ⟨⟨mo, cm, rfl, he1, he2, hnilm, hrm⟩, hbm⟩ := hM
  have HRA := hide hra
  have HRB := hide hrb
  have HRM := hide hrm
  clear hra hrb hrm hnila hnilb hnilm
  refine (callsIn_wide (n := 3)).1 ?_
  refine callsIn_of_wp_marks Try.func51 rfl trivial ?_ rfl
  simp only [Try.ntmps51, List.size_toArray, List.length_cons, List.length_nil, Nat.reduceAdd, Nat.reduceSub, Array.replicate_succ, Array.replicate_zero, List.push_toArray, List.append_toArray, List.nil_append, List.cons_append]
  by_cases hl : a.length = b.length
  · have hap : mixL a b mask = mixF a b mask := if_pos hl
    rw [hap]
    clear hap
    obtain ⟨N, hN⟩ : ∃ N, a.length = N := ⟨_, rfl⟩
    have hN2 : b.length = N := by rw [← hl]; exact hN
    obtain ⟨K, hK⟩ : ∃ K, mask.length = K := ⟨_, rfl⟩
    rw [hN] at hc1 hla HA ⊢
    rw [hN2] at hd1 ⊢
    rw [hK] at he1 ⊢
    have hN3 := hla hN2.symm
    have HL1 := hide hN
    have HL2 := hide hN2
    have HLK := hide hK
    clear hl hN hN2 hla hK
    gi_wp2
    obtain ⟨b1, b2, hbb2, hzb⟩ := two_boxes w (.slice ao N ca) (.slice bo N cb) 38 38 _ rfl
    obtain ⟨w1, hw1⟩ : ∃ w1, (w.alloc (.cells #[.slice ao N ca] 38)).alloc (.cells #[.slice bo N cb] 38) = w1 := ⟨_, rfl⟩
    rw [hw1] at b1 b2 hbb2 hzb ⊢
    clear hw1
    have HB1 := hide b1
    have HB2 := hide b2
    have HK1 := hide hbb2
    have hz1a := Nat.le_of_eq hzb
    have hz1b := Nat.le_of_eq hzb.symm
    clear b1 b2 hbb2 hzb
    refine ⟨trivial, (callsIn_wide.2 (cloneB_any _ ga a w1 ((unhide HA).below (unhide HK1)) (by rw [unhide HL1]; omega))).mono ?_⟩
    rintro e w2 ⟨v1, rfl, hF, hk2⟩
    obtain ⟨to, tc, hv1⟩ := Fr.shape hF
    subst hv1
    have HF := hide hF
    rw [unhide HL1] at HF ⊢
    obtain ⟨q, hq⟩ : ∃ q, N ≠ 0 → (to = some ⟨q, 0, none⟩ ∧ w1.heap.size ≤ q ∧ q < w2.heap.size ∧ N ≤ tc ∧ tc ≤ maxLen ∧ Blk w2 q a) := by
      by_cases h0 : N = 0
      · exact ⟨0, fun h => absurd h0 h⟩
      · obtain ⟨q, cq, he, h1, h2, hB, h3⟩ := hF.blk (by intro h; have := unhide HL1; rw [h] at this; simp at this; omega)
        injection he with e1 e2 e3
        exact ⟨q, fun _ => ⟨e1, h3, hB.lt, by rw [e3, ← unhide HL1]; exact h1, by rw [e3]; exact h2, hB⟩⟩
    have HQ := hide hq
    have hz2 := hk2.size
    have HK2 := hide ((unhide HK1).trans (hk2.mono (by omega)))
    have HB12 := hide ((hk2.cell (p := ⟨w.heap.size, 0, none⟩) (by show w.heap.size < _; omega)).trans (unhide HB1))
    have HB22 := hide ((hk2.cell (p := ⟨w.heap.size + 1, 0, none⟩) (by show w.heap.size + 1 < _; omega)).trans (unhide HB2))
    clear hF hq hk2 HB1 HB2 HK1 HA
    have hal := (Below.refl _ w2).alloc (Nat.le_refl _) (.cells #[.slice to N tc] 38)
    have HAL := hide hal
    have hB13 : (w2.alloc (.cells #[.slice to N tc] 38)).cell? ⟨w.heap.size, 0, none⟩ = some (.slice ao N ca) := (hal.cell (block_lt_of_cell (unhide HB12))).trans (unhide HB12)
    have HB13 := hide hB13
    have HB23 : Hid ((w2.alloc (.cells #[.slice to N tc] 38)).cell? ⟨w.heap.size + 1, 0, none⟩ = some (.slice bo N cb)) := (hal.cell (block_lt_of_cell (unhide HB22))).trans (unhide HB22)
    have HC3 := hide (cell_new' w2 (.slice to N tc) 38).1
    have HZ3 : Hid ((w2.alloc (.cells #[.slice to N tc] 38)).heap.size = w2.heap.size + 1) := World.size_alloc _ _
    clear hal
    gi_wp2
    clear hB13
    obtain ⟨w3, hw3⟩ : ∃ w3, w2.alloc (.cells #[.slice to N tc] 38) = w3 := ⟨_, rfl⟩
    rw [hw3] at HAL HB13 HB23 HC3 HZ3 ⊢
    clear hw3 HB12 HB22
    refine ⟨trivial, (callsIn_wide.2 (again_any _ N w3 ⟨_, _, _, rfl⟩)).mono ?_⟩
    rintro e w4 ⟨rfl, ha1, ha2, hz4, hk4⟩
    have hz3a := Nat.le_of_eq (unhide HZ3)
    have hz3b := Nat.le_of_eq (unhide HZ3).symm
    have hz4a := Nat.le_of_eq hz4
    have hz4b := Nat.le_of_eq hz4.symm
    have HKa := hide ((unhide HAL).trans (hk4.mono (by omega)))
    have HK4 := hide ((unhide HK2).trans ((unhide HKa).mono (by omega)))
    have h14 := (hk4.cell (block_lt_of_cell (unhide HB13))).trans (unhide HB13)
    have h24 := (hk4.cell (block_lt_of_cell (unhide HB23))).trans (unhide HB23)
    have h34 := (hk4.cell (block_lt_of_cell (unhide HC3))).trans (unhide HC3)
    have H14 := hide h14
    have H24 := hide h24
    have H34 := hide h34
    obtain ⟨Nn, hNn, hseq, hfin⟩ : ∃ Nn, Nn ≤ N ∧ Seq6 74 #[.pointer (some ⟨w3.heap.size, 0, none⟩), .pointer (some ⟨w3.heap.size + 1, 0, none⟩)] Nn (mAt mask) (fun k => k < w4.heap.size ∧ (N ≠ 0 → k ≠ q)) 0 w4 ∧ mixP a b mask (List.range Nn) = mixF a b mask := by
      by_cases hm : mask = []
      · have hK0 : K = 0 := by rw [← unhide HLK, hm]; rfl
        subst hK0
        exact ⟨0, by omega, again_x0 _ _ _ mo cm _ _ ha1, by rw [mixF, if_pos hm]; rfl⟩
      · have hK0 : 0 < K := by rw [← unhide HLK]; exact List.length_pos_iff.2 hm
        have hgm := (unhide HRM).block_lt hm
        refine ⟨N, Nat.le_refl _, again_x _ _ _ mo gm cm K N mask (unhide HLK) hK0 (by unfold maxLen at he2; omega) (by omega) _ ha1 ha2 ((unhide HRM).below (unhide HK4)) ⟨by omega, fun h => ?_⟩ ⟨by omega, fun h => ?_⟩, by have := mixP_all (a := a) (b := b) hm; rwa [unhide HL1] at this⟩
        · have := (unhide HQ h).2.2.1; omega
        · have := (unhide HQ h).2.1; omega
    have HSQ := hide hseq
    have HFIN := hide hfin
    clear hseq hfin ha1 ha2 hz4 hk4 HB13 HB23 HC3 HZ3 HAL h14 h24 h34
    gi_wp2
    refine wpIn_range_y (gf := 74) (lb := #[.pointer (some ⟨w3.heap.size, 0, none⟩), .pointer (some ⟨w3.heap.size + 1, 0, none⟩)]) rfl (unhide HSQ).enters (unhide HSQ).seq (fun k hk => hk.1) (fun _ => rfl)
      (fun pre A => (N = 0 → Below w4.heap.size w4 A) ∧ (N ≠ 0 → Blk A q (mixP a b mask (pre.map Fin.val))) ∧ (A.cell? ⟨w.heap.size, 0, none⟩ = some (.slice ao N ca) ∧ A.cell? ⟨w.heap.size + 1, 0, none⟩ = some (.slice bo N cb) ∧ A.cell? ⟨w2.heap.size, 0, none⟩ = some (.slice to N tc)) ∧ Below w.heap.size w A ∧ w4.heap.size ≤ A.heap.size)
      (fun s A B h hb => by
        obtain ⟨h1, h2, ⟨h3, h4, h5⟩, h6, h7⟩ := h
        have hb' := hb.below (by omega)
        exact ⟨fun h => (h1 h).trans hb', fun h => (h2 h).below hb' (by have := (unhide HQ h).2.2.1; omega), ⟨hb.cell h3 (by dsimp only; omega), hb.cell h4 (by dsimp only; omega), hb.cell h5 (by dsimp only; omega)⟩, h6.trans (hb'.mono (by omega)), Nat.le_trans h7 hb.size⟩)
      ⟨fun _ => Below.refl _ _, fun h => by
        have hq := unhide HQ h
        exact (hq.2.2.2.2.2).below (unhide HKa) hq.2.2.1, ⟨unhide H14, unhide H24, unhide H34⟩, unhide HK4, Nat.le_refl _⟩ ?round ?done
    case done =>
      rintro D1 xs A hD hD2 hxs ⟨h1, h2, ⟨h3, h4, h5⟩, hB, hzA⟩ hK
      have HB := hide hB
      have HFR : Hid (Fr w.heap.size (A.putObj D1 (Obj.deferred none)) (.slice to N tc) (mixF a b mask)) := by
        by_cases h0 : N = 0
        · have ha0 : a = [] := List.eq_nil_of_length_eq_zero (by rw [unhide HL1]; exact h0)
          have hm0 : mixF a b mask = [] := List.eq_nil_of_length_eq_zero (by rw [mixF_len, ha0]; rfl)
          have hF := unhide HF
          rw [ha0] at hF
          show Fr _ _ _ _
          rw [hm0]
          exact hF.below ((unhide HKa).trans (((h1 h0).trans (below_put _ _ (by omega))).mono (by omega))) (by omega)
        · have hq := unhide HQ h0
          have hBk := h2 h0
          rw [hxs, unhide HFIN] at hBk
          exact .inr ⟨q, tc, by rw [hq.1, mixF_len, unhide HL1], by rw [mixF_len, unhide HL1]; exact hq.2.2.2.1, hq.2.2.2.2.1, hBk.of (World.putObj_heap_other (by omega)), by omega⟩
      clear hB h1 h2 h3 h4 hxs
      gi_wp2
      refine ⟨by simp, .inl ⟨_, _, rfl, run_takeDeferred hK, ?_⟩⟩
      refine ⟨_, results_tmp rfl _ _ _, _, rfl, ?_, (unhide HB).trans (below_put _ _ (by omega))⟩
      exact unhide HFR
    case round =>
      rintro l pre x A ⟨h1, h2, ⟨h3, h4, h5⟩, hB, hzA⟩ hlen hs2A
      have hx := x.isLt
      gi_wp2
      refine ⟨⟨Ky.refl _ _ _ _, h1, h2, ⟨h3, h4, h5⟩, hB, hzA⟩, ?_⟩
      clear h1 h2 h3 h4 h5 hB
      rintro W₂ hsz2 - - ⟨h1, h2, ⟨h3, h4, h5⟩, hB, hzA2⟩
      have h0 : N ≠ 0 := by omega
      obtain ⟨hto, hq1, hq2, hq3, hq4, -⟩ := unhide HQ h0
      subst hto
      have HBK := hide (h2 h0)
      have H3 := hide h3
      have H4 := hide h4
      have H5 := hide h5
      have HB := hide hB
      clear h1 h2 h3 h4 h5 hB
      have hsz3 : w4.heap.size + 2 ≤ W₂.heap.size := by omega
      clear hsz2
      obtain ⟨oa, hoa⟩ := row_some (unhide HRA) (by rw [unhide HL1]; omega)
      obtain ⟨ob, hob⟩ := row_some (unhide HRB) (by rw [unhide HL2]; omega)
      subst hoa
      subst hob
      obtain ⟨i, hi⟩ : ∃ i, x.val = i := ⟨_, rfl⟩
      have HI := hide hi
      rw [hi] at hx ⊢
      clear hi
      have hiN : i < N := by omega
      have hi1 : (i : Int) < (N : Int) := by omega
      have HCA := hide (row_cell ((unhide HRA).below' (unhide HB)) (j := i) (by rw [unhide HL1]; exact hiN))
      have HCB := hide (row_cell ((unhide HRB).below' (unhide HB)) (j := i) (by rw [unhide HL2]; exact hiN))
      have hga := (unhide HRA).block_lt (by intro h; have := unhide HL1; rw [h] at this; simp at this; omega)
      have hgb := (unhide HRB).block_lt (by intro h; have := unhide HL2; rw [h] at this; simp at this; omega)
      have hml : mAt mask i < 256 := hbm _
      obtain ⟨q5, q6, q7⟩ := mx_u8 (hba i) (hbb i) hml
      obtain ⟨t, ht⟩ : ∃ t, mixP a b mask (pre.map Fin.val) = t := ⟨_, rfl⟩
      have HT := hide ht
      rw [ht] at HBK
      have HTL : Hid (t.length = N) := by show _ = _; rw [← ht, mixP_len]; exact unhide HL1
      clear ht
      gi_wp2
      refine wpIn_region_round (S := fun W' => Kp [q] W₂ W') (by kernel_rfl) (by kernel_rfl) (fun ⟨_, _, h⟩ => h) ((Kp.refl _ _).drew) (fun hHeld => ?_)
      have HH := hide hHeld
      clear hHeld
      refine takeL (i := 0) (v := ?_) rfl (by kernel_rfl) (by kernel_rfl) (by kernel_rfl) (fun _ _ _ h => h) (Or.inl ⟨by rfl, ?_⟩) (unhide HH) ?_
      rotate_left 1
      · intro W1 hSW; have hc := hSW.cell (unhide H5) (by simp; omega); clear hSW; go_simp; all_goals (with_reducible rfl)
      (try simp only [Act.put, List.setIfInBounds_toArray, List.set_cons_zero, List.set_cons_succ])
      refine takeL (i := 1) (v := ?_) rfl (by kernel_rfl) (by kernel_rfl) (by kernel_rfl) (fun _ _ _ h => h) (Or.inl ⟨by rfl, ?_⟩) (unhide HH) ?_
      rotate_left 1
      · intro W hSW; go_simp; all_goals (with_reducible rfl)
      (try simp only [Act.put, List.setIfInBounds_toArray, List.set_cons_zero, List.set_cons_succ])
      refine takeL (i := 2) (v := ?_) rfl (by kernel_rfl) (by kernel_rfl) (by kernel_rfl) (fun _ _ _ h => h) (Or.inl ⟨by rfl, ?_⟩) (unhide HH) ?_
      rotate_left 1
      · intro W1 hSW; have hc := hSW.cell (unhide H3) (by simp; omega); clear hSW; go_simp; all_goals (with_reducible rfl)
      (try simp only [Act.put, List.setIfInBounds_toArray, List.set_cons_zero, List.set_cons_succ])
      refine takeL (i := 3) (v := ?_) rfl (by kernel_rfl) (by kernel_rfl) (by kernel_rfl) (fun _ _ _ h => h) (Or.inl ⟨by rfl, ?_⟩) (unhide HH) ?_
      rotate_left 1
      · intro W hSW; go_simp; all_goals (with_reducible rfl)
      (try simp only [Act.put, List.setIfInBounds_toArray, List.set_cons_zero, List.set_cons_succ])
      refine takeL (i := 4) (v := ?_) rfl (by kernel_rfl) (by kernel_rfl) (by kernel_rfl) (fun _ _ _ h => h) (Or.inl ⟨by rfl, ?_⟩) (unhide HH) ?_
      rotate_left 1
      · intro W hSW; go_simp; all_goals (with_reducible rfl)
      (try simp only [Act.put, List.setIfInBounds_toArray, List.set_cons_zero, List.set_cons_succ])
      refine takeL (i := 5) (v := ?_) rfl (by kernel_rfl) (by kernel_rfl) (by kernel_rfl) (fun _ _ _ h => h) (Or.inl ⟨by rfl, ?_⟩) (unhide HH) ?_
      rotate_left 1
      · intro W1 hSW; have hc := hSW.cell (unhide HCA) (by simp; omega); clear hSW; go_simp; all_goals (with_reducible rfl)
      (try simp only [Act.put, List.setIfInBounds_toArray, List.set_cons_zero, List.set_cons_succ])
      refine takeL (i := 6) (v := ?_) rfl (by kernel_rfl) (by kernel_rfl) (by kernel_rfl) (fun _ _ _ h => h) (Or.inl ⟨by rfl, ?_⟩) (unhide HH) ?_
      rotate_left 1
      · intro W hSW; go_simp; all_goals (with_reducible rfl)
      (try simp only [Act.put, List.setIfInBounds_toArray, List.set_cons_zero, List.set_cons_succ])
      refine takeL (i := 7) (v := ?_) rfl (by kernel_rfl) (by kernel_rfl) (by kernel_rfl) (fun _ _ _ h => h) (Or.inl ⟨by rfl, ?_⟩) (unhide HH) ?_
      rotate_left 1
      · intro W hSW; go_simp; all_goals (with_reducible rfl)
      (try simp only [Act.put, List.setIfInBounds_toArray, List.set_cons_zero, List.set_cons_succ])
      refine takeL (i := 8) (v := ?_) rfl (by kernel_rfl) (by kernel_rfl) (by kernel_rfl) (fun _ _ _ h => h) (Or.inl ⟨by rfl, ?_⟩) (unhide HH) ?_
      rotate_left 1
      · intro W1 hSW; have hc := hSW.cell (unhide H4) (by simp; omega); clear hSW; go_simp; all_goals (with_reducible rfl)
      (try simp only [Act.put, List.setIfInBounds_toArray, List.set_cons_zero, List.set_cons_succ])
      refine takeL (i := 9) (v := ?_) rfl (by kernel_rfl) (by kernel_rfl) (by kernel_rfl) (fun _ _ _ h => h) (Or.inl ⟨by rfl, ?_⟩) (unhide HH) ?_
      rotate_left 1
      · intro W hSW; go_simp; all_goals (with_reducible rfl)
      (try simp only [Act.put, List.setIfInBounds_toArray, List.set_cons_zero, List.set_cons_succ])
      refine takeL (i := 10) (v := ?_) rfl (by kernel_rfl) (by kernel_rfl) (by kernel_rfl) (fun _ _ _ h => h) (Or.inl ⟨by rfl, ?_⟩) (unhide HH) ?_
      rotate_left 1
      · intro W hSW; go_simp; all_goals (with_reducible rfl)
      (try simp only [Act.put, List.setIfInBounds_toArray, List.set_cons_zero, List.set_cons_succ])
      refine takeL (i := 11) (v := ?_) rfl (by kernel_rfl) (by kernel_rfl) (by kernel_rfl) (fun _ _ _ h => h) (Or.inl ⟨by rfl, ?_⟩) (unhide HH) ?_
      rotate_left 1
      · intro W1 hSW; have hc := hSW.cell (unhide HCB) (by simp; omega); clear hSW; go_simp; all_goals (with_reducible rfl)
      (try simp only [Act.put, List.setIfInBounds_toArray, List.set_cons_zero, List.set_cons_succ])
      refine takeL (i := 12) (v := ?_) rfl (by kernel_rfl) (by kernel_rfl) (by kernel_rfl) (fun _ _ _ h => h) (Or.inl ⟨by rfl, ?_⟩) (unhide HH) ?_
      rotate_left 1
      · intro W hSW; go_simp; all_goals (with_reducible rfl)
      (try simp only [Act.put, List.setIfInBounds_toArray, List.set_cons_zero, List.set_cons_succ])
      refine takeL (i := 13) (v := ?_) rfl (by kernel_rfl) (by kernel_rfl) (by kernel_rfl) (fun _ _ _ h => h) (Or.inl ⟨by rfl, ?_⟩) (unhide HH) ?_
      rotate_left 1
      · intro W hSW; go_simp; all_goals (with_reducible rfl)
      (try simp only [Act.put, List.setIfInBounds_toArray, List.set_cons_zero, List.set_cons_succ])
      refine takeL (i := 14) (v := ?_) rfl (by kernel_rfl) (by kernel_rfl) (by kernel_rfl) (fun _ _ _ h => h) (Or.inl ⟨by rfl, ?_⟩) (unhide HH) ?_
      rotate_left 1
      · intro W hSW; go_simp; all_goals (with_reducible rfl)
      (try simp only [Act.put, List.setIfInBounds_toArray, List.set_cons_zero, List.set_cons_succ])
      refine takeL (i := 15) (v := ?_) rfl (by kernel_rfl) (by kernel_rfl) (by kernel_rfl) (fun _ _ _ h => h) (Or.inl ⟨by rfl, ?_⟩) (unhide HH) ?_
      rotate_left 1
      · intro W hSW; go_simp; all_goals (with_reducible rfl)
      (try simp only [Act.put, List.setIfInBounds_toArray, List.set_cons_zero, List.set_cons_succ])
      refine wpAnyH_ready (rs := [16]) (by kernel_rfl) (by simp) ?_
      refine consL rfl (fun K hK => ?_) AllReadyH.nil
      have hc4 := ((unhide HBK).of (w' := W₂.drew) rfl).cell (j := i) (by rw [unhide HTL]; exact hiN)
      have hf4 := ((unhide HBK).of (w' := W₂.drew) rfl).free (j := i)
      have HH2 := HH
      go_simp
      refine hK.out _ _ ((unhide HH2).setCell ⟨q, i, none⟩ _ (.inl (by simp))) (fun hHeld => ?_)
      clear hHeld hK K hc4 hf4
      (try simp only [Act.put, List.setIfInBounds_toArray, List.set_cons_zero, List.set_cons_succ])
      refine wpAnyH_done (by kernel_rfl) ?_ _
      refine ⟨(Ky.set _ _ (by dsimp only; intro h; rcases h with h | h; omega; exact h.2 h0 rfl)).drew, fun h => absurd h h0, fun _ => ?_, ⟨?_, ?_, ?_⟩, ((unhide HB).setCell (p := ⟨q, i, none⟩) (by show w.heap.size ≤ q; omega) _).drew, ?_⟩
      · rw [List.map_append, List.map_cons, List.map_nil, unhide HI, mixP_snoc, unhide HT]
        exact ((unhide HBK).set i _ (by rw [unhide HTL]; exact hiN)).of rfl
      · exact (World.cell?_setCell_other _ _ _ _ (by simp)).trans (unhide H3)
      · exact (World.cell?_setCell_other _ _ _ _ (by simp)).trans (unhide H4)
      · exact (World.cell?_setCell_other _ _ _ _ (by simp)).trans (unhide H5)
      · show w4.heap.size ≤ (W₂.setCell _ _).heap.size
        simp [World.setCell]
        omega
  · have hap : mixL a b mask = [] := if_neg hl
    rw [hap]
    have hne : (((a.length : Nat) : Int) != ((b.length : Nat) : Int)) = true := by rw [bne_iff_ne]; omega
    clear hap hl
    gi_wp2
    obtain ⟨b1, b2, hbb2, hzb⟩ := two_boxes w (.slice ao a.length ca) (.slice bo b.length cb) 38 38 _ rfl
    exact ⟨_, results_tmp rfl _ _ _, _, rfl, .inl ⟨rfl, rfl⟩, hbb2⟩

end Go.Proofs.Ytnondiaefpdlpaa
