/-
  bits.again, its iterator.
  bits.Mix.
  ramekinref6's Mix.
-/
import Derived.Test.YtnondiaefpdlpaaMc
import Derived.Test.YtnondiaefpdlpaaMb
namespace Go.Proofs.Ytnondiaefpdlpaa
open Go.RowKit Go.Shelf
attribute [local go_sem] Oper.semAt_some

theorem two_boxes (w : World) (a b : Value) (s t : TypeId) : ∀ W, W = (w.alloc (.cells #[a] s)).alloc (.cells #[b] t) →
    W.cell? ⟨w.heap.size, 0, none⟩ = some a ∧ W.cell? ⟨w.heap.size + 1, 0, none⟩ = some b ∧ Below w.heap.size w W ∧ W.heap.size = w.heap.size + 2 := by
  rintro W rfl
  refine ⟨?_, ?_, ((Below.refl _ w).alloc (Nat.le_refl _) _).alloc (by simp) _, by simp⟩
  · exact (World.cell?_of_block (Below.heap_alloc _ _ _ (by simp))).trans (cell_new' w _ _).1
  · have h := (cell_new' (w.alloc (.cells #[a] s)) b t).1
    rw [World.size_alloc] at h
    exact h

set_option maxHeartbeats 1000000 in
theorem again_any (u : Value) (n : Nat) (w : World) (hu : ∃ ao n c, u = .slice ao n c) : Calls Try.prog 69 #[u, .int .i64 (n : Int)] w fun e w' =>
    e = .returned (.func (.func 74) #[] #[.pointer (some ⟨w.heap.size, 0, none⟩), .pointer (some ⟨w.heap.size + 1, 0, none⟩)]) ∧ w'.cell? ⟨w.heap.size, 0, none⟩ = some u ∧ w'.cell? ⟨w.heap.size + 1, 0, none⟩ = some (.int .i64 (n : Int)) ∧ w'.heap.size = w.heap.size + 2 ∧ Below w.heap.size w w' := by
  obtain ⟨ao, m, c, rfl⟩ := hu
  go_enter Try.func69, Try.ntmps69
  go_wp2
  go_ret
  obtain ⟨h1, h2, h3, h4⟩ := two_boxes w (.slice ao m c) (.int .i64 (n : Int)) 38 3 _ rfl
  exact ⟨rfl, h1, h2, h4, h3⟩

set_option maxRecDepth 100000 in
set_option maxHeartbeats 4000000 in
theorem again_x0 (T : Nat → Prop) (Ba Bn : Nat) (ao : Option Addr) (ca : Nat) (f : Nat → Nat) (w : World) (hcap : w.cell? ⟨Ba, 0, none⟩ = some (.slice ao 0 ca)) :
    Seq6 74 #[.pointer (some ⟨Ba, 0, none⟩), .pointer (some ⟨Bn, 0, none⟩)] 0 f T 0 w := by
  refine ⟨enters_of Try.func74 (by kernel_rfl) rfl, ?_⟩
  intro l J W hW hJ hY h0 n
  have hA := (hW.cell (p := ⟨Ba, 0, none⟩) (block_lt_of_cell hcap)).trans hcap
  show CallsIn Fence.wide n Try.prog 74 #[.func (.yield l) #[] #[], .pointer (some ⟨Ba, 0, none⟩), .pointer (some ⟨Bn, 0, none⟩)] W _
  refine callsIn_of_wp Try.func74 rfl trivial ?_ rfl
  simp only [Try.ntmps74, List.size_toArray, List.length_cons, List.length_nil, Nat.reduceAdd, Nat.reduceSub, Array.replicate_succ, Array.replicate_zero, List.push_toArray, List.append_toArray, List.nil_append, List.cons_append]
  gi_wp2
  refine bodyPost_ret (results_none rfl _ _ _) rfl ?_
  exact ⟨⟨_, rfl⟩, h0⟩

set_option maxRecDepth 100000 in
set_option maxHeartbeats 4000000 in
theorem again_x (T : Nat → Prop) (Ba Bn : Nat) (ao : Option Addr) (ga ca M N : Nat) (a : List Nat) (ha : a.length = M) (hM : 0 < M) (hM2 : M ≤ 9223372036854775807) (hN : N ≤ 281474976710656) (w : World)
    (hcap : w.cell? ⟨Ba, 0, none⟩ = some (.slice ao M ca)) (hcn : w.cell? ⟨Bn, 0, none⟩ = some (.int .i64 (N : Int))) (hra : Row w ao ga (ints a)) (hTa : T Ba) (hga : T ga) :
    Seq6 74 #[.pointer (some ⟨Ba, 0, none⟩), .pointer (some ⟨Bn, 0, none⟩)] N (mAt a) T 0 w := by
  refine ⟨enters_of Try.func74 (by kernel_rfl) rfl, ?_⟩
  intro l J W hW hJ hY h0 n
  have hA := (hW.cell (p := ⟨Ba, 0, none⟩) (block_lt_of_cell hcap)).trans hcap
  have hB := (hW.cell (p := ⟨Bn, 0, none⟩) (block_lt_of_cell hcn)).trans hcn
  have HA := hide hA
  have HRA := hide (hra.below hW)
  have HLA := hide ha
  have hM1 : ((M : Int) == 0) = false := by rw [beq_eq_false_iff_ne]; omega
  clear hra ha
  show CallsIn Fence.wide n Try.prog 74 #[.func (.yield l) #[] #[], .pointer (some ⟨Ba, 0, none⟩), .pointer (some ⟨Bn, 0, none⟩)] W _
  refine callsIn_of_wp Try.func74 rfl trivial ?_ rfl
  simp only [Try.ntmps74, List.size_toArray, List.length_cons, List.length_nil, Nat.reduceAdd, Nat.reduceSub, Array.replicate_succ, Array.replicate_zero, List.push_toArray, List.append_toArray, List.nil_append, List.cons_append]
  gi_wp2
  gi_loopw [9] (fun q wr => ∃ (pre : List (Fin N)) (i : Nat), q = .int .i64 i ∧ i ≤ N ∧ pre.map Fin.val = List.range i ∧ J pre wr ∧ W.heap.size ≤ wr.heap.size ∧ Row wr ao ga (ints a) ∧ wr.cell? ⟨Ba, 0, none⟩ = some (.slice ao M ca)) (fun q _ => N - (intOf q).toNat)
  case atStart => exact ⟨[], 0, rfl, by omega, rfl, h0, Nat.le_refl _, unhide HRA, unhide HA⟩
  case round =>
    obtain ⟨pre, i, rfl, hi, hp, hJ1, hzW, hr1, hc1⟩ := hrel
    have hl : pre.length = i := by have := congrArg List.length hp; simpa using this
    have HP := hide hp
    have HR1 := hide hr1
    have HL := hide hl
    have HC1 := hide hc1
    have HJ1 := hide hJ1
    clear hp hr1 hl hJ1 hA hB
    by_cases hlt : i < N
    · have hi1 : (i : Int) < (N : Int) := by omega
      obtain ⟨oa, rfl⟩ := row_some (unhide HR1) (by rw [unhide HLA]; omega)
      obtain ⟨r, hr⟩ : ∃ r, i % M = r := ⟨_, rfl⟩
      have hrM : r < M := by rw [← hr]; exact Nat.mod_lt _ hM
      have hrM1 : (r : Int) < (M : Int) := by omega
      have q1 : (i : Int) % (M : Int) = (r : Int) := by rw [← hr]; simp
      have q2 : (i : Int).tmod (M : Int) = (r : Int) := by rw [Int.tmod_eq_emod_of_nonneg (by omega), q1]
      have HE : Hid (mAt a i = cf a r) := by show _ = _; rw [mAt, unhide HLA, hr]
      have hca := row_cell (unhide HR1) (j := r) (by rw [unhide HLA]; exact hrM)
      obtain ⟨fn, tmps, assign, body, hy1, hR⟩ := hY pre ⟨i, hlt⟩ wr.drew (hJ _ _ _ (unhide HJ1) (Ka.of_below ((Below.refl _ wr).drew))) (by rw [unhide HL]; exact hlt) (Nat.le_trans hzW (Nat.le_refl _))
      dsimp only at hy1
      rw [unhide HE] at hy1
      have hmix : Try.prog.follows .mixedOrders = true := by kernel_rfl
      have hc1' : wr.drew.cell? ⟨Ba, 0, none⟩ = some (.slice (some ⟨ga, oa, none⟩) M ca) := hc1
      have hca' : wr.drew.cell? ⟨ga, oa + r, none⟩ = some (.int .u8 ((cf a r : Nat) : Int)) := hca
      clear hr hc1 hca
      gi_wp2
      refine wpIn_mono (Q := Exit.then (fun aa W3 => J (pre ++ [⟨i, hlt⟩]) W3 ∧ Ky T W.heap.size (W.heap.size + 0) wr.drew W3 ∧ ∃ x14 x15 x16 x17 x18 x19 x20, aa = { tmps := #[.func (.yield l) #[] #[], .pointer (some ⟨Ba, 0, none⟩), .pointer (some ⟨Bn, 0, none⟩), undef, .int .i64 (i : Nat), .slice (some ⟨ga, oa, none⟩) M ca, .int .i64 (M : Nat), .bool false, .int .i64 (N : Nat), .int .i64 (i : Nat), .bool true, .int .i64 (i : Nat), .func (.yield l) #[] #[], .int .i64 (i : Nat), x14, x15, x16, x17, x18, x19, x20, .bool true, .bool false, u23], defers := [] }) (fun _ _ _ => False)) ?_ ?_
      · gi_region_with_o (refine ⟨fun h => absurd h (by simp [Fence.wide]), (round_any hR).mono ?_⟩; rintro e W3 ⟨rfl, hJ3, hk3⟩)
        all_goals exact ⟨hJ3, hk3, _, _, _, _, _, _, _, rfl⟩
      · intro e aa W3 hQ
        cases e with
        | normal => ?_
        | _ => exact hQ.elim
        obtain ⟨hJ3, hk3, x14, x15, x16, x17, x18, x19, x20, rfl⟩ := hQ
        have HR1' := hide (((unhide HR1).below ((Below.refl _ wr).drew)).ky hk3 (fun h => .inr hga))
        have HC1' := hide (hk3.cell (p := ⟨Ba, 0, none⟩) (unhide HC1) (.inr hTa))
        have HZ3 : Hid (W.heap.size ≤ W3.heap.size) := Nat.le_trans hzW hk3.size
        have HJ3 := hide hJ3
        clear hJ3 hk3 hy1 hR hca' hc1'
        gi_wp2
        go_roundw
        case rel => exact ⟨pre ++ [⟨i, hlt⟩], i + 1, by go_num, by omega, by rw [List.map_append, unhide HP, List.range_succ]; rfl, unhide HJ3, unhide HZ3, unhide HR1', unhide HC1'⟩
        case measure => simp [intOf]; omega
    · have hi2 : i = N := by omega
      subst hi2
      gi_wp2
      go_end0
      exact ⟨⟨_, rfl⟩, pre, unhide HP, unhide HJ1⟩

end Go.Proofs.Ytnondiaefpdlpaa

namespace Go.Proofs.Ytnondiaefpdlpaa
open Go.RowKit Go.Shelf
attribute [local go_sem] Oper.semAt_some

theorem Row.below' {w w' : World} {ao : Option Addr} {g : Nat} {s : List Nat} (hr : Row w ao g (ints s)) (h : Below w.heap.size w w') : Row w' ao g (ints s) := Row.below h hr

/-- Some bytes mixed. -/
def mixP (a b mask l : List Nat) : List Nat := l.foldl (fun t i => t.set i (mx (mAt mask i) (cf a i) (cf b i))) a
theorem mixP_snoc (a b mask l : List Nat) (i : Nat) : mixP a b mask (l ++ [i]) = (mixP a b mask l).set i (mx (mAt mask i) (cf a i) (cf b i)) := by rw [mixP, List.foldl_append]; rfl
theorem mixP_len (a b mask l : List Nat) : (mixP a b mask l).length = a.length := by
  have : ∀ (l t : List Nat), (l.foldl (fun t i => t.set i (mx (mAt mask i) (cf a i) (cf b i))) t).length = t.length := by
    intro l
    induction l with
    | nil => intro t; rfl
    | cons x l ih => intro t; rw [List.foldl_cons, ih, List.length_set]
  exact this l a
theorem cf_mixP (a b mask : List Nat) (n j : Nat) (hn : n ≤ a.length) : cf (mixP a b mask (List.range n)) j = if j < n then mx (mAt mask j) (cf a j) (cf b j) else cf a j := by
  induction n with
  | zero => rfl
  | succ n ih =>
    rw [List.range_succ, mixP_snoc, cf_set _ _ _ _ (by rw [mixP_len]; omega), ih (by omega)]
    by_cases e : j = n
    · rw [if_pos e, if_pos (by omega), e]
    · rw [if_neg e]
      by_cases e2 : j < n
      · rw [if_pos e2, if_pos (by omega)]
      · rw [if_neg e2, if_neg (by omega)]
theorem mixP_all {a b mask : List Nat} (hm : mask ≠ []) : mixP a b mask (List.range a.length) = mixF a b mask := by
  refine eq_of_cf (by rw [mixP_len, mixF_len]) (fun j => ?_)
  rw [cf_mixP _ _ _ _ _ (Nat.le_refl _)]
  by_cases e : j < a.length
  · rw [if_pos e, cf_mixF e hm]
  · rw [if_neg e, cf_ge (by omega), cf_ge (by rw [mixF_len]; omega)]
theorem mixP_none (a b mask : List Nat) : mixP a b mask [] = a := rfl

set_option maxRecDepth 100000 in
set_option maxHeartbeats 8000000 in
theorem mix_any (u v m : Value) (ga gb gm : Nat) (a b mask : List Nat) (w : World) (hA : Arg w u ga a) (hB : Arg w v gb b) (hM : Arg w m gm mask) (hla : a.length = b.length → a.length ≤ 1000) :
    Calls Try.prog 51 #[u, v, m] w fun e w' => ∃ r, e = .returned r ∧ Fr w.heap.size w' r (mixL a b mask) ∧ Below w.heap.size w w' := by
  have HA := hide hA
  obtain ⟨⟨ao, ca, rfl, hc1, hc2, hnila, hra⟩, hba⟩ := hA
  obtain ⟨⟨bo, cb, rfl, hd1, hd2, hnilb, hrb⟩, hbb⟩ := hB
  obtain ⟨⟨mo, cm, rfl, he1, he2, hnilm, hrm⟩, hbm⟩ := hM
  have HRA := hide hra
  have HRB := hide hrb
  have HRM := hide hrm
  clear hra hrb hrm hnila hnilb hnilm
  refine (callsIn_wide (n := 3)).1 ?_
  refine callsIn_of_wp_marks Try.func51 rfl trivial ?_ rfl
  simp only [Try.ntmps51, List.size_toArray, List.length_cons, List.length_nil, Nat.reduceAdd, Nat.reduceSub, Array.replicate_succ, Array.replicate_zero, List.push_toArray, List.append_toArray, List.nil_append, List.cons_append]
  by_cases hl : a.length = b.length
  · have hap : mixL a b mask = mixF a b mask := if_pos hl
    rw [hap]
    clear hap
    obtain ⟨N, hN⟩ : ∃ N, a.length = N := ⟨_, rfl⟩
    have hN2 : b.length = N := by rw [← hl]; exact hN
    obtain ⟨K, hK⟩ : ∃ K, mask.length = K := ⟨_, rfl⟩
    rw [hN] at hc1 hla HA ⊢
    rw [hN2] at hd1 ⊢
    rw [hK] at he1 ⊢
    have hN3 := hla hN2.symm
    have HL1 := hide hN
    have HL2 := hide hN2
    have HLK := hide hK
    clear hl hN hN2 hla hK
    gi_wp2
    obtain ⟨b1, b2, hbb2, hzb⟩ := two_boxes w (.slice ao N ca) (.slice bo N cb) 38 38 _ rfl
    obtain ⟨w1, hw1⟩ : ∃ w1, (w.alloc (.cells #[.slice ao N ca] 38)).alloc (.cells #[.slice bo N cb] 38) = w1 := ⟨_, rfl⟩
    rw [hw1] at b1 b2 hbb2 hzb ⊢
    clear hw1
    have HB1 := hide b1
    have HB2 := hide b2
    have HK1 := hide hbb2
    have hz1a := Nat.le_of_eq hzb
    have hz1b := Nat.le_of_eq hzb.symm
    clear b1 b2 hbb2 hzb
    refine ⟨trivial, (callsIn_wide.2 (cloneB_any _ ga a w1 ((unhide HA).below (unhide HK1)) (by rw [unhide HL1]; omega))).mono ?_⟩
    rintro e w2 ⟨v1, rfl, hF, hk2⟩
    obtain ⟨to, tc, hv1⟩ := Fr.shape hF
    subst hv1
    have HF := hide hF
    rw [unhide HL1] at HF ⊢
    obtain ⟨q, hq⟩ : ∃ q, N ≠ 0 → (to = some ⟨q, 0, none⟩ ∧ w1.heap.size ≤ q ∧ q < w2.heap.size ∧ N ≤ tc ∧ tc ≤ maxLen ∧ Blk w2 q a) := by
      by_cases h0 : N = 0
      · exact ⟨0, fun h => absurd h0 h⟩
      · obtain ⟨q, cq, he, h1, h2, hB, h3⟩ := hF.blk (by intro h; have := unhide HL1; rw [h] at this; simp at this; omega)
        injection he with e1 e2 e3
        exact ⟨q, fun _ => ⟨e1, h3, hB.lt, by rw [e3, ← unhide HL1]; exact h1, by rw [e3]; exact h2, hB⟩⟩
    have HQ := hide hq
    have hz2 := hk2.size
    have HK2 := hide ((unhide HK1).trans (hk2.mono (by omega)))
    have HB12 := hide ((hk2.cell (p := ⟨w.heap.size, 0, none⟩) (by show w.heap.size < _; omega)).trans (unhide HB1))
    have HB22 := hide ((hk2.cell (p := ⟨w.heap.size + 1, 0, none⟩) (by show w.heap.size + 1 < _; omega)).trans (unhide HB2))
    clear hF hq hk2 HB1 HB2 HK1 HA
    have hal := (Below.refl _ w2).alloc (Nat.le_refl _) (.cells #[.slice to N tc] 38)
    have HAL := hide hal
    have hB13 : (w2.alloc (.cells #[.slice to N tc] 38)).cell? ⟨w.heap.size, 0, none⟩ = some (.slice ao N ca) := (hal.cell (block_lt_of_cell (unhide HB12))).trans (unhide HB12)
    have HB13 := hide hB13
    have HB23 : Hid ((w2.alloc (.cells #[.slice to N tc] 38)).cell? ⟨w.heap.size + 1, 0, none⟩ = some (.slice bo N cb)) := (hal.cell (block_lt_of_cell (unhide HB22))).trans (unhide HB22)
    have HC3 := hide (cell_new' w2 (.slice to N tc) 38).1
    have HZ3 : Hid ((w2.alloc (.cells #[.slice to N tc] 38)).heap.size = w2.heap.size + 1) := World.size_alloc _ _
    clear hal
    gi_wp2
    clear hB13
    obtain ⟨w3, hw3⟩ : ∃ w3, w2.alloc (.cells #[.slice to N tc] 38) = w3 := ⟨_, rfl⟩
    rw [hw3] at HAL HB13 HB23 HC3 HZ3 ⊢
    clear hw3 HB12 HB22
    refine ⟨trivial, (callsIn_wide.2 (again_any _ N w3 ⟨_, _, _, rfl⟩)).mono ?_⟩
    rintro e w4 ⟨rfl, ha1, ha2, hz4, hk4⟩
    have hz3a := Nat.le_of_eq (unhide HZ3)
    have hz3b := Nat.le_of_eq (unhide HZ3).symm
    have hz4a := Nat.le_of_eq hz4
    have hz4b := Nat.le_of_eq hz4.symm
    have HKa := hide ((unhide HAL).trans (hk4.mono (by omega)))
    have HK4 := hide ((unhide HK2).trans ((unhide HKa).mono (by omega)))
    have h14 := (hk4.cell (block_lt_of_cell (unhide HB13))).trans (unhide HB13)
    have h24 := (hk4.cell (block_lt_of_cell (unhide HB23))).trans (unhide HB23)
    have h34 := (hk4.cell (block_lt_of_cell (unhide HC3))).trans (unhide HC3)
    have H14 := hide h14
    have H24 := hide h24
    have H34 := hide h34
    obtain ⟨Nn, hNn, hseq, hfin⟩ : ∃ Nn, Nn ≤ N ∧ Seq6 74 #[.pointer (some ⟨w3.heap.size, 0, none⟩), .pointer (some ⟨w3.heap.size + 1, 0, none⟩)] Nn (mAt mask) (fun k => k < w4.heap.size ∧ (N ≠ 0 → k ≠ q)) 0 w4 ∧ mixP a b mask (List.range Nn) = mixF a b mask := by
      by_cases hm : mask = []
      · have hK0 : K = 0 := by rw [← unhide HLK, hm]; rfl
        subst hK0
        exact ⟨0, by omega, again_x0 _ _ _ mo cm _ _ ha1, by rw [mixF, if_pos hm]; rfl⟩
      · have hK0 : 0 < K := by rw [← unhide HLK]; exact List.length_pos_iff.2 hm
        have hgm := (unhide HRM).block_lt hm
        refine ⟨N, Nat.le_refl _, again_x _ _ _ mo gm cm K N mask (unhide HLK) hK0 (by unfold maxLen at he2; omega) (by omega) _ ha1 ha2 ((unhide HRM).below (unhide HK4)) ⟨by omega, fun h => ?_⟩ ⟨by omega, fun h => ?_⟩, by have := mixP_all (a := a) (b := b) hm; rwa [unhide HL1] at this⟩
        · have := (unhide HQ h).2.2.1; omega
        · have := (unhide HQ h).2.1; omega
    have HSQ := hide hseq
    have HFIN := hide hfin
    clear hseq hfin ha1 ha2 hz4 hk4 HB13 HB23 HC3 HZ3 HAL h14 h24 h34
    gi_wp2
    refine wpIn_range_y (gf := 74) (lb := #[.pointer (some ⟨w3.heap.size, 0, none⟩), .pointer (some ⟨w3.heap.size + 1, 0, none⟩)]) rfl (unhide HSQ).enters (unhide HSQ).seq (fun k hk => hk.1) (fun _ => rfl)
      (fun pre A => (N = 0 → Below w4.heap.size w4 A) ∧ (N ≠ 0 → Blk A q (mixP a b mask (pre.map Fin.val))) ∧ (A.cell? ⟨w.heap.size, 0, none⟩ = some (.slice ao N ca) ∧ A.cell? ⟨w.heap.size + 1, 0, none⟩ = some (.slice bo N cb) ∧ A.cell? ⟨w2.heap.size, 0, none⟩ = some (.slice to N tc)) ∧ Below w.heap.size w A ∧ w4.heap.size ≤ A.heap.size)
      (fun s A B h hb => by
        obtain ⟨h1, h2, ⟨h3, h4, h5⟩, h6, h7⟩ := h
        have hb' := hb.below (by omega)
        exact ⟨fun h => (h1 h).trans hb', fun h => (h2 h).below hb' (by have := (unhide HQ h).2.2.1; omega), ⟨hb.cell h3 (by dsimp only; omega), hb.cell h4 (by dsimp only; omega), hb.cell h5 (by dsimp only; omega)⟩, h6.trans (hb'.mono (by omega)), Nat.le_trans h7 hb.size⟩)
      ⟨fun _ => Below.refl _ _, fun h => by
        have hq := unhide HQ h
        exact (hq.2.2.2.2.2).below (unhide HKa) hq.2.2.1, ⟨unhide H14, unhide H24, unhide H34⟩, unhide HK4, Nat.le_refl _⟩ ?round ?done
    case done =>
      rintro D1 xs A hD hD2 hxs ⟨h1, h2, ⟨h3, h4, h5⟩, hB, hzA⟩ hK
      have HB := hide hB
      have HFR : Hid (Fr w.heap.size (A.putObj D1 (Obj.deferred none)) (.slice to N tc) (mixF a b mask)) := by
        by_cases h0 : N = 0
        · have ha0 : a = [] := List.eq_nil_of_length_eq_zero (by rw [unhide HL1]; exact h0)
          have hm0 : mixF a b mask = [] := List.eq_nil_of_length_eq_zero (by rw [mixF_len, ha0]; rfl)
          have hF := unhide HF
          rw [ha0] at hF
          show Fr _ _ _ _
          rw [hm0]
          exact hF.below ((unhide HKa).trans (((h1 h0).trans (below_put _ _ (by omega))).mono (by omega))) (by omega)
        · have hq := unhide HQ h0
          have hBk := h2 h0
          rw [hxs, unhide HFIN] at hBk
          exact .inr ⟨q, tc, by rw [hq.1, mixF_len, unhide HL1], by rw [mixF_len, unhide HL1]; exact hq.2.2.2.1, hq.2.2.2.2.1, hBk.of (World.putObj_heap_other (by omega)), by omega⟩
      clear hB h1 h2 h3 h4 hxs
      gi_wp2
      refine ⟨by simp, .inl ⟨_, _, rfl, run_takeDeferred hK, ?_⟩⟩
      refine ⟨_, results_tmp rfl _ _ _, _, rfl, ?_, (unhide HB).trans (below_put _ _ (by omega))⟩
      exact unhide HFR
    case round =>
      rintro l pre x A ⟨h1, h2, ⟨h3, h4, h5⟩, hB, hzA⟩ hlen hs2A
      have hx := x.isLt
      gi_wp2
      refine ⟨⟨Ky.refl _ _ _ _, h1, h2, ⟨h3, h4, h5⟩, hB, hzA⟩, ?_⟩
      clear h1 h2 h3 h4 h5 hB
      rintro W₂ hsz2 - - ⟨h1, h2, ⟨h3, h4, h5⟩, hB, hzA2⟩
      have h0 : N ≠ 0 := by omega
      obtain ⟨hto, hq1, hq2, hq3, hq4, -⟩ := unhide HQ h0
      subst hto
      have HBK := hide (h2 h0)
      have H3 := hide h3
      have H4 := hide h4
      have H5 := hide h5
      have HB := hide hB
      clear h1 h2 h3 h4 h5 hB
      have hsz3 : w4.heap.size + 2 ≤ W₂.heap.size := by omega
      clear hsz2
      obtain ⟨oa, hoa⟩ := row_some (unhide HRA) (by rw [unhide HL1]; omega)
      obtain ⟨ob, hob⟩ := row_some (unhide HRB) (by rw [unhide HL2]; omega)
      subst hoa
      subst hob
      obtain ⟨i, hi⟩ : ∃ i, x.val = i := ⟨_, rfl⟩
      have HI := hide hi
      rw [hi] at hx ⊢
      clear hi
      have hiN : i < N := by omega
      have hi1 : (i : Int) < (N : Int) := by omega
      have HCA := hide (row_cell ((unhide HRA).below' (unhide HB)) (j := i) (by rw [unhide HL1]; exact hiN))
      have HCB := hide (row_cell ((unhide HRB).below' (unhide HB)) (j := i) (by rw [unhide HL2]; exact hiN))
      have hga := (unhide HRA).block_lt (by intro h; have := unhide HL1; rw [h] at this; simp at this; omega)
      have hgb := (unhide HRB).block_lt (by intro h; have := unhide HL2; rw [h] at this; simp at this; omega)
      have hml : mAt mask i < 256 := hbm _
      obtain ⟨q5, q6, q7⟩ := mx_u8 (hba i) (hbb i) hml
      obtain ⟨t, ht⟩ : ∃ t, mixP a b mask (pre.map Fin.val) = t := ⟨_, rfl⟩
      have HT := hide ht
      rw [ht] at HBK
      have HTL : Hid (t.length = N) := by show _ = _; rw [← ht, mixP_len]; exact unhide HL1
      clear ht
      gi_wp2
      refine wpIn_region_round (S := fun W' => Kp [q] W₂ W') (by kernel_rfl) (by kernel_rfl) (fun ⟨_, _, h⟩ => h) ((Kp.refl _ _).drew) (fun hHeld => ?_)
      have HH := hide hHeld
      clear hHeld
      refine takeL (i := 0) (v := ?_) rfl (by kernel_rfl) (by kernel_rfl) (by kernel_rfl) (fun _ _ _ h => h) (Or.inl ⟨by rfl, ?_⟩) (unhide HH) ?_
      rotate_left 1
      · intro W1 hSW; have hc := hSW.cell (unhide H5) (by simp; omega); clear hSW; go_simp; all_goals (with_reducible rfl)
      (try simp only [Act.put, List.setIfInBounds_toArray, List.set_cons_zero, List.set_cons_succ])
      refine takeL (i := 1) (v := ?_) rfl (by kernel_rfl) (by kernel_rfl) (by kernel_rfl) (fun _ _ _ h => h) (Or.inl ⟨by rfl, ?_⟩) (unhide HH) ?_
      rotate_left 1
      · intro W hSW; go_simp; all_goals (with_reducible rfl)
      (try simp only [Act.put, List.setIfInBounds_toArray, List.set_cons_zero, List.set_cons_succ])
      refine takeL (i := 2) (v := ?_) rfl (by kernel_rfl) (by kernel_rfl) (by kernel_rfl) (fun _ _ _ h => h) (Or.inl ⟨by rfl, ?_⟩) (unhide HH) ?_
      rotate_left 1
      · intro W1 hSW; have hc := hSW.cell (unhide H3) (by simp; omega); clear hSW; go_simp; all_goals (with_reducible rfl)
      (try simp only [Act.put, List.setIfInBounds_toArray, List.set_cons_zero, List.set_cons_succ])
      refine takeL (i := 3) (v := ?_) rfl (by kernel_rfl) (by kernel_rfl) (by kernel_rfl) (fun _ _ _ h => h) (Or.inl ⟨by rfl, ?_⟩) (unhide HH) ?_
      rotate_left 1
      · intro W hSW; go_simp; all_goals (with_reducible rfl)
      (try simp only [Act.put, List.setIfInBounds_toArray, List.set_cons_zero, List.set_cons_succ])
      refine takeL (i := 4) (v := ?_) rfl (by kernel_rfl) (by kernel_rfl) (by kernel_rfl) (fun _ _ _ h => h) (Or.inl ⟨by rfl, ?_⟩) (unhide HH) ?_
      rotate_left 1
      · intro W hSW; go_simp; all_goals (with_reducible rfl)
      (try simp only [Act.put, List.setIfInBounds_toArray, List.set_cons_zero, List.set_cons_succ])
      refine takeL (i := 5) (v := ?_) rfl (by kernel_rfl) (by kernel_rfl) (by kernel_rfl) (fun _ _ _ h => h) (Or.inl ⟨by rfl, ?_⟩) (unhide HH) ?_
      rotate_left 1
      · intro W1 hSW; have hc := hSW.cell (unhide HCA) (by simp; omega); clear hSW; go_simp; all_goals (with_reducible rfl)
      (try simp only [Act.put, List.setIfInBounds_toArray, List.set_cons_zero, List.set_cons_succ])
      refine takeL (i := 6) (v := ?_) rfl (by kernel_rfl) (by kernel_rfl) (by kernel_rfl) (fun _ _ _ h => h) (Or.inl ⟨by rfl, ?_⟩) (unhide HH) ?_
      rotate_left 1
      · intro W hSW; go_simp; all_goals (with_reducible rfl)
      (try simp only [Act.put, List.setIfInBounds_toArray, List.set_cons_zero, List.set_cons_succ])
      refine takeL (i := 7) (v := ?_) rfl (by kernel_rfl) (by kernel_rfl) (by kernel_rfl) (fun _ _ _ h => h) (Or.inl ⟨by rfl, ?_⟩) (unhide HH) ?_
      rotate_left 1
      · intro W hSW; go_simp; all_goals (with_reducible rfl)
      (try simp only [Act.put, List.setIfInBounds_toArray, List.set_cons_zero, List.set_cons_succ])
      refine takeL (i := 8) (v := ?_) rfl (by kernel_rfl) (by kernel_rfl) (by kernel_rfl) (fun _ _ _ h => h) (Or.inl ⟨by rfl, ?_⟩) (unhide HH) ?_
      rotate_left 1
      · intro W1 hSW; have hc := hSW.cell (unhide H4) (by simp; omega); clear hSW; go_simp; all_goals (with_reducible rfl)
      (try simp only [Act.put, List.setIfInBounds_toArray, List.set_cons_zero, List.set_cons_succ])
      refine takeL (i := 9) (v := ?_) rfl (by kernel_rfl) (by kernel_rfl) (by kernel_rfl) (fun _ _ _ h => h) (Or.inl ⟨by rfl, ?_⟩) (unhide HH) ?_
      rotate_left 1
      · intro W hSW; go_simp; all_goals (with_reducible rfl)
      (try simp only [Act.put, List.setIfInBounds_toArray, List.set_cons_zero, List.set_cons_succ])
      refine takeL (i := 10) (v := ?_) rfl (by kernel_rfl) (by kernel_rfl) (by kernel_rfl) (fun _ _ _ h => h) (Or.inl ⟨by rfl, ?_⟩) (unhide HH) ?_
      rotate_left 1
      · intro W hSW; go_simp; all_goals (with_reducible rfl)
      (try simp only [Act.put, List.setIfInBounds_toArray, List.set_cons_zero, List.set_cons_succ])
      refine takeL (i := 11) (v := ?_) rfl (by kernel_rfl) (by kernel_rfl) (by kernel_rfl) (fun _ _ _ h => h) (Or.inl ⟨by rfl, ?_⟩) (unhide HH) ?_
      rotate_left 1
      · intro W1 hSW; have hc := hSW.cell (unhide HCB) (by simp; omega); clear hSW; go_simp; all_goals (with_reducible rfl)
      (try simp only [Act.put, List.setIfInBounds_toArray, List.set_cons_zero, List.set_cons_succ])
      refine takeL (i := 12) (v := ?_) rfl (by kernel_rfl) (by kernel_rfl) (by kernel_rfl) (fun _ _ _ h => h) (Or.inl ⟨by rfl, ?_⟩) (unhide HH) ?_
      rotate_left 1
      · intro W hSW; go_simp; all_goals (with_reducible rfl)
      (try simp only [Act.put, List.setIfInBounds_toArray, List.set_cons_zero, List.set_cons_succ])
      refine takeL (i := 13) (v := ?_) rfl (by kernel_rfl) (by kernel_rfl) (by kernel_rfl) (fun _ _ _ h => h) (Or.inl ⟨by rfl, ?_⟩) (unhide HH) ?_
      rotate_left 1
      · intro W hSW; go_simp; all_goals (with_reducible rfl)
      (try simp only [Act.put, List.setIfInBounds_toArray, List.set_cons_zero, List.set_cons_succ])
      refine takeL (i := 14) (v := ?_) rfl (by kernel_rfl) (by kernel_rfl) (by kernel_rfl) (fun _ _ _ h => h) (Or.inl ⟨by rfl, ?_⟩) (unhide HH) ?_
      rotate_left 1
      · intro W hSW; go_simp; all_goals (with_reducible rfl)
      (try simp only [Act.put, List.setIfInBounds_toArray, List.set_cons_zero, List.set_cons_succ])
      refine takeL (i := 15) (v := ?_) rfl (by kernel_rfl) (by kernel_rfl) (by kernel_rfl) (fun _ _ _ h => h) (Or.inl ⟨by rfl, ?_⟩) (unhide HH) ?_
      rotate_left 1
      · intro W hSW; go_simp; all_goals (with_reducible rfl)
      (try simp only [Act.put, List.setIfInBounds_toArray, List.set_cons_zero, List.set_cons_succ])
      refine wpAnyH_ready (rs := [16]) (by kernel_rfl) (by simp) ?_
      refine consL rfl (fun K hK => ?_) AllReadyH.nil
      have hc4 := ((unhide HBK).of (w' := W₂.drew) rfl).cell (j := i) (by rw [unhide HTL]; exact hiN)
      have hf4 := ((unhide HBK).of (w' := W₂.drew) rfl).free (j := i)
      have HH2 := HH
      go_simp
      refine hK.out _ _ ((unhide HH2).setCell ⟨q, i, none⟩ _ (.inl (by simp))) (fun hHeld => ?_)
      clear hHeld hK K hc4 hf4
      (try simp only [Act.put, List.setIfInBounds_toArray, List.set_cons_zero, List.set_cons_succ])
      refine wpAnyH_done (by kernel_rfl) ?_ _
      refine ⟨(Ky.set _ _ (by dsimp only; intro h; rcases h with h | h; omega; exact h.2 h0 rfl)).drew, fun h => absurd h h0, fun _ => ?_, ⟨?_, ?_, ?_⟩, ((unhide HB).setCell (p := ⟨q, i, none⟩) (by show w.heap.size ≤ q; omega) _).drew, ?_⟩
      · rw [List.map_append, List.map_cons, List.map_nil, unhide HI, mixP_snoc, unhide HT]
        exact ((unhide HBK).set i _ (by rw [unhide HTL]; exact hiN)).of rfl
      · exact (World.cell?_setCell_other _ _ _ _ (by simp)).trans (unhide H3)
      · exact (World.cell?_setCell_other _ _ _ _ (by simp)).trans (unhide H4)
      · exact (World.cell?_setCell_other _ _ _ _ (by simp)).trans (unhide H5)
      · show w4.heap.size ≤ (W₂.setCell _ _).heap.size
        simp [World.setCell]
        omega
  · have hap : mixL a b mask = [] := if_neg hl
    rw [hap]
    have hne : (((a.length : Nat) : Int) != ((b.length : Nat) : Int)) = true := by rw [bne_iff_ne]; omega
    clear hap hl
    gi_wp2
    obtain ⟨b1, b2, hbb2, hzb⟩ := two_boxes w (.slice ao a.length ca) (.slice bo b.length cb) 38 38 _ rfl
    exact ⟨_, results_tmp rfl _ _ _, _, rfl, .inl ⟨rfl, rfl⟩, hbb2⟩

end Go.Proofs.Ytnondiaefpdlpaa

namespace Go.Proofs.Ytnondiaefpdlpaa
open Go.RowKit Go.Shelf

set_option maxRecDepth 100000 in
set_option maxHeartbeats 8000000 in
theorem rmix_any (u v m : Value) (ga gb gm : Nat) (a b mask : List Nat) (w : World) (hA : Arg w u ga a) (hB : Arg w v gb b) (hM : Arg w m gm mask) (hla : a.length = b.length → a.length ≤ 1000) :
    Calls Try.prog 28 #[u, v, m] w fun e w' => ∃ r, e = .returned r ∧ Fr w.heap.size w' r (mixL a b mask) ∧ Below w.heap.size w w' := by
  obtain ⟨⟨ao, ca, rfl, hc1, hc2, hnila, hra⟩, hba⟩ := hA
  obtain ⟨⟨bo, cb, rfl, hd1, hd2, hnilb, hrb⟩, hbb⟩ := hB
  obtain ⟨⟨mo, cm, rfl, he1, he2, hnilm, hrm⟩, hbm⟩ := hM
  have HRA := hide hra
  have HRB := hide hrb
  have HRM := hide hrm
  have HNIL : Hid (ao = none → a.length = 0 ∧ ca = 0) := fun h => by have := hnila h; omega
  clear hra hrb hrm hnila hnilb hnilm
  by_cases hl : a.length = b.length
  · have hap : mixL a b mask = mixF a b mask := if_pos hl
    rw [hap]
    clear hap
    obtain ⟨N, hN⟩ : ∃ N, a.length = N := ⟨_, rfl⟩
    have hN2 : b.length = N := by rw [← hl]; exact hN
    obtain ⟨K, hK⟩ : ∃ K, mask.length = K := ⟨_, rfl⟩
    rw [hN] at hc1 hla HNIL ⊢
    rw [hN2] at hd1 ⊢
    rw [hK] at he1 ⊢
    have hN3 := hla hN2.symm
    have HL1 := hide hN
    have HL2 := hide hN2
    have HLK := hide hK
    have hKm : (K : Int) ≤ 9223372036854775807 := by unfold maxLen at he2; omega
    clear hl hN hN2 hla hK
    obtain ⟨i0, hi0, hz0, hz1, hz2⟩ := info_parts infoE
    have HI := hide hi0
    have HO := hide (own_none w 5)
    have HK0 : Hid (Below w.heap.size w (w.alloc (.cells #[] 5))) := (Below.refl _ w).alloc (Nat.le_refl _) _
    clear hi0
    go_enter Try.func28, Try.ntmps28
    go_wp2_with (at_builtin; refine wpList_append_row _ rfl _ _ 38 rfl w.heap.size 5 i0 Try.underlying38 (unhide HI) hz0 hz1 hz2 (.slice (some ⟨w.heap.size, 0, none⟩) 0 0) 0 [] rfl (unhide HO) ao ga N ca (ints a) rfl (by rw [ints_len]; exact unhide HL1) ((unhide HRA).below (unhide HK0)) (unhide HNIL) (by omega) (by simp) ?_)
    intro v1 w1 ho hg _
    have hF := (owns_fr (s := a) ho).2
    have hk1 := below_grown (unhide HK0) hg (by simp) (fun k hk => by have e2 : w.heap.size = k := Option.some.inj hk; omega)
    obtain ⟨to, tc, hv1⟩ := hF.shape
    subst hv1
    have HF := hide hF
    have HK1 := hide hk1
    rw [unhide HL1] at HF ⊢
    clear hF hk1 HO HK0 ho hg HI
    go_wp2_with fail
    go_loopw [8] (fun p wr => ∃ (i : Nat), p = .int .i64 i ∧ i ≤ N ∧ (i ≠ 0 → K ≠ 0) ∧ Fr w.heap.size wr (.slice to N tc) (mixP a b mask (List.range i)) ∧ Below w.heap.size w wr) (fun p _ => N - (intOf p).toNat)
    case atStart => exact ⟨0, rfl, by omega, by simp, unhide HF, unhide HK1⟩
    case round =>
      obtain ⟨i, rfl, hi, hiK, hFr, hK⟩ := hrel
      have HK := hide hK
      have HFR := hide hFr
      clear hK hFr
      by_cases hK0 : K = 0
      · have hi0 : i = 0 := by
          by_cases h : i = 0
          · exact h
          · exact absurd hK0 (hiK h)
        subst hi0
        subst hK0
        have hm : mask = [] := List.eq_nil_of_length_eq_zero (unhide HLK)
        have HM : Hid (mixP a b mask (List.range 0) = mixF a b mask) := by show _ = _; rw [mixF, if_pos hm]; rfl
        clear hm
        by_cases hN0 : N = 0
        · subst hN0
          go_wp2
          go_ret
          exact ⟨_, rfl, by rw [← unhide HM]; exact unhide HFR, unhide HK⟩
        · have hn1 : (0 : Int) < (N : Int) := by omega
          go_wp2
          go_ret
          exact ⟨_, rfl, by rw [← unhide HM]; exact unhide HFR, unhide HK⟩
      · have hKp : 0 < K := by omega
        have hKp1 : (0 : Int) < (K : Int) := by omega
        have hm : mask ≠ [] := fun h => by have := unhide HLK; rw [h] at this; simp at this; omega
        by_cases hlt : i < N
        · have hi1 : (i : Int) < (N : Int) := by omega
          obtain ⟨r, hr⟩ : ∃ r, i % K = r := ⟨_, rfl⟩
          have hrM : r < K := by rw [← hr]; exact Nat.mod_lt _ hKp
          have hrM1 : (r : Int) < (K : Int) := by omega
          have q1 : (i : Int) % (K : Int) = (r : Int) := by rw [← hr]; simp
          have q2 : (i : Int).tmod (K : Int) = (r : Int) := by rw [Int.tmod_eq_emod_of_nonneg (by omega), q1]
          have hKne : ((K : Int) == 0) = false := by rw [beq_eq_false_iff_ne]; omega
          have HE : Hid (mAt mask i = cf mask r) := by show _ = _; rw [mAt, unhide HLK, hr]
          obtain ⟨om, hom⟩ := row_some (unhide HRM) (by rw [unhide HLK]; omega)
          subst hom
          have hcm := row_cell (Row.below (unhide HK) (unhide HRM)) (j := r) (by rw [unhide HLK]; exact hrM)
          clear hr
          obtain ⟨oa, hoa⟩ := row_some (unhide HRA) (by rw [unhide HL1]; omega)
          obtain ⟨ob, hob⟩ := row_some (unhide HRB) (by rw [unhide HL2]; omega)
          subst hoa
          subst hob
          have HCA := hide (row_cell (Row.below (unhide HK) (unhide HRA)) (j := i) (by rw [unhide HL1]; exact hlt))
          have HCB := hide (row_cell (Row.below (unhide HK) (unhide HRB)) (j := i) (by rw [unhide HL2]; exact hlt))
          have hga := (unhide HRA).block_lt (by intro h; have := unhide HL1; rw [h] at this; simp at this; omega)
          have hgb := (unhide HRB).block_lt (by intro h; have := unhide HL2; rw [h] at this; simp at this; omega)
          have hml : cf mask r < 256 := hbm _
          obtain ⟨q5, q6, q7⟩ := mx_u8 (hba i) (hbb i) hml
          obtain ⟨t, ht⟩ : ∃ t, mixP a b mask (List.range i) = t := ⟨_, rfl⟩
          have HTL : Hid (t.length = N) := by show _ = _; rw [← ht, mixP_len]; exact unhide HL1
          have HT : Hid (mixP a b mask (List.range (i + 1)) = t.set i (mx (cf mask r) (cf a i) (cf b i))) := by show _ = _; rw [List.range_succ, mixP_snoc, ht, unhide HE]
          rw [ht] at HFR
          clear ht
          obtain ⟨q, cq, he, h1, h2, hB, h3⟩ := (unhide HFR).blk (by intro h; have := unhide HTL; rw [h] at this; simp at this; omega)
          injection he with e1 e2 e3
          subst e1
          subst e3
          have HB := hide hB
          have hTC : N ≤ tc := by rw [← unhide HTL]; exact h1
          clear e2 hB h1 hm
          go_wp2_with fail
          clear hcm
          refine wp_region_noPanic ?_
          refine wp_region_held_drew (S := fun W => Kp [q] wr W) (by kernel_rfl) ((Kp.refl _ _).drew) (fun hHeld => ?_)
          have HH := hide hHeld
          clear hHeld
          refine takeL (i := 0) (v := ?_) rfl (by kernel_rfl) (by kernel_rfl) (by kernel_rfl) (fun _ _ _ h => h) (Or.inl ⟨by rfl, ?_⟩) (unhide HH) ?_
          rotate_left 1
          · intro W hSW; go_simp; all_goals (with_reducible rfl)
          (try simp only [Act.put, List.setIfInBounds_toArray, List.set_cons_zero, List.set_cons_succ])
          refine takeL (i := 1) (v := ?_) rfl (by kernel_rfl) (by kernel_rfl) (by kernel_rfl) (fun _ _ _ h => h) (Or.inl ⟨by rfl, ?_⟩) (unhide HH) ?_
          rotate_left 1
          · intro W hSW; go_simp; all_goals (with_reducible rfl)
          (try simp only [Act.put, List.setIfInBounds_toArray, List.set_cons_zero, List.set_cons_succ])
          refine takeL (i := 2) (v := ?_) rfl (by kernel_rfl) (by kernel_rfl) (by kernel_rfl) (fun _ _ _ h => h) (Or.inl ⟨by rfl, ?_⟩) (unhide HH) ?_
          rotate_left 1
          · intro W hSW; go_simp; all_goals (with_reducible rfl)
          (try simp only [Act.put, List.setIfInBounds_toArray, List.set_cons_zero, List.set_cons_succ])
          refine takeL (i := 3) (v := ?_) rfl (by kernel_rfl) (by kernel_rfl) (by kernel_rfl) (fun _ _ _ h => h) (Or.inl ⟨by rfl, ?_⟩) (unhide HH) ?_
          rotate_left 1
          · intro W hSW; go_simp; all_goals (with_reducible rfl)
          (try simp only [Act.put, List.setIfInBounds_toArray, List.set_cons_zero, List.set_cons_succ])
          refine takeL (i := 4) (v := ?_) rfl (by kernel_rfl) (by kernel_rfl) (by kernel_rfl) (fun _ _ _ h => h) (Or.inl ⟨by rfl, ?_⟩) (unhide HH) ?_
          rotate_left 1
          · intro W hSW; go_simp; all_goals (with_reducible rfl)
          (try simp only [Act.put, List.setIfInBounds_toArray, List.set_cons_zero, List.set_cons_succ])
          refine takeL (i := 5) (v := ?_) rfl (by kernel_rfl) (by kernel_rfl) (by kernel_rfl) (fun _ _ _ h => h) (Or.inl ⟨by rfl, ?_⟩) (unhide HH) ?_
          rotate_left 1
          · intro W1 hSW; have hc := hSW.cell (unhide HCA) (by simp; omega); clear hSW; go_simp; all_goals (with_reducible rfl)
          (try simp only [Act.put, List.setIfInBounds_toArray, List.set_cons_zero, List.set_cons_succ])
          refine takeL (i := 6) (v := ?_) rfl (by kernel_rfl) (by kernel_rfl) (by kernel_rfl) (fun _ _ _ h => h) (Or.inl ⟨by rfl, ?_⟩) (unhide HH) ?_
          rotate_left 1
          · intro W hSW; go_simp; all_goals (with_reducible rfl)
          (try simp only [Act.put, List.setIfInBounds_toArray, List.set_cons_zero, List.set_cons_succ])
          refine takeL (i := 7) (v := ?_) rfl (by kernel_rfl) (by kernel_rfl) (by kernel_rfl) (fun _ _ _ h => h) (Or.inl ⟨by rfl, ?_⟩) (unhide HH) ?_
          rotate_left 1
          · intro W hSW; go_simp; all_goals (with_reducible rfl)
          (try simp only [Act.put, List.setIfInBounds_toArray, List.set_cons_zero, List.set_cons_succ])
          refine takeL (i := 8) (v := ?_) rfl (by kernel_rfl) (by kernel_rfl) (by kernel_rfl) (fun _ _ _ h => h) (Or.inl ⟨by rfl, ?_⟩) (unhide HH) ?_
          rotate_left 1
          · intro W hSW; go_simp; all_goals (with_reducible rfl)
          (try simp only [Act.put, List.setIfInBounds_toArray, List.set_cons_zero, List.set_cons_succ])
          refine takeL (i := 9) (v := ?_) rfl (by kernel_rfl) (by kernel_rfl) (by kernel_rfl) (fun _ _ _ h => h) (Or.inl ⟨by rfl, ?_⟩) (unhide HH) ?_
          rotate_left 1
          · intro W hSW; go_simp; all_goals (with_reducible rfl)
          (try simp only [Act.put, List.setIfInBounds_toArray, List.set_cons_zero, List.set_cons_succ])
          refine takeL (i := 10) (v := ?_) rfl (by kernel_rfl) (by kernel_rfl) (by kernel_rfl) (fun _ _ _ h => h) (Or.inl ⟨by rfl, ?_⟩) (unhide HH) ?_
          rotate_left 1
          · intro W hSW; go_simp; all_goals (with_reducible rfl)
          (try simp only [Act.put, List.setIfInBounds_toArray, List.set_cons_zero, List.set_cons_succ])
          refine takeL (i := 11) (v := ?_) rfl (by kernel_rfl) (by kernel_rfl) (by kernel_rfl) (fun _ _ _ h => h) (Or.inl ⟨by rfl, ?_⟩) (unhide HH) ?_
          rotate_left 1
          · intro W1 hSW; have hc := hSW.cell (unhide HCB) (by simp; omega); clear hSW; go_simp; all_goals (with_reducible rfl)
          (try simp only [Act.put, List.setIfInBounds_toArray, List.set_cons_zero, List.set_cons_succ])
          refine takeL (i := 12) (v := ?_) rfl (by kernel_rfl) (by kernel_rfl) (by kernel_rfl) (fun _ _ _ h => h) (Or.inl ⟨by rfl, ?_⟩) (unhide HH) ?_
          rotate_left 1
          · intro W hSW; go_simp; all_goals (with_reducible rfl)
          (try simp only [Act.put, List.setIfInBounds_toArray, List.set_cons_zero, List.set_cons_succ])
          refine takeL (i := 13) (v := ?_) rfl (by kernel_rfl) (by kernel_rfl) (by kernel_rfl) (fun _ _ _ h => h) (Or.inl ⟨by rfl, ?_⟩) (unhide HH) ?_
          rotate_left 1
          · intro W hSW; go_simp; all_goals (with_reducible rfl)
          (try simp only [Act.put, List.setIfInBounds_toArray, List.set_cons_zero, List.set_cons_succ])
          refine takeL (i := 14) (v := ?_) rfl (by kernel_rfl) (by kernel_rfl) (by kernel_rfl) (fun _ _ _ h => h) (Or.inl ⟨by rfl, ?_⟩) (unhide HH) ?_
          rotate_left 1
          · intro W hSW; go_simp; all_goals (with_reducible rfl)
          (try simp only [Act.put, List.setIfInBounds_toArray, List.set_cons_zero, List.set_cons_succ])
          refine takeL (i := 15) (v := ?_) rfl (by kernel_rfl) (by kernel_rfl) (by kernel_rfl) (fun _ _ _ h => h) (Or.inl ⟨by rfl, ?_⟩) (unhide HH) ?_
          rotate_left 1
          · intro W hSW; go_simp; all_goals (with_reducible rfl)
          (try simp only [Act.put, List.setIfInBounds_toArray, List.set_cons_zero, List.set_cons_succ])
          refine wpAnyH_ready (rs := [16]) (by kernel_rfl) (by simp) ?_
          refine consL rfl (fun K hK => ?_) AllReadyH.nil
          have hc4 := ((unhide HB).of (w' := wr.drew) rfl).cell (j := i) (by rw [unhide HTL]; exact hlt)
          have hf4 := ((unhide HB).of (w' := wr.drew) rfl).free (j := i)
          have HH2 := HH
          go_simp
          refine hK.out _ _ ((unhide HH2).setCell ⟨q, i, none⟩ _ (.inl (by simp))) (fun hHeld => ?_)
          clear hHeld hK K hc4 hf4
          (try simp only [Act.put, List.setIfInBounds_toArray, List.set_cons_zero, List.set_cons_succ])
          refine wpAnyH_done (by kernel_rfl) ?_ _
          refine NoPanic.normal ?_
          go_wp2_with fail
          go_roundw
          case rel =>
            refine ⟨i + 1, by go_num, by omega, fun _ => hK0, ?_, (((unhide HK).setCell (p := ⟨q, i, none⟩) h3 _)).drew⟩
            rw [unhide HT]
            refine .inr ⟨q, tc, by rw [List.length_set, unhide HTL], by rw [List.length_set, unhide HTL]; omega, h2, ?_, h3⟩
            exact ((unhide HB).set i _ (by rw [unhide HTL]; exact hlt)).of rfl
          case measure => simp [intOf]; omega
        · have hi2 : i = N := by omega
          subst hi2
          have HM : Hid (mixP a b mask (List.range i) = mixF a b mask) := by have := mixP_all (a := a) (b := b) hm; rwa [unhide HL1] at this
          go_wp2
          go_ret
          exact ⟨_, rfl, by rw [← unhide HM]; exact unhide HFR, unhide HK⟩
  · have hap : mixL a b mask = [] := if_neg hl
    rw [hap]
    have hne : (((a.length : Nat) : Int) != ((b.length : Nat) : Int)) = true := by rw [bne_iff_ne]; omega
    clear hap hl
    go_enter Try.func28, Try.ntmps28
    go_wp2_with fail
    go_ret
    exact ⟨_, rfl, .inl ⟨rfl, rfl⟩, Below.refl _ _⟩

end Go.Proofs.Ytnondiaefpdlpaa
