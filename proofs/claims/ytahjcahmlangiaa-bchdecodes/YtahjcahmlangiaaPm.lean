/-
  poly.Mul.
-/
import Derived.Test.YtahjcahmlangiaaPs
namespace Go.Proofs.Ytahjcahmlangiaa
open Go.RowKit Go.Shelf
attribute [local go_sem] Oper.semAt_some

set_option maxRecDepth 100000 in
set_option maxHeartbeats 4000000 in
theorem mul_nought (va vb : Value) (ga gb : Nat) (a b : List Nat) (w : World) (hA : Arg w va ga a) (hB : Arg w vb gb b) (h : trim a = [] ∨ trim b = []) :
    Calls Try.prog 28 #[va, vb] w fun e w' => e = .returned (.slice none 0 0) ∧ Below w.heap.size w w' := by
  obtain ⟨⟨ao, c, rfl, hc1, hc2, hnil, hr⟩, hbs⟩ := hA
  obtain ⟨⟨bo, d, rfl, hd1, hd2, hnil2, hr2⟩, hbs2⟩ := hB
  have HR := hide hr
  have HR2 := hide hr2
  have HN := hide hnil
  have HN2 := hide hnil2
  clear hr hr2 hnil hnil2
  have hla : Hid (trim a = [] ∨ 0 < (trim a).length) := by
    by_cases e : trim a = []
    · exact .inl e
    · exact .inr (List.length_pos_iff.2 e)
  have H := hide h
  clear h
  go_enter Try.func28, Try.ntmps28
  go_wp2_with fail
  refine (numbers_any _ _).mono ?_
  rintro e w ⟨rfl, rfl⟩
  go_wp2_with fail
  refine (trimmed_any ao ga a.length c a _ rfl (unhide HR) hc1 hc2 (unhide HN)).mono ?_
  rintro e w ⟨rfl, rfl⟩
  go_wp2_with fail
  refine (numbers_any _ _).mono ?_
  rintro e w ⟨rfl, rfl⟩
  go_wp2_with fail
  refine (trimmed_any bo gb b.length d b _ rfl (unhide HR2) hd1 hd2 (unhide HN2)).mono ?_
  rintro e w ⟨rfl, rfl⟩
  have HW : Hid (Below w.heap.size w (w.alloc (.cells #[.slice bo (trim b).length d] 62))) := (Below.refl _ w).alloc (Nat.le_refl _) _
  rcases unhide hla with e | e
  · have e' : ((trim a).length : Int) = 0 := by rw [e]; rfl
    go_wp2
    go_ret
    exact ⟨rfl, unhide HW⟩
  · have e2 : trim b = [] := by
      rcases unhide H with h | h
      · rw [h] at e; simp at e
      · exact h
    have e1 : (((trim a).length : Int) == 0) = false := by rw [beq_eq_false_iff_ne]; omega
    have e' : ((trim b).length : Int) = 0 := by rw [e2]; rfl
    clear e e2
    go_wp2
    go_ret
    exact ⟨rfl, unhide HW⟩

set_option maxRecDepth 100000 in
set_option maxHeartbeats 8000000 in
theorem mul_loop (va vb : Value) (ga gb : Nat) (a b : List Nat) (w : World) (hA : Arg w va ga a) (hB : Arg w vb gb b) (ha : a.length ≤ 100000) (hb : b.length ≤ 100000) (m n : Nat) (hm : (trim a).length = m + 1) (hn : (trim b).length = n + 1) :
    Calls Try.prog 28 #[va, vb] w fun e w' => ∃ v', e = .returned v' ∧ Fr w.heap.size w' v' (trim (pmul a b)) ∧ Below w.heap.size w w' := by
  obtain ⟨⟨ao, c, rfl, hc1, hc2, hnil, hr⟩, hbs⟩ := hA
  obtain ⟨⟨bo, d, rfl, hd1, hd2, hnil2, hr2⟩, hbs2⟩ := hB
  have hla := trim_len a
  have hlb := trim_len b
  have hgb : gb < w.heap.size := hr2.block_lt (by intro e; rw [e] at hn; simp [trim] at hn)
  have hga : ga < w.heap.size := hr.block_lt (by intro e; rw [e] at hm; simp [trim] at hm)
  have HR := hide hr
  have HR2 := hide hr2
  have HNL := hide hnil
  have HNL2 := hide hnil2
  have HM := hide hm
  have HN := hide hn
  have hmb : m < 100000 := by omega
  have hnb : n < 100000 := by omega
  clear hr hr2 hnil hnil2 hla hlb
  refine (callsIn_wide (n := 3)).1 ?_
  refine callsIn_of_wp_marks Try.func28 rfl trivial ?_ rfl
  simp only [Try.ntmps28, List.size_toArray, List.length_cons, List.length_nil, Nat.reduceAdd, Nat.reduceSub, Array.replicate_succ, Array.replicate_zero, List.push_toArray, List.append_toArray, List.nil_append, List.cons_append]
  gi_wp2
  refine ⟨trivial, (callsIn_wide.2 (numbers_any _ _)).mono ?_⟩
  rintro e w ⟨rfl, rfl⟩
  gi_wp2
  refine ⟨trivial, (callsIn_wide.2 (trimmed_any ao ga a.length c a _ rfl (unhide HR) hc1 hc2 (unhide HNL))).mono ?_⟩
  rintro e w ⟨rfl, rfl⟩
  gi_wp2
  refine ⟨trivial, (callsIn_wide.2 (numbers_any _ _)).mono ?_⟩
  rintro e w ⟨rfl, rfl⟩
  gi_wp2
  refine ⟨trivial, (callsIn_wide.2 (trimmed_any bo gb b.length d b _ rfl (unhide HR2) hd1 hd2 (unhide HNL2))).mono ?_⟩
  rintro e w ⟨rfl, rfl⟩
  obtain ⟨zs, hzs⟩ : ∃ zs, (List.replicate (m + n + 1) (Value.int .u8 0)).toArray = zs := ⟨_, rfl⟩
  have hmk : ∀ W : World, (Instr.makeSlice 22 (.int .i64 ((m : Int) + 1 + ((n : Int) + 1) - 1)) (.int .i64 ((m : Int) + 1 + ((n : Int) + 1) - 1))).run Try.prog W = .ok (.slice (some ⟨W.heap.size, 0, none⟩) (m + n + 1) (m + n + 1)) (W.alloc (.cells zs 5)) := fun W => by
    have h := run_zeros (m + n + 1) (by omega) W
    rw [show ((m + n + 1 : Nat) : Int) = (m : Int) + 1 + ((n : Int) + 1) - 1 from by omega, hzs] at h
    exact h
  have HZ : Hid (∀ W : World, Blk (W.alloc (.cells zs 5)) W.heap.size (List.replicate (m + n + 1) 0)) := fun W => by rw [← hzs]; exact blk_zeros _ W
  clear hzs
  have hla0 : ((m : Int) + 1 == 0) = false := by rw [beq_eq_false_iff_ne]; omega
  have hlb0 : ((n : Int) + 1 == 0) = false := by rw [beq_eq_false_iff_ne]; omega
  gi_wp2
  have HW3 : Hid (Kp [] w (((w.alloc (.cells #[.slice bo (n + 1) d] 62)).alloc (.cells zs 5)).alloc (.cells #[.slice (some ⟨w.heap.size + 1, 0, none⟩) (m + n + 1) (m + n + 1)] 22))) := (((Kp.refl [] w).alloc _).alloc _).alloc _
  have HB3 : Hid (Blk (((w.alloc (.cells #[.slice bo (n + 1) d] 62)).alloc (.cells zs 5)).alloc (.cells #[.slice (some ⟨w.heap.size + 1, 0, none⟩) (m + n + 1) (m + n + 1)] 22)) (w.heap.size + 1) (List.replicate (m + n + 1) 0)) := by
    have h := unhide HZ (w.alloc (.cells #[.slice bo (n + 1) d] 62))
    rw [World.size_alloc] at h
    exact h.of (Below.heap_alloc _ _ _ (by simp))
  have HC6 : Hid ((((w.alloc (.cells #[.slice bo (n + 1) d] 62)).alloc (.cells zs 5)).alloc (.cells #[.slice (some ⟨w.heap.size + 1, 0, none⟩) (m + n + 1) (m + n + 1)] 22)).cell? ⟨w.heap.size, 0, none⟩ = some (.slice bo (n + 1) d)) :=
    (World.cell?_of_block ((Below.heap_alloc _ _ _ (by simp; omega)).trans (Below.heap_alloc _ _ _ (by simp)))).trans (cell_new' w _ _).1
  have HC7 : Hid ((((w.alloc (.cells #[.slice bo (n + 1) d] 62)).alloc (.cells zs 5)).alloc (.cells #[.slice (some ⟨w.heap.size + 1, 0, none⟩) (m + n + 1) (m + n + 1)] 22)).cell? ⟨w.heap.size + 1 + 1, 0, none⟩ = some (.slice (some ⟨w.heap.size + 1, 0, none⟩) (m + n + 1) (m + n + 1))) := by
    have h := (cell_new' ((w.alloc (.cells #[.slice bo (n + 1) d] 62)).alloc (.cells zs 5)) (.slice (some ⟨w.heap.size + 1, 0, none⟩) (m + n + 1) (m + n + 1)) 22).1
    rw [World.size_alloc, World.size_alloc] at h
    exact h
  refine ⟨trivial, (callsIn_wide.2 (said_any _ _ ⟨_, _, _, rfl⟩)).mono ?_⟩
  rintro e w2 ⟨b1, rfl, hcb, hb1, hb2, hk2⟩
  have hz2 := hk2.size
  simp only [World.size_alloc] at hz2 hb1
  have h12 := (unhide HW3).ofBelow hk2
  have c6 := (hk2.cell (block_lt_of_cell (unhide HC6))).trans (unhide HC6)
  have c7 := (hk2.cell (block_lt_of_cell (unhide HC7))).trans (unhide HC7)
  have hB2 := (unhide HB3).below hk2 (unhide HB3).lt
  have hra := row_trim ((unhide HR).keep h12 (by simp))
  clear hk2 HW3 HB3 HC6 HC7 HZ hmk
  obtain ⟨gP, hgP⟩ : ∃ gP, w.heap.size + 1 = gP := ⟨_, rfl⟩
  rw [hgP] at c7 hB2 hz2 hb1
  have hr2w2 := (unhide HR2).keep h12 (by simp)
  have hgPb : gb ≠ gP := by omega
  have hgPa : ga ≠ gP := by omega
  gi_wp2
  have hgPw : w.heap.size < gP := by omega
  have hgPw' : w.heap.size + 1 = gP ∧ True := ⟨hgP, trivial⟩
  clear hgP
  refine wpIn_rangeFunc_ownF rfl (by omega) (gf := 69) (lb := #[.pointer (some ⟨b1, 0, none⟩)]) rfl trivial (enters_of Try.func69 (by kernel_rfl) rfl)
    (said_stops [gP] 2 b1 w2.heap.size ao ga (m + 1) c (trim a) (unhide HM) hbs.trim (by omega) w2 hcb hra (fun _ => ⟨by omega, by simpa using hgPa⟩))
    (fun h k => h.trans k) (kq_b (Nat.le_refl _)) (Below.refl _ _) (fun _ => rfl)
    (fun pre W => Blk W gP ((pre.map it).foldl (mulF2 (trim b)) (List.replicate (m + n + 1) 0)) ∧ (W.cell? ⟨gP + 1, 0, none⟩ = some (.slice (some ⟨gP, 0, none⟩) (m + n + 1) (m + n + 1)) ∧ W.cell? ⟨w.heap.size, 0, none⟩ = some (.slice bo (n + 1) d)) ∧ Kp [gP] w2 W)
    (fun _ _ _ => False)
    (OwnFrom.and (Own.from (own_blk gP _) _) (OwnFrom.and (Own.from (fun s A B row hs hg hr => ⟨cell_kept hs.1 hg hr, cell_kept hs.2 hg hr⟩) _) (ownFrom_kp (Nat.le_refl _))))
    (fun _ _ _ _ _ hs _ _ => hs)
    ⟨hB2, ⟨c7, c6⟩, Kp.refl _ _⟩
    (fun y => { tmps := #[.slice ao a.length c, .slice bo b.length d, undef, undef, .slice none 0 0, .slice ao (m + 1) c, .pointer (some ⟨w.heap.size, 0, none⟩), .pointer (some ⟨gP + 1, 0, none⟩), .int .i64 y.1.val, .int .u8 y.2.val, .slice ao a.length c, .slice ao a.length c, .slice ao (m + 1) c, .slice bo b.length d,
          .slice bo b.length d, .slice bo (n + 1) d, .slice ao (m + 1) c, .int .i64 (↑m + 1), .bool false, .bool false, .slice bo (n + 1) d, .int .i64 (↑n + 1), .bool false, .bool false, .slice ao (m + 1) c, .int .i64 (↑m + 1),
          .slice bo (n + 1) d, .int .i64 (↑n + 1), .int .i64 (↑m + 1 + (↑n + 1)), (.int .i64 (↑m + 1 + (↑n + 1) - 1)), .slice (some ⟨gP, 0, none⟩) (m + n + 1) (m + n + 1), .slice ao (m + 1) c, .func (.func 69) #[] #[.pointer (some ⟨b1, 0, none⟩)], .int .i64 y.1.val, .int .u8 y.2.val, undef, undef, undef, undef, undef, undef, undef], defers := [] }) ?assign ?body ?done ?stop
  case assign =>
    intro l x W K hK
    gi_wp2
    exact hK
  case body =>
    replace HR2 := hide hr2w2
    clear hm hn
    rintro l pre ⟨⟨i, hi⟩, ⟨y, hy⟩⟩ W ⟨hB, ⟨hs7, hs6⟩, hKW⟩ _
    obtain ⟨s', hs'⟩ : ∃ s', (pre.map it).foldl (mulF2 (trim b)) (List.replicate (m + n + 1) 0) = s' := ⟨_, rfl⟩
    have hlen : s'.length = m + n + 1 := by rw [← hs', mulF2_len, List.length_replicate]
    have hbs' : Bs s' := by rw [← hs']; exact mulF2_bs hbs2.trim _ (Bs.zeros _)
    rw [hs'] at hB
    have HB := hide hB
    have HS7 := hide hs7
    have HS6 := hide hs6
    have HKW := hide hKW
    have HS' := hide hs'
    have hzW := hKW.size
    clear hB hs7 hs6 hKW hs'
    have hi0 : (0 : Int) ≤ (i : Int) := by omega
    have hni : ¬ (m + n + 1 = i) := by omega
    have hin : (i : Int) ≤ (m : Int) + (n : Int) + 1 := by omega
    gi_wp2
    refine wpIn_region_round (S := fun W' => Kp [gP] W W') (by kernel_rfl) (by kernel_rfl) (fun ⟨_, _, h⟩ => h) ((Kp.refl _ _).drew) (fun hHeld => ?_)
    have HH := hide hHeld
    clear hHeld
    refine takeL (i := 0) (v := ?_) rfl (by kernel_rfl) (by kernel_rfl) (by kernel_rfl) (fun _ _ _ h => h) (Or.inl ⟨by rfl, ?_⟩) (unhide HH) ?_
    rotate_left 1
    · intro W1 hSW; have hc := hSW.cell (unhide HS7) (by simp); clear hSW; go_simp; all_goals (with_reducible rfl)
    (try simp only [Act.put, List.setIfInBounds_toArray, List.set_cons_zero, List.set_cons_succ])
    refine takeL (i := 1) (v := ?_) rfl (by kernel_rfl) (by kernel_rfl) (by kernel_rfl) (fun _ _ _ h => h) (Or.inl ⟨by rfl, ?_⟩) (unhide HH) ?_
    rotate_left 1
    · intro W hSW; go_simp; all_goals (with_reducible rfl)
    (try simp only [Act.put, List.setIfInBounds_toArray, List.set_cons_zero, List.set_cons_succ])
    refine takeL (i := 2) (v := ?_) rfl (by kernel_rfl) (by kernel_rfl) (by kernel_rfl) (fun _ _ _ h => h) (Or.inl ⟨by rfl, ?_⟩) (unhide HH) ?_
    rotate_left 1
    · intro W hSW; go_simp; all_goals (with_reducible rfl)
    (try simp only [Act.put, List.setIfInBounds_toArray, List.set_cons_zero, List.set_cons_succ])
    refine takeL (i := 3) (v := ?_) rfl (by kernel_rfl) (by kernel_rfl) (by kernel_rfl) (fun _ _ _ h => h) (Or.inl ⟨by rfl, ?_⟩) (unhide HH) ?_
    rotate_left 1
    · intro W1 hSW; have hc := hSW.cell (unhide HS6) (by simp; omega); clear hSW; go_simp; all_goals (with_reducible rfl)
    (try simp only [Act.put, List.setIfInBounds_toArray, List.set_cons_zero, List.set_cons_succ])
    refine takeL (i := 4) (v := ?_) rfl (by kernel_rfl) (by kernel_rfl) (by kernel_rfl) (fun _ _ _ h => h) (Or.inl ⟨by rfl, ?_⟩) (unhide HH) ?_
    rotate_left 1
    · intro W hSW; go_simp; all_goals (with_reducible rfl)
    (try simp only [Act.put, List.setIfInBounds_toArray, List.set_cons_zero, List.set_cons_succ])
    refine wpAnyH_ready (rs := [5]) (by kernel_rfl) (by simp) ?_
    refine consL rfl (fun K hK => ?_) AllReadyH.nil
    go_simp
    refine (addTimes_any gP i (m + n + 1 - i) (m + n + 1 - i) s' bo gb (n + 1) d (trim b) y W.drew ((unhide HB).of rfl) hbs' (unhide HN) hbs2.trim (row_trim ((unhide HR2).keep (unhide HKW).drew (by simp; omega))) (fun _ => by omega) hy (by omega) (by omega) (by omega)).mono ?_
    rintro e w4 ⟨⟨v4, rfl⟩, hB4, hK4⟩
    have HB4 := hide hB4
    have HK4 : Hid (Kp [gP] W w4) := (Kp.refl [gP] W).drew.trans hK4 (fun x hx => .inl hx)
    clear hB4 hK4
    go_wp2_with fail
    refine hK.out _ _ (unhide HK4) (fun hHeld => ?_)
    clear hK K HH hHeld
    (try simp only [Act.put, List.setIfInBounds_toArray, List.set_cons_zero, List.set_cons_succ])
    refine wpAnyH_done (by kernel_rfl) ?_ _
    refine ⟨keeps_of_kp (unhide HK4) (unhide HB), kp_kq (unhide HK4) hzW, ?_, ⟨(unhide HK4).cell (unhide HS7) (by simp), (unhide HK4).cell (unhide HS6) (by simp; omega)⟩, (unhide HKW).trans (unhide HK4) (by simp)⟩
    rw [List.map_append, List.foldl_append, unhide HS']
    exact unhide HB4
  case done =>
    rintro D ys W hD hys ⟨hB, ⟨h7, _⟩, hK⟩ hKD
    rw [hys, mul_made hbs hbs2 (unhide HM) (unhide HN)] at hB
    have HB := hide hB
    have HKW := hide hK
    clear hB hK
    gi_wp2
    refine ⟨by simp, .inl ⟨_, _, rfl, run_takeDeferred hKD, ?_⟩⟩
    refine ⟨_, results_tmp rfl _ _ _, _, rfl, .inr ⟨gP, m + n + 1, ?_, ?_, ?_, (unhide HB).of (World.putObj_heap_other (by have := (unhide HB).lt; omega)), by omega⟩, ?_⟩
    · rw [trim_pmul_len hbs hbs2 (unhide HM) (unhide HN)]; rfl
    · rw [trim_pmul_len hbs hbs2 (unhide HM) (unhide HN)]; exact Nat.le_refl _
    · unfold maxLen; omega
    · have h : Kp [] w W := h12.trans (unhide HKW) (fun x hx => .inr (by simp at hx; omega))
      exact (h.grown (grownBy_putObj' _ D _) (fun k e => by cases e; exact .inr (by omega))).below
  case stop =>
    rintro D c pre W _ _ h _
    exact h.elim

theorem pmul_any (va vb : Value) (ga gb : Nat) (a b : List Nat) (w : World) (hA : Arg w va ga a) (hB : Arg w vb gb b) (ha : a.length ≤ 100000) (hb : b.length ≤ 100000) :
    Calls Try.prog 28 #[va, vb] w fun e w' => ∃ v', e = .returned v' ∧ Fr w.heap.size w' v' (trim (pmul a b)) ∧ Below w.heap.size w w' := by
  by_cases h : trim a = [] ∨ trim b = []
  · refine (mul_nought va vb ga gb a b w hA hB h).mono ?_
    rintro e w' ⟨rfl, hk⟩
    exact ⟨_, rfl, .inl ⟨pmul_nought hA.bs hB.bs h, rfl⟩, hk⟩
  · have h1 : 0 < (trim a).length := List.length_pos_iff.2 (fun e => h (.inl e))
    have h2 : 0 < (trim b).length := List.length_pos_iff.2 (fun e => h (.inr e))
    exact mul_loop va vb ga gb a b w hA hB ha hb ((trim a).length - 1) ((trim b).length - 1) (by omega) (by omega)

end Go.Proofs.Ytahjcahmlangiaa
