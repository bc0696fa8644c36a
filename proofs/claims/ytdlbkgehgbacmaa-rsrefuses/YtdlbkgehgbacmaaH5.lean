/-
  The laws' own known, Few, same.
-/
import Derived.Test.YtdlbkgehgbacmaaS5e
import Derived.Test.YtdlbkgehgbacmaaRw5
namespace Go.Proofs.Ytdlbkgehgbacmaa
open Go.RowKit

theorem blk_one (w : World) (x : Nat) : Blk (w.alloc (.cells #[.int .u8 (x : Int)] 5)) w.heap.size [x] :=
  ⟨_, World.alloc_heap_new w _, fun j hj => by
    have : j = 0 := by simpa using hj
    subst this
    rfl⟩
theorem arg_one (w : World) (x : Nat) (hx : x < 256) : Arg (w.alloc (.cells #[.int .u8 (x : Int)] 5)) (.slice (some ⟨w.heap.size, 0, none⟩) 1 1) w.heap.size [x] :=
  (blk_one w x).arg (c := 1) (Bs.cons hx Bs.nil) (by simp) (by unfold maxLen; omega)

theorem known_rows (w : World) (W : World) (hW : ((w.alloc (.cells #[.int .u8 1] 5)).alloc (.cells #[.int .u8 2] 5)).alloc (.cells #[.slice (some ⟨w.heap.size, 0, none⟩) 1 1, .slice (some ⟨w.heap.size + 1, 0, none⟩) 1 1] 22) = W) :
    RArg W (.slice (some ⟨w.heap.size + 1 + 1, 0, none⟩) 2 2) (w.heap.size + 1 + 1) (psA [(some ⟨w.heap.size, 0, none⟩, 1), (some ⟨w.heap.size + 1, 0, none⟩, 1)]) (psC [(some ⟨w.heap.size, 0, none⟩, 1), (some ⟨w.heap.size + 1, 0, none⟩, 1)]) [[1], [2]] ∧ Below w.heap.size w W := by
  subst hW
  refine ⟨⟨⟨_, 2, rfl, by simp, by unfold maxLen; omega, (fun h => by cases h), .inr ⟨0, rfl, fun j hj => ?_⟩⟩, fun i hi => ?_⟩, (((Below.refl _ w).alloc (Nat.le_refl _) _).alloc (by simp) _).alloc (by simp only [World.size_alloc]; omega) _⟩
  · have h := World.alloc_heap_new ((w.alloc (.cells #[.int .u8 1] 5)).alloc (.cells #[.int .u8 2] 5)) (.cells #[.slice (some ⟨w.heap.size, 0, none⟩) 1 1, .slice (some ⟨w.heap.size + 1, 0, none⟩) 1 1] 22)
    rw [World.size_alloc, World.size_alloc] at h
    have hj2 : j = 0 ∨ j = 1 := by simp at hj; omega
    rcases hj2 with rfl | rfl
    · unfold World.cell?; rw [h]; rfl
    · unfold World.cell?; rw [h]; rfl
  · have hi2 : i = 0 ∨ i = 1 := by simp at hi; omega
    rcases hi2 with rfl | rfl
    · exact ⟨_, ((arg_one w 1 (by omega)).below ((Below.refl _ _).alloc (Nat.le_refl _) _)).below ((Below.refl _ _).alloc (Nat.le_refl _) _)⟩
    · have h := arg_one (w.alloc (.cells #[.int .u8 1] 5)) 2 (by omega)
      rw [World.size_alloc] at h
      exact ⟨_, h.below ((Below.refl _ _).alloc (Nat.le_refl _) _)⟩
theorem known_par : pP [[1], [2]] = [3] ∧ pQ [[1], [2]] = [5] := by decide +kernel

theorem Fr.one {n : Nat} {w : World} {v : Value} {x : Nat} (h : Fr n w v [x]) : ∃ g c, v = .slice (some ⟨g, 0, none⟩) 1 c ∧ w.cell? ⟨g, 0, none⟩ = some (.int .u8 (x : Int)) := by
  obtain ⟨g, c, h1, _, _, h2, _⟩ := h.blk (by simp)
  exact ⟨g, c, h1, h2.cell (j := 0) (by simp)⟩

set_option maxRecDepth 100000 in
set_option maxHeartbeats 2000000 in
theorem known_any (w : World) : Calls Try.prog 9 #[] w fun e w' => e = .returned (.bool true) ∧ Below w.heap.size w w' := by
  obtain ⟨W, hW⟩ : ∃ W, ((w.alloc (.cells #[.int .u8 1] 5)).alloc (.cells #[.int .u8 2] 5)).alloc (.cells #[.slice (some ⟨w.heap.size, 0, none⟩) 1 1, .slice (some ⟨w.heap.size + 1, 0, none⟩) 1 1] 22) = W := ⟨_, rfl⟩
  obtain ⟨h1, h2⟩ := known_rows w W hW
  have H1 := hide h1
  have H2 := hide h2
  clear h1 h2
  go_enter Try.func9, Try.ntmps9
  go_wp2_with fail
  refine (parity_any _ _ _ _ _ _ (unhide H1) (fun i => by
    match i with
    | 0 => simp
    | 1 => simp
    | (k + 2) => simp)).mono ?_
  rintro e w2 ⟨v1, v2, rfl, hP, hQ, hk⟩
  rw [known_par.1] at hP
  rw [known_par.2] at hQ
  obtain ⟨g1, c1, rfl, e1⟩ := hP.one
  obtain ⟨g2, c2, rfl, e2⟩ := hQ.one
  have HB := hide ((unhide H2).trans (hk.mono (unhide H2).size))
  clear hP hQ hk
  go_wp2
  go_ret
  exact ⟨rfl, unhide HB⟩

/-- Rows that are not too much. -/
def few (l : List (List Nat)) : Bool := l.all (fun r => decide (r.length ≤ 60)) && decide (l.length ≤ 20)
theorem few_len {l : List (List Nat)} (h : few l = true) : l.length ≤ 20 ∧ ∀ i, (l.getD i []).length ≤ 100000 := by
  unfold few at h
  rw [Bool.and_eq_true, List.all_eq_true] at h
  refine ⟨of_decide_eq_true h.2, fun i => ?_⟩
  rw [List.getD_eq_getElem?_getD]
  by_cases hi : i < l.length
  · rw [List.getElem?_eq_getElem hi]
    have := of_decide_eq_true (h.1 _ (List.getElem_mem hi))
    simp
    omega
  · rw [List.getElem?_eq_none (by omega)]
    simp

set_option maxRecDepth 100000 in
set_option maxHeartbeats 2000000 in
theorem few_any (v : Value) (G : Nat) (A : Nat → Option Addr) (C : Nat → Nat) (l : List (List Nat)) (w : World) (hA : RArg w v G A C l) :
    Calls Try.prog 10 #[v] w fun e w' => e = .returned (.bool (few l)) ∧ w' = w := by
  obtain ⟨ao, c, hv, hc1, hc2, hnil, hrow⟩ := hA.ex
  have HROW := hide hrow
  clear hrow hA hnil
  subst hv
  obtain ⟨N, hN⟩ : ∃ N, l.length = N := ⟨_, rfl⟩
  rw [hN] at hc1 HROW ⊢
  have HN := hide hN
  clear hN
  have hNm : (N : Int) ≤ 9223372036854775807 := by unfold maxLen at hc2; omega
  go_enter Try.func10, Try.ntmps10
  go_wp2_with fail
  go_loop [3] (fun p => ∃ i : Nat, p = .int .i64 i ∧ i ≤ N ∧ ∀ k, k < i → (l.getD k []).length ≤ 60) (fun p => N - (intOf p).toNat)
  case atStart => exact ⟨0, rfl, by omega, by omega⟩
  case round =>
    obtain ⟨i, rfl, hi, hz⟩ := hrel
    have HZ := hide hz
    clear hz
    by_cases hlt : i < N
    · have hi1 : (i : Int) < (N : Int) := by omega
      obtain ⟨o, rfl, hcl⟩ := (unhide HROW).at (by omega)
      have hc := hcl i hlt
      obtain ⟨m, hm⟩ : ∃ m, (l.getD i []).length = m := ⟨_, rfl⟩
      rw [hm] at hc
      have HM := hide hm
      clear hcl hm
      by_cases h60 : m ≤ 60
      · have h61 : (m : Int) ≤ 60 := by omega
        go_wp2_with fail
        go_round
        case rel => exact ⟨i + 1, by go_num, by omega, fun k hk => by
          by_cases e : k = i
          · rw [e, unhide HM]; exact h60
          · exact unhide HZ k (by omega)⟩
        case measure => simp [intOf]; omega
      · have h61 : (60 : Int) < (m : Int) := by omega
        go_wp2_with fail
        go_ret
        refine ⟨?_, rfl⟩
        have : few l = false := by
          unfold few
          rw [Bool.and_eq_false_iff]
          left
          rw [List.all_eq_false]
          have hil : i < l.length := by rw [unhide HN]; exact hlt
          refine ⟨l[i], List.getElem_mem hil, ?_⟩
          have h := unhide HM
          rw [List.getD_eq_getElem?_getD, List.getElem?_eq_getElem hil] at h
          simp at h
          simp
          omega
        rw [this]
        rfl
    · have hi2 : i = N := by omega
      subst hi2
      have HF : Hid (few l = decide ((i : Int) ≤ 20)) := by
        show _ = _
        unfold few
        have h : l.all (fun r => decide (r.length ≤ 60)) = true := by
          rw [List.all_eq_true]
          intro r hr
          obtain ⟨k, hk, rfl⟩ := List.mem_iff_getElem.1 hr
          have h := unhide HZ k (by rw [← unhide HN]; exact hk)
          rw [List.getD_eq_getElem?_getD, List.getElem?_eq_getElem hk] at h
          simpa using h
        rw [h, unhide HN, Bool.true_and]
        exact decide_eq_decide.2 (by omega)
      go_wp2_with fail
      go_ret
      rw [unhide HF]
      exact ⟨by simp, rfl⟩

theorem getD_ext {a b : List (List Nat)} (hl : a.length = b.length) (h : ∀ i, i < a.length → a.getD i [] = b.getD i []) : a = b := by
  apply List.ext_getElem hl
  intro i h1 h2
  have := h i h1
  rw [List.getD_eq_getElem?_getD, List.getD_eq_getElem?_getD, List.getElem?_eq_getElem h1, List.getElem?_eq_getElem h2] at this
  exact this

set_option maxRecDepth 100000 in
set_option maxHeartbeats 4000000 in
theorem same_any (v v' : Value) (G G' : Nat) (A A' : Nat → Option Addr) (C C' : Nat → Nat) (l l' : List (List Nat)) (w : World) (hA : RArg w v G A C l) (hA' : RArg w v' G' A' C' l') :
    Calls Try.prog 19 #[v, v'] w fun e w' => e = .returned (.bool (decide (l = l'))) ∧ Below w.heap.size w w' := by
  obtain ⟨ao, c, hv, hc1, hc2, hnil, hrow⟩ := hA.ex
  obtain ⟨ao', c', hv', hc1', hc2', hnil', hrow'⟩ := hA'.ex
  have HA := hide hA
  have HA' := hide hA'
  have HROW := hide hrow
  have HROW' := hide hrow'
  clear hrow hA hnil hrow' hA' hnil'
  subst hv
  subst hv'
  obtain ⟨N, hN⟩ : ∃ N, l.length = N := ⟨_, rfl⟩
  obtain ⟨N', hN'⟩ : ∃ N, l'.length = N := ⟨_, rfl⟩
  rw [hN] at hc1 HROW ⊢
  rw [hN'] at hc1' HROW' ⊢
  have HN := hide hN
  have HN' := hide hN'
  clear hN hN'
  have hNm : (N : Int) ≤ 9223372036854775807 := by unfold maxLen at hc2; omega
  by_cases hne : N = N'
  rotate_left 1
  · have h1 : ((N : Int) != (N' : Int)) = true := by rw [bne_iff_ne]; omega
    have HD : Hid (decide (l = l') = false) := by show _ = _; rw [decide_eq_false_iff_not]; intro e; apply hne; rw [← unhide HN, ← unhide HN', e]
    clear hne
    go_enter Try.func19, Try.ntmps19
    go_wp2_with fail
    go_ret
    rw [unhide HD]
    exact ⟨rfl, Below.refl _ _⟩
  subst hne
  have h1 : ((N : Int) != (N : Int)) = false := by simp
  go_enter Try.func19, Try.ntmps19
  go_wp2_with fail
  clear h1
  go_loopw [5] (fun p wr => ∃ i : Nat, p = .int .i64 i ∧ i ≤ N ∧ (∀ k, k < i → l.getD k [] = l'.getD k []) ∧ Below w.heap.size w wr) (fun p _ => N - (intOf p).toNat)
  case atStart => exact ⟨0, rfl, by omega, by omega, Below.refl _ _⟩
  case round =>
    obtain ⟨i, rfl, hi, hz, hK⟩ := hrel
    have HZ := hide hz
    have HK := hide hK
    clear hz hK
    by_cases hlt : i < N
    · have hi1 : (i : Int) < (N : Int) := by omega
      obtain ⟨o, rfl, hcl⟩ := ((unhide HROW).below (unhide HK)).at (by omega)
      have hc := hcl i hlt
      obtain ⟨o', rfl, hcl'⟩ := ((unhide HROW').below (unhide HK)).at (by omega)
      have hc' := hcl' i hlt
      obtain ⟨g, hg⟩ := (unhide HA).rows i (by rw [unhide HN]; exact hlt)
      obtain ⟨g', hg'⟩ := (unhide HA').rows i (by rw [unhide HN']; exact hlt)
      have hcv := fun m => conv_arg (hg.below (below_drewN (unhide HK) m))
      have hcv' := fun m => conv_arg (hg'.below (below_drewN (unhide HK) m))
      have hb1 := hg.bs
      have hb2 := hg'.bs
      obtain ⟨r, hr⟩ : ∃ r, l.getD i [] = r := ⟨_, rfl⟩
      obtain ⟨r', hr'⟩ : ∃ r, l'.getD i [] = r := ⟨_, rfl⟩
      rw [hr] at hcv hb1
      rw [hr'] at hcv' hb2
      rw [hr] at hc
      rw [hr'] at hc'
      have HR := hide hr
      have HR' := hide hr'
      clear hg hg' hcl hcl' hr hr'
      by_cases he : r = r'
      · have HE := hide he
        subst he
        clear hb1 hb2
        go_wp2_with fail
        go_quiet (fail)
        go_wp2_with fail
        go_roundw
        case rel => exact ⟨i + 1, by go_num, by omega, fun k hk => by
          by_cases e : k = i
          · rw [e, unhide HR, unhide HR']
          · exact unhide HZ k (by omega), below_drewN (unhide HK) _⟩
        case measure => simp [intOf]; omega
      · have hs := str_ne hb1 hb2 he
        have HD : Hid (decide (l = l') = false) := by show _ = _; rw [decide_eq_false_iff_not]; intro e; apply he; rw [← unhide HR, ← unhide HR', e]
        clear hb1 hb2 he
        go_wp2_with fail
        go_quiet (fail)
        go_wp2_with fail
        go_ret
        rw [unhide HD]
        exact ⟨rfl, below_drewN (unhide HK) _⟩
    · have hi2 : i = N := by omega
      subst hi2
      have HD : Hid (decide (l = l') = true) := by show _ = _; rw [decide_eq_true_iff]; exact getD_ext (by rw [unhide HN, unhide HN']) (fun k hk => unhide HZ k (by rw [← unhide HN]; exact hk))
      go_wp2_with fail
      go_ret
      rw [unhide HD]
      exact ⟨rfl, unhide HK⟩

end Go.Proofs.Ytdlbkgehgbacmaa
