/-
  What Check, and what is lost, come to.
-/
import Derived.Test.YtjdikhelabibnabGreatMan
namespace Go.Proofs.YtjdikhelabibnabGreat

theorem all_P {l : List (List Nat)} (hb : ∀ i, Bs (l.getD i [])) (d k : Nat) : sm (shP d) l (List.range (d + 2)) k = sm (fun _ => 1) l (List.range d) k ^^^ rc l d k := by
  rw [sm_next, sm_next, sm_congr (c' := fun _ => 1) (fun i hi => by have := List.mem_range.1 hi; unfold shP; rw [if_neg (by omega)])]
  have h1 : shP d d = 1 := by unfold shP; rw [if_neg (by omega)]
  have h2 : shP d (d + 1) = 0 := by unfold shP; rw [if_pos rfl]
  rw [h1, h2, gmul_zero, gmul_one (a := rc l d k) (hb d k), Nat.xor_zero]
theorem all_Q {l : List (List Nat)} (hb : ∀ i, Bs (l.getD i [])) (d k : Nat) : sm (shQ d) l (List.range (d + 2)) k = sm E l (List.range d) k ^^^ rc l (d + 1) k := by
  rw [sm_next, sm_next, sm_congr (c' := E) (fun i hi => by have := List.mem_range.1 hi; unfold shQ; rw [if_neg (by omega), if_neg (by omega)])]
  have h1 : shQ d d = 0 := by unfold shQ; rw [if_pos rfl]
  have h2 : shQ d (d + 1) = 1 := by unfold shQ; rw [if_neg (by omega), if_pos rfl]
  rw [h1, h2, gmul_zero, gmul_one (a := rc l (d + 1) k) (hb (d + 1) k), Nat.xor_zero]
theorem getD_take {l : List (List Nat)} {d i : Nat} (h : i < d) : (l.take d).getD i [] = l.getD i [] := by
  rw [List.getD_eq_getElem?_getD, List.getD_eq_getElem?_getD, List.getElem?_take, if_pos h]
theorem sm_take (c : Nat → Nat) (l : List (List Nat)) (d k : Nat) : sm c (l.take d) (List.range d) k = sm c l (List.range d) k := xsum_congr (fun i hi => by
  show gmul (rc (l.take d) i k) (c i) = _
  unfold rc
  rw [getD_take (List.mem_range.1 hi)])
theorem xor_nil {a b : Nat} : a ^^^ b = 0 ↔ a = b := by
  refine ⟨fun h => ?_, fun h => by rw [h, Nat.xor_self]⟩
  have := congrArg (· ^^^ b) h
  simpa [Nat.xor_assoc, Nat.xor_self] using this
theorem okC_parts {l : List (List Nat)} (h : okC l = true) : 4 ≤ l.length ∧ l.length ≤ 16 ∧ ∀ i, i < l.length → (l.getD i []).length = size l := by
  unfold okC at h
  rw [Bool.and_eq_true, Bool.and_eq_true, decide_eq_true_eq, decide_eq_true_eq] at h
  exact ⟨h.1.1, h.1.2, fun i hi => (evn_iff l).1 h.2 i hi⟩
theorem okC_of {l : List (List Nat)} {n s : Nat} (hl : l.length = n) (h1 : 4 ≤ n) (h2 : n ≤ 16) (hs : ∀ i, i < n → (l.getD i []).length = s) : okC l = true ∧ size l = s := by
  refine ⟨?_, hs 0 (by omega)⟩
  unfold okC
  rw [(evn_iff l).2 (evn_of (n := s) (fun i hi => hs i (by omega))), hl]
  simp
  omega
theorem take_ok {l : List (List Nat)} {d s : Nat} (hl : l.length = d + 2) (h1 : 2 ≤ d) (h2 : d ≤ 14) (hs : ∀ i, i < d → (l.getD i []).length = s) : okP (l.take d) = true ∧ size (l.take d) = s ∧ (l.take d).length = d := by
  have hlt : (l.take d).length = d := by simp; omega
  obtain ⟨a, b⟩ := okP_of hlt h1 h2 (fun i hi => by rw [getD_take hi]; exact hs i hi)
  exact ⟨a, b, hlt⟩
/-- Check by both parities. -/
theorem chk_eq {l : List (List Nat)} {d : Nat} (hl : l.length = d + 2) (hb : ∀ i, Bs (l.getD i [])) (h : okC l = true) : chk l = (decide (pP (l.take d) = l.getD d []) && decide (pQ (l.take d) = l.getD (d + 1) [])) := by
  obtain ⟨h4, h16, hs⟩ := okC_parts h
  obtain ⟨o1, o2, o3⟩ := take_ok hl (by omega) (by omega) (fun i hi => hs i (by omega))
  have e1 : nil0 (allP l) = decide (pP (l.take d) = l.getD d []) := by
    rw [Bool.eq_iff_iff, nil0_iff, decide_eq_true_eq, (par_of o1).1, o2, o3]
    unfold allP
    rw [smL_len, hl, show d + 2 - 2 = d from by omega]
    refine ⟨fun hz => eq_of_cf (by rw [smL_len, hs d (by omega)]) (fun k => ?_), fun he k hk => ?_⟩
    · rw [cf_smL]
      by_cases hk : k < size l
      · have h2 := hz k hk
        rw [cf_smL, if_pos hk, all_P hb, xor_nil] at h2
        rw [if_pos hk, sm_take]
        exact h2
      · rw [if_neg hk, cf_ge (by rw [hs d (by omega)]; omega)]
    · rw [cf_smL, if_pos hk, all_P hb, xor_nil]
      have h2 := congrArg (fun s => cf s k) he
      simp only [cf_smL, if_pos hk, sm_take] at h2
      exact h2
  have e2 : nil0 (allQ l) = decide (pQ (l.take d) = l.getD (d + 1) []) := by
    rw [Bool.eq_iff_iff, nil0_iff, decide_eq_true_eq, (par_of o1).2, o2, o3]
    unfold allQ
    rw [smL_len, hl, show d + 2 - 2 = d from by omega]
    refine ⟨fun hz => eq_of_cf (by rw [smL_len, hs (d + 1) (by omega)]) (fun k => ?_), fun he k hk => ?_⟩
    · rw [cf_smL]
      by_cases hk : k < size l
      · have h2 := hz k hk
        rw [cf_smL, if_pos hk, all_Q hb, xor_nil] at h2
        rw [if_pos hk, sm_take]
        exact h2
      · rw [if_neg hk, cf_ge (by rw [hs (d + 1) (by omega)]; omega)]
    · rw [cf_smL, if_pos hk, all_Q hb, xor_nil]
      have h2 := congrArg (fun s => cf s k) he
      simp only [cf_smL, if_pos hk, sm_take] at h2
      exact h2
  unfold chk
  rw [h, e1, e2, Bool.true_and]

end Go.Proofs.YtjdikhelabibnabGreat
