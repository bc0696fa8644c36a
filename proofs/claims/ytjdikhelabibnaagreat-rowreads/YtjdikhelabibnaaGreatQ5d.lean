/-
  What ramekinref5.Fix makes at its end is what Fix must make.
-/
import Derived.Test.YtjdikhelabibnaaGreatQ5c
namespace Go.Proofs.YtjdikhelabibnaaGreat
open Go.RowKit

def gA (zs : List Int) (d : Nat) : Bool := decide (0 < (lostL zs d).length) && keep zs d
def gB (zs : List Int) (d : Nat) : Bool := decide ((lostL zs d).length = 2) || (decide ((lostL zs d).length = 1) && !keep zs d)
def fin (o : List (List Nat)) (zs : List Int) (d : Nat) (P Q : List Nat) : List (List Nat) :=
  if keep zs (d + 1) = true then (if keep zs d = true then o else o.set d P) else (if keep zs d = true then o else o.set d P).set (d + 1) Q
theorem fin_get {o : List (List Nat)} {zs : List Int} {d : Nat} {P Q : List Nat} (hl : o.length = d + 2) (i : Nat) : (fin o zs d P Q).getD i [] = if i = d + 1 ∧ keep zs (d + 1) = false then Q else if i = d ∧ keep zs d = false then P else o.getD i [] := by
  have h1 : d < o.length := by omega
  have h2 : d + 1 < o.length := by omega
  have h3 : ∀ r : List Nat, d + 1 < (o.set d r).length := fun r => by rw [List.length_set]; omega
  unfold fin
  cases hd : keep zs d <;> cases he : keep zs (d + 1) <;> simp only [Bool.false_eq_true, if_false, if_true, and_true]
  · rw [getD_set (h3 P), getD_set h1]
    simp only [eq_comm (a := i)]
  · rw [getD_set h1]
    simp only [eq_comm (a := i)]
    simp
  · rw [getD_set h2]
    simp only [eq_comm (a := i)]
    simp
  · simp
theorem fin_len {o : List (List Nat)} {zs : List Int} {d : Nat} {P Q : List Nat} : (fin o zs d P Q).length = o.length := by
  unfold fin
  cases keep zs d <;> cases keep zs (d + 1) <;> simp
theorem sm_aP {o : List (List Nat)} {d k : Nat} (hb : ∀ i, Bs (o.getD i [])) : sm (fun _ => 1) o (List.range d) k = aP o d k := xsum_congr (fun i _ => gmul_one (hb i k))
theorem sm_aQ {o : List (List Nat)} {d k : Nat} (hb : ∀ i, Bs (o.getD i [])) : sm E o (List.range d) k = aQ o d k := xsum_congr (fun i _ => gmul_comm (hb i k) (E_lt i))
theorem lost_at {zs : List Int} {d : Nat} {z : Int} (hz : z ∈ zs) (h0 : 0 ≤ z) (h1 : z < (d : Int)) : z.toNat ∈ lostL zs d := lostL_mem.2 ⟨by omega, by rw [Int.toNat_of_nonneg h0]; exact hz⟩
theorem keep_mem {zs : List Int} {i : Nat} : keep zs i = false ↔ (i : Int) ∈ zs := by unfold keep; simp
theorem keep_not {zs : List Int} {i : Nat} : keep zs i = true ↔ (i : Int) ∉ zs := by unfold keep; simp
theorem gA_of {zs : List Int} {d : Nat} (hb : ∀ z ∈ zs, 0 ≤ z ∧ z < ((d + 2 : Nat) : Int)) (hk : keep zs d = true) (h : ∃ z ∈ zs, z ≠ ((d + 1 : Nat) : Int)) : gA zs d = true := by
  obtain ⟨z, hz, hne⟩ := h
  have h2 := hb z hz
  have h3 : z ≠ (d : Int) := fun e => keep_not.1 hk (by rw [← e]; exact hz)
  have h4 := lost_at (d := d) hz h2.1 (by omega)
  unfold gA
  rw [hk, Bool.and_true, decide_eq_true_eq]
  exact List.length_pos_of_mem h4
theorem gB_of {zs : List Int} {d : Nat} (hb : ∀ z ∈ zs, 0 ≤ z ∧ z < ((d + 2 : Nat) : Int)) (hnd : zs.Nodup) (hk : keep zs (d + 1) = true) (h : zs.length = 2) : gB zs d = true := by
  have hm : ∀ i ∈ lostL zs d, i < d ∧ (i : Int) ∈ zs := fun i hi => lostL_mem.1 hi
  have hl := lostL_len (zs := zs) (d := d) (by omega)
  have hn := lostL_nodup zs d
  match zs, h with
  | [a, b], _ =>
    have ha := hb a (by simp)
    have hbb := hb b (by simp)
    have hab : a ≠ b := by simpa using hnd
    have hk1 := keep_not.1 hk
    simp at hk1
    have h1 : a < (d : Int) → a.toNat ∈ lostL [a, b] d := fun h => lost_at (by simp) ha.1 h
    have h2 : b < (d : Int) → b.toNat ∈ lostL [a, b] d := fun h => lost_at (by simp) hbb.1 h
    unfold gB
    cases hkd : keep [a, b] d with
    | true =>
      have hk2 := keep_not.1 hkd
      simp at hk2
      have m1 := h1 (by omega)
      have m2 := h2 (by omega)
      match hL : lostL [a, b] d with
      | [] => rw [hL] at m1; simp at m1
      | [x] =>
        rw [hL] at m1 m2
        simp at m1 m2
        omega
      | [x, y] => simp
      | _ :: _ :: _ :: _ => rw [hL] at hl; simp at hl
    | false =>
      have hk2 := keep_mem.1 hkd
      simp at hk2
      match hL : lostL [a, b] d with
      | [] =>
        rw [hL] at h1 h2
        simp at h1 h2
        omega
      | [x] => simp
      | [x, y] => simp
      | _ :: _ :: _ :: _ => rw [hL] at hl; simp at hl

theorem fix_fin {l o : List (List Nat)} {zs : List Int} {d n : Nat} (hl : l.length = d + 2) (h2 : 2 ≤ d) (hd : d ≤ 14) (hpk : pk zs (d + 2) = true) (hsz : ∀ i, i < d + 2 → keep zs i = true → (l.getD i []).length = n) (hol : o.length = d + 2) (hrl : ∀ i, i < d + 2 → (o.getD i []).length = n) (hbs : ∀ i, Bs (o.getD i []))
    (hkp : ∀ i, i < d + 2 → keep zs i = true → o.getD i [] = l.getD i []) (hgd : ∀ c, c < n → Gd (gA zs d) (gB zs d) d o c) : IsFix l zs (fin o zs d (pP (o.take d)) (pQ (o.take d))) n ∧ (pP (o.take d)).length = n ∧ (pQ (o.take d)).length = n := by
  obtain ⟨hz2, hzb, hznd⟩ := pk_parts hpk
  obtain ⟨o1, o2, o3⟩ := take_ok hol h2 hd (fun i hi => hrl i (by omega))
  obtain ⟨bP, bQ⟩ := par_bs (l := o.take d) (fun i => by
    by_cases hi : i < d
    · rw [getD_take hi]; exact hbs i
    · rw [List.getD_eq_getElem?_getD, List.getElem?_eq_none (by rw [o3]; omega)]; exact Bs.nil)
  have eP : pP (o.take d) = smL (fun _ => 1) (o.take d) (List.range d) n := by rw [(par_of o1).1, o2, o3]
  have eQ : pQ (o.take d) = smL E (o.take d) (List.range d) n := by rw [(par_of o1).2, o2, o3]
  have lP : (pP (o.take d)).length = n := by rw [eP, smL_len]
  have lQ : (pQ (o.take d)).length = n := by rw [eQ, smL_len]
  have cP : ∀ k, k < n → cf (pP (o.take d)) k = aP o d k := fun k hk => by rw [eP, cf_smL, if_pos hk, sm_take, sm_aP hbs]
  have cQ : ∀ k, k < n → cf (pQ (o.take d)) k = aQ o d k := fun k hk => by rw [eQ, cf_smL, if_pos hk, sm_take, sm_aQ hbs]
  have hfb : ∀ i, Bs ((fin o zs d (pP (o.take d)) (pQ (o.take d))).getD i []) := fun i => by
    rw [fin_get hol]
    split
    · exact bQ
    · split
      · exact bP
      · exact hbs i
  have low : ∀ i, i < d → ∀ k, rc (fin o zs d (pP (o.take d)) (pQ (o.take d))) i k = rc o i k := fun i hi k => by
    unfold rc
    rw [fin_get hol, if_neg (fun e => by omega), if_neg (fun e => by omega)]
  have fP : ∀ k, sm (fun _ => 1) (fin o zs d (pP (o.take d)) (pQ (o.take d))) (List.range d) k = aP o d k := fun k => by
    rw [← sm_aP hbs]
    exact xsum_congr (fun i hi => by rw [low i (List.mem_range.1 hi)])
  have fQ : ∀ k, sm E (fin o zs d (pP (o.take d)) (pQ (o.take d))) (List.range d) k = aQ o d k := fun k => by
    rw [← sm_aQ hbs]
    exact xsum_congr (fun i hi => by rw [low i (List.mem_range.1 hi)])
  refine ⟨⟨by rw [fin_len, hol, hl], fun i hi => hsz i (by omega), fun i hi => ?_, fun i hi hk => ?_, hfb, fun hz k hk => ?_, fun hz k hk => ?_⟩, lP, lQ⟩
  · rw [fin_get hol]
    split
    · exact lQ
    · split
      · exact lP
      · exact hrl i (by omega)
  · rw [fin_get hol, if_neg (fun e => by rw [e.1, e.2] at hk; cases hk), if_neg (fun e => by rw [e.1, e.2] at hk; cases hk)]
    exact hkp i (by omega) hk
  · rw [hl] at hz ⊢
    rw [show d + 2 - 2 = d by omega] at hz ⊢
    rw [all_P hfb, fP]
    unfold rc
    rw [fin_get hol, if_neg (fun e => by omega)]
    cases hkd : keep zs d with
    | false => rw [if_pos ⟨rfl, rfl⟩, cP k hk, Nat.xor_self]
    | true =>
      rw [if_neg (fun e => by cases e.2)]
      have h := (hgd k hk).1 (gA_of hzb hkd hz)
      rw [h]
      exact Nat.xor_self _
  · rw [hl] at hz ⊢
    rw [show d + 2 - 2 = d by omega] at hz ⊢
    rw [all_Q hfb, fQ]
    unfold rc
    rw [fin_get hol]
    cases hke : keep zs (d + 1) with
    | false => rw [if_pos ⟨rfl, rfl⟩, cQ k hk, Nat.xor_self]
    | true =>
      rw [if_neg (fun e => by cases e.2), if_neg (fun e => by omega)]
      have h := (hgd k hk).2 (gB_of hzb hznd hke (by
        rcases hz with h | h
        · exact h
        · exact absurd h (keep_not.1 hke)))
      rw [h]
      exact Nat.xor_self _

end Go.Proofs.YtjdikhelabibnaaGreat
