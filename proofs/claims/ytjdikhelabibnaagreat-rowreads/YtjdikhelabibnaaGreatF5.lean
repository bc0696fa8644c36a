/-
  What is made is made in one way alone.
-/
import Derived.Test.YtjdikhelabibnaaGreatS5k
namespace Go.Proofs.YtjdikhelabibnaaGreat
open Go.RowKit

theorem xsum_zero_on {f : Nat → Nat} {is js : List Nat} {N : Nat} (hp : (is ++ js).Perm (List.range N)) (h0 : ∀ i ∈ is, f i = 0) : xsum f (List.range N) = xsum f js := by
  rw [← xsum_perm hp, xsum_append, xsum_nought h0, Nat.zero_xor]
theorem shP_D (d : Nat) : shP d (d + 1) = 0 := by unfold shP; rw [if_pos rfl]
theorem shQ_D (d : Nat) : shQ d (d + 1) = 1 := by unfold shQ; rw [if_neg (by omega), if_pos rfl]

/-- What is nought wherever nothing is lost, and in both sums that count, is nought. -/
theorem supp_zero {d N : Nat} {zs : List Int} {e : Nat → Nat} (hd : d ≤ 14) (hN : N = d + 2) (hpk : pk zs N = true) (he8 : ∀ i, e i < 256) (he : ∀ i, i < N → keep zs i = true → e i = 0)
    (hp : (∃ z ∈ zs, z ≠ ((d + 1 : Nat) : Int)) → xsum (fun i => gmul (e i) (shP d i)) (List.range N) = 0)
    (hq : (zs.length = 2 ∨ ((d + 1 : Nat) : Int) ∈ zs) → xsum (fun i => gmul (e i) (shQ d i)) (List.range N) = 0) : ∀ i, i < N → e i = 0 := by
  obtain ⟨hz2, hzb, hznd⟩ := pk_parts hpk
  have hb0 : ∀ z ∈ zs, 0 ≤ z := fun z hz => (hzb z hz).1
  have hperm := all_perm (d := d) hzb hznd
  have hz : ∀ (c : Nat → Nat), (∀ i, c i < 256) → xsum (fun i => gmul (e i) (c i)) (List.range N) = xsum (fun i => gmul (e i) (c i)) (jsOf d zs) := fun c hcl =>
    xsum_zero_on hperm (fun i hi => by
      have h := List.mem_filter.1 hi
      show gmul (e i) (c i) = 0
      rw [he i (List.mem_range.1 h.1) h.2]
      exact zero_gmul (hcl i))
  have key : ∀ i ∈ jsOf d zs, e i = 0 := by
    have hnat : ∀ z ∈ inP d zs, ∃ a : Nat, z = (a : Int) ∧ a ≤ d := fun z hz => by
      obtain ⟨h1, h2⟩ := inP_mem.1 hz
      have h3 := hzb z h1
      exact ⟨z.toNat, by omega, by omega⟩
    have hl := Nat.le_trans (inP_len d zs) hz2
    by_cases hD : ((d + 1 : Nat) : Int) ∈ zs
    · match hm : inP d zs, hl, hnat with
      | [], _, _ =>
        have hjs : jsOf d zs = [d + 1] := by unfold jsOf; rw [hm, if_pos hD]; rfl
        have h1 := hq (.inr hD)
        rw [hz _ (shQ_lt d), hjs] at h1
        simp only [xsum_cons, xsum_nil, Nat.xor_zero, shQ_D, gmul_one (he8 _)] at h1
        intro i hi
        rw [hjs] at hi
        rw [List.mem_singleton.1 hi]
        exact h1
      | [z], _, hnat =>
        obtain ⟨a, rfl, ha⟩ := hnat z (by simp)
        have hjs : jsOf d zs = [a, d + 1] := by unfold jsOf; rw [hm, if_pos hD]; simp
        have h1 := hq (.inr hD)
        have h2 := hp ⟨(a : Int), (inP_mem.1 (by rw [hm]; simp)).1, by omega⟩
        rw [hz _ (shQ_lt d), hjs] at h1
        rw [hz _ (shP_lt d), hjs] at h2
        simp only [xsum_cons, xsum_nil, Nat.xor_zero, shQ_D, shP_D, gmul_zero, shP_one ha, gmul_one (he8 _)] at h1 h2
        rw [h2] at h1
        have h3 : gmul 0 (shQ d a) = 0 := zero_gmul (shQ_lt _ _)
        rw [h3, Nat.zero_xor] at h1
        intro i hi
        rw [hjs] at hi
        simp at hi
        rcases hi with rfl | rfl
        · exact h2
        · exact h1
      | [z, y], _, hnat =>
        exfalso
        have h5 : (inP d zs).length < zs.length := by
          unfold inP
          rw [← List.countP_eq_length_filter]
          refine Nat.lt_of_le_of_ne List.countP_le_length (fun e => ?_)
          have := List.countP_eq_length.1 e _ hD
          simp at this
        rw [hm] at h5
        simp at h5
        omega
      | _ :: _ :: _ :: _, hl, _ => simp at hl
    · have hin : inP d zs = zs := by
        unfold inP
        rw [List.filter_eq_self]
        intro z hz
        simp only [decide_eq_true_eq]
        intro e
        rw [e] at hz
        exact hD hz
      match hm : inP d zs, hl, hnat with
      | [], _, _ =>
        have hjs : jsOf d zs = [] := by unfold jsOf; rw [hm, if_neg hD]; rfl
        intro i hi
        rw [hjs] at hi
        simp at hi
      | [z], _, hnat =>
        obtain ⟨a, rfl, ha⟩ := hnat z (by simp)
        have hjs : jsOf d zs = [a] := by unfold jsOf; rw [hm, if_neg hD]; simp
        have h2 := hp ⟨(a : Int), (inP_mem.1 (by rw [hm]; simp)).1, by omega⟩
        rw [hz _ (shP_lt d), hjs] at h2
        simp only [xsum_cons, xsum_nil, Nat.xor_zero, shP_one ha, gmul_one (he8 _)] at h2
        intro i hi
        rw [hjs] at hi
        rw [List.mem_singleton.1 hi]
        exact h2
      | [z, y], _, hnat =>
        obtain ⟨a, rfl, ha⟩ := hnat z (by simp)
        obtain ⟨b, rfl, hb⟩ := hnat y (by simp)
        have hjs : jsOf d zs = [b, a] := by unfold jsOf; rw [hm, if_neg hD]; simp
        have hab : a ≠ b := by
          have hnd := hznd
          rw [← hin, hm] at hnd
          simp at hnd
          omega
        have h1 := hq (.inl (by rw [← hin, hm]; rfl))
        have h2 := hp ⟨(a : Int), (inP_mem.1 (by rw [hm]; simp)).1, by omega⟩
        rw [hz _ (shQ_lt d), hjs] at h1
        rw [hz _ (shP_lt d), hjs] at h2
        simp only [xsum_cons, xsum_nil, Nat.xor_zero, shP_one ha, shP_one hb, gmul_one (he8 _)] at h1 h2
        have h3 : e b = e a := xor_nil.1 h2
        rw [h3, ← gmul_xor] at h1
        have h4 : e a = 0 := by
          by_cases h0 : e a = 0
          · exact h0
          · exact absurd h1 (gmul_ne (he8 a) (xor_lt (shQ_lt _ _) (shQ_lt _ _)) h0 (shQ_ne hd hb ha (fun e => hab e.symm)))
        intro i hi
        rw [hjs] at hi
        simp at hi
        rcases hi with rfl | rfl
        · rw [h3, h4]
        · exact h4
      | _ :: _ :: _ :: _, hl, _ => simp at hl
  intro i hi
  by_cases hk : keep zs i = true
  · exact he i hi hk
  · refine key i ((jsOf_mem hb0).2 ?_)
    unfold keep at hk
    simpa using hk

theorem sm_diff {c : Nat → Nat} {x y : List (List Nat)} {is : List Nat} {k : Nat} (hc : ∀ i, c i < 256) (hx : ∀ i, Bs (x.getD i [])) (hy : ∀ i, Bs (y.getD i [])) : xsum (fun i => gmul (rc x i k ^^^ rc y i k) (c i)) is = sm c x is k ^^^ sm c y is k := by
  unfold sm
  rw [← xsum_xor]
  exact xsum_congr (fun i _ => xor_gmul (hx i k) (hy i k) (hc i))

theorem rows_eq {x y : List (List Nat)} {n : Nat} (hl : x.length = y.length) (hx : ∀ i, i < x.length → (x.getD i []).length = n) (hy : ∀ i, i < x.length → (y.getD i []).length = n) (h : ∀ i, i < x.length → ∀ k, k < n → rc x i k = rc y i k) : x = y := by
  refine getD_ext hl (fun i hi => eq_of_cf (by rw [hx i hi, hy i hi]) (fun k => ?_))
  by_cases hk : k < n
  · exact h i hi k hk
  · rw [cf_ge (by rw [hx i hi]; omega), cf_ge (by rw [hy i hi]; omega)]

theorem fix_once {l out out' : List (List Nat)} {zs : List Int} {n : Nat} (h4 : 4 ≤ l.length) (h16 : l.length ≤ 16) (hpk : pk zs l.length = true) (h : IsFix l zs out n) (h' : IsFix l zs out' n) : out = out' := by
  refine rows_eq (by rw [h.len, h'.len]) (fun i hi => h.sz i (by rw [← h.len]; exact hi)) (fun i hi => h'.sz i (by rw [← h.len]; exact hi)) (fun i hi k hk => ?_)
  rw [h.len] at hi
  refine xor_nil.1 (supp_zero (d := l.length - 2) (e := fun i => rc out i k ^^^ rc out' i k) (by omega) (by omega) hpk (fun i => xor_lt (h.bs i k) (h'.bs i k)) (fun i hi hk' => ?_) (fun hz => ?_) (fun hz => ?_) i hi)
  · show rc out i k ^^^ rc out' i k = 0
    unfold rc
    rw [h.same i hi hk', h'.same i hi hk', Nat.xor_self]
  · rw [sm_diff (shP_lt _) h.bs h'.bs, h.p hz k hk, h'.p hz k hk, Nat.xor_self]
  · rw [sm_diff (shQ_lt _) h.bs h'.bs, h.q hz k hk, h'.q hz k hk, Nat.xor_self]

theorem fixOk_parts {l : List (List Nat)} {zs : List Int} (h : fixOk l zs = true) : pk zs l.length = true ∧ 4 ≤ l.length ∧ l.length ≤ 16 := by
  unfold fixOk at h
  rw [Bool.and_eq_true, Bool.and_eq_true, Bool.and_eq_true, decide_eq_true_eq, decide_eq_true_eq] at h
  exact ⟨h.1.1.1, h.1.1.2, h.1.2⟩
theorem fixOk_of {l : List (List Nat)} {zs : List Int} {n : Nat} (hpk : pk zs l.length = true) (h4 : 4 ≤ l.length) (h16 : l.length ≤ 16) (hs : ∀ i, i < l.length → keep zs i = true → (l.getD i []).length = n) : fixOk l zs = true := by
  have he : evK l zs = true := decide_eq_true (fun i hi j hj hki hkj => by rw [hs i hi hki, hs j hj hkj])
  unfold fixOk
  rw [hpk, he, decide_eq_true h4, decide_eq_true h16]
  rfl
/-- Made again from what was made, nothing changes. -/
theorem IsFix.again {l out : List (List Nat)} {zs : List Int} {n : Nat} (h : IsFix l zs out n) : IsFix out zs out n :=
  ⟨rfl, fun i hi _ => h.sz i (by rw [← h.len]; exact hi), fun i hi => h.sz i (by rw [← h.len]; exact hi), fun _ _ _ => rfl, h.bs, by rw [h.len]; exact h.p, by rw [h.len]; exact h.q⟩
theorem IsFix.size_eq {l out out' : List (List Nat)} {zs : List Int} {n n' : Nat} (h : IsFix l zs out n) (h' : IsFix l zs out' n') (hz : zs.length ≤ 2) (h4 : 4 ≤ l.length) : n = n' := by
  obtain ⟨i, hi, hk⟩ := some_kept hz h4
  rw [← h.szl i hi hk, h'.szl i hi hk]
/-- Both sums nought: they are right. -/
theorem chk_of {x : List (List Nat)} {n : Nat} (h4 : 4 ≤ x.length) (h16 : x.length ≤ 16) (hs : ∀ i, i < x.length → (x.getD i []).length = n) (hp : ∀ k, k < n → sm (shP (x.length - 2)) x (List.range x.length) k = 0) (hq : ∀ k, k < n → sm (shQ (x.length - 2)) x (List.range x.length) k = 0) : chk x = true := by
  obtain ⟨ho, hsz⟩ := okC_of rfl h4 h16 hs
  unfold chk
  rw [ho, (nil0_iff _).2 (fun k hk => ?_), (nil0_iff _).2 (fun k hk => ?_)]
  · rfl
  · unfold allQ at hk ⊢
    rw [smL_len, hsz] at hk
    rw [cf_smL, hsz, if_pos hk]
    exact hq k hk
  · unfold allP at hk ⊢
    rw [smL_len, hsz] at hk
    rw [cf_smL, hsz, if_pos hk]
    exact hp k hk
theorem chk_parts {x : List (List Nat)} (h : chk x = true) : okC x = true ∧ (∀ k, k < size x → sm (shP (x.length - 2)) x (List.range x.length) k = 0) ∧ (∀ k, k < size x → sm (shQ (x.length - 2)) x (List.range x.length) k = 0) := by
  unfold chk at h
  rw [Bool.and_eq_true, Bool.and_eq_true] at h
  refine ⟨h.1.1, fun k hk => ?_, fun k hk => ?_⟩
  · have := (nil0_iff _).1 h.1.2 k (by unfold allP; rw [smL_len]; exact hk)
    unfold allP at this
    rwa [cf_smL, if_pos hk] at this
  · have := (nil0_iff _).1 h.2 k (by unfold allQ; rw [smL_len]; exact hk)
    unfold allQ at this
    rwa [cf_smL, if_pos hk] at this

/-- Rows with their parities. -/
def withP (l : List (List Nat)) : List (List Nat) := l ++ [pP l] ++ [pQ l]
theorem withP_len (l : List (List Nat)) : (withP l).length = l.length + 2 := by simp [withP]
theorem withP_get {l : List (List Nat)} {i : Nat} (hi : i < l.length) : (withP l).getD i [] = l.getD i [] := by
  unfold withP
  rw [getD_snoc (by simp; omega), getD_snoc hi]
theorem withP_p (l : List (List Nat)) : (withP l).getD l.length [] = pP l := by
  unfold withP
  rw [getD_snoc (by simp), getD_last]
theorem withP_q (l : List (List Nat)) : (withP l).getD (l.length + 1) [] = pQ l := by
  unfold withP
  have : l.length + 1 = (l ++ [pP l]).length := by simp
  rw [this, getD_last]
theorem withP_facts {l : List (List Nat)} {d s : Nat} (hl : l.length = d) (h2 : 2 ≤ d) (h14 : d ≤ 14) (hs : ∀ i, i < d → (l.getD i []).length = s) (hb : ∀ i, Bs (l.getD i [])) :
    (∀ i, i < d + 2 → ((withP l).getD i []).length = s) ∧ (∀ i, Bs ((withP l).getD i [])) ∧ (∀ k, k < s → sm (shP d) (withP l) (List.range (d + 2)) k = 0) ∧ (∀ k, k < s → sm (shQ d) (withP l) (List.range (d + 2)) k = 0) := by
  obtain ⟨ho, hsz⟩ := okP_of hl h2 h14 hs
  obtain ⟨e1, e2⟩ := par_of ho
  rw [hsz, hl] at e1 e2
  have hB : ∀ i, Bs ((withP l).getD i []) := fun i => by
    by_cases h : i < d
    · rw [withP_get (by omega)]; exact hb i
    · by_cases h' : i = d
      · rw [h', ← hl, withP_p]; exact (par_bs hb).1
      · by_cases h'' : i = d + 1
        · rw [h'', ← hl, withP_q]; exact (par_bs hb).2
        · rw [List.getD_eq_getElem?_getD, List.getElem?_eq_none (by rw [withP_len]; omega)]; exact Bs.nil
  have hsm : ∀ (c : Nat → Nat) (k : Nat), sm c (withP l) (List.range d) k = sm c l (List.range d) k := fun c k => xsum_congr (fun i hi => by
    have := List.mem_range.1 hi
    show gmul (rc (withP l) i k) (c i) = _
    unfold rc
    rw [withP_get (by omega)])
  refine ⟨fun i hi => ?_, hB, fun k hk => ?_, fun k hk => ?_⟩
  · by_cases h : i < d
    · rw [withP_get (by omega)]; exact hs i h
    · by_cases h' : i = d
      · rw [h', ← hl, withP_p, e1, smL_len]
      · have h'' : i = d + 1 := by omega
        rw [h'', ← hl, withP_q, e2, smL_len]
  · rw [all_P hB, hsm, xor_nil]
    unfold rc
    rw [← hl, withP_p, e1, cf_smL, if_pos hk, hl]
  · rw [all_Q hB, hsm, xor_nil]
    unfold rc
    rw [← hl, withP_q, e2, cf_smL, if_pos hk, hl]

end Go.Proofs.YtjdikhelabibnaaGreat
