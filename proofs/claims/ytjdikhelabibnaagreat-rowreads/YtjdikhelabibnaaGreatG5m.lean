/-
  Two parities by themselves: sums of rows by shares, rows that are lost are made in one way alone.
-/
import Derived.Test.YtjdikhelabibnaaGreatPolC
namespace Go.Proofs.YtjdikhelabibnaaGreat

/-- Row i's byte k. -/
def rc (l : List (List Nat)) (i k : Nat) : Nat := cf (l.getD i []) k
/-- How many times row i is in either sum, where there are d rows of data. -/
def shP (d i : Nat) : Nat := if i = d + 1 then 0 else 1
def shQ (d i : Nat) : Nat := if i = d then 0 else if i = d + 1 then 1 else E i
theorem shP_lt (d i : Nat) : shP d i < 256 := by unfold shP; split <;> omega
theorem shQ_lt (d i : Nat) : shQ d i < 256 := by
  unfold shQ
  split
  · omega
  · split
    · omega
    · exact E_lt _
/-- A sum of rows by shares, at a byte; as bytes. -/
def sm (c : Nat → Nat) (l : List (List Nat)) (is : List Nat) (k : Nat) : Nat := xsum (fun i => gmul (rc l i k) (c i)) is
def smL (c : Nat → Nat) (l : List (List Nat)) (is : List Nat) (n : Nat) : List Nat := (List.range n).map (sm c l is)

theorem cf_range (f : Nat → Nat) (n i : Nat) : cf ((List.range n).map f) i = if i < n then f i else 0 := by
  rw [← cf_getD, List.getD_eq_getElem?_getD, List.getElem?_map]
  by_cases h : i < n
  · rw [List.getElem?_range h, if_pos h]; rfl
  · rw [List.getElem?_eq_none (by simpa using h), if_neg h]; rfl
theorem smL_len (c : Nat → Nat) (l : List (List Nat)) (is : List Nat) (n : Nat) : (smL c l is n).length = n := by simp [smL]
theorem cf_smL (c : Nat → Nat) (l : List (List Nat)) (is : List Nat) (n k : Nat) : cf (smL c l is n) k = if k < n then sm c l is k else 0 := cf_range _ _ _
theorem sm_lt {c : Nat → Nat} {l : List (List Nat)} {is : List Nat} {k : Nat} (h : ∀ i, Bs (l.getD i [])) : sm c l is k < 256 := xsum_lt (fun i _ => gmul_lt (h i k))
theorem smL_bs {c : Nat → Nat} {l : List (List Nat)} {is : List Nat} {n : Nat} (h : ∀ i, Bs (l.getD i [])) : Bs (smL c l is n) := fun k => by
  rw [cf_smL]
  split
  · exact sm_lt h
  · omega
theorem smL_nil (c : Nat → Nat) (l : List (List Nat)) (n : Nat) : smL c l [] n = List.replicate n 0 := by
  refine eq_of_cf (by simp [smL]) (fun i => ?_)
  rw [cf_smL, cf_replicate]
  simp [sm]

/-- A row is added, so many times; its first k bytes. -/
def addK (s r : List Nat) (c k : Nat) : List Nat := (List.range s.length).map (fun j => if j < k then cf s j ^^^ gmul (cf r j) c else cf s j)
def addF (s r : List Nat) (c : Nat) : List Nat := (List.range s.length).map (fun j => cf s j ^^^ gmul (cf r j) c)
theorem addK_len (s r : List Nat) (c k : Nat) : (addK s r c k).length = s.length := by simp [addK]
theorem addF_len (s r : List Nat) (c : Nat) : (addF s r c).length = s.length := by simp [addF]
theorem cf_addK (s r : List Nat) (c k j : Nat) : cf (addK s r c k) j = if j < s.length then (if j < k then cf s j ^^^ gmul (cf r j) c else cf s j) else 0 := cf_range _ _ _
theorem cf_addF (s r : List Nat) (c j : Nat) : cf (addF s r c) j = if j < s.length then cf s j ^^^ gmul (cf r j) c else 0 := cf_range _ _ _
theorem addK_zero (s r : List Nat) (c : Nat) : addK s r c 0 = s := by
  refine eq_of_cf (addK_len _ _ _ _) (fun j => ?_)
  rw [cf_addK]
  by_cases h : j < s.length
  · rw [if_pos h, if_neg (by omega)]
  · rw [if_neg h, cf_ge (by omega)]
theorem addK_all {s r : List Nat} {c k : Nat} (h : s.length ≤ k) : addK s r c k = addF s r c := by
  refine eq_of_cf (by rw [addK_len, addF_len]) (fun j => ?_)
  rw [cf_addK, cf_addF]
  by_cases h' : j < s.length
  · rw [if_pos h', if_pos (by omega), if_pos h']
  · rw [if_neg h', if_neg h']
theorem addK_at {s r : List Nat} {c k : Nat} (hk : k < s.length) : cf (addK s r c k) k = cf s k := by rw [cf_addK, if_pos hk, if_neg (by omega)]
theorem addK_step {s r : List Nat} {c k : Nat} (hk : k < s.length) : (addK s r c k).set k (cf s k ^^^ gmul (cf r k) c) = addK s r c (k + 1) := by
  refine eq_of_cf (by simp [addK]) (fun j => ?_)
  rw [cf_set _ _ _ _ (by rw [addK_len]; exact hk), cf_addK, cf_addK]
  by_cases h : j = k
  · subst h; rw [if_pos rfl, if_pos hk, if_pos (by omega)]
  · rw [if_neg h]
    by_cases h' : j < s.length
    · rw [if_pos h', if_pos h']
      by_cases h2 : j < k
      · rw [if_pos h2, if_pos (by omega)]
      · rw [if_neg h2, if_neg (by omega)]
    · rw [if_neg h', if_neg h']
theorem addK_bs {s r : List Nat} {c k : Nat} (hs : Bs s) (hr : Bs r) : Bs (addK s r c k) := fun j => by
  rw [cf_addK]
  split
  · split
    · exact xor_lt (hs j) (gmul_lt (hr j))
    · exact hs j
  · omega
theorem addF_bs {s r : List Nat} {c : Nat} (hs : Bs s) (hr : Bs r) : Bs (addF s r c) := by rw [← addK_all (Nat.le_refl _)]; exact addK_bs hs hr
theorem addF_smL (c : Nat → Nat) (l : List (List Nat)) (is : List Nat) (n x : Nat) : addF (smL c l is n) (l.getD x []) (c x) = smL c l (is ++ [x]) n := by
  refine eq_of_cf (by rw [addF_len, smL_len, smL_len]) (fun j => ?_)
  rw [cf_addF, smL_len, cf_smL, cf_smL]
  by_cases h : j < n
  · rw [if_pos h, if_pos h, if_pos h]
    simp [sm, xsum_append, rc]
  · rw [if_neg h, if_neg h]

/-- All rows are of as many bytes. -/
def evn (l : List (List Nat)) : Prop := ∀ i, i < l.length → (l.getD i []).length = (l.getD 0 []).length
def size (l : List (List Nat)) : Nat := (l.getD 0 []).length
/-- Both parities. -/
def parP (l : List (List Nat)) : List Nat := smL (fun _ => 1) l (List.range l.length) (size l)
def parQ (l : List (List Nat)) : List Nat := smL E l (List.range l.length) (size l)
theorem sm_congr {c c' : Nat → Nat} {l : List (List Nat)} {is : List Nat} {k : Nat} (h : ∀ i ∈ is, c i = c' i) : sm c l is k = sm c' l is k := xsum_congr (fun i hi => by rw [h i hi])
theorem smL_congr {c c' : Nat → Nat} {l : List (List Nat)} {is : List Nat} {n : Nat} (h : ∀ i ∈ is, c i = c' i) : smL c l is n = smL c' l is n := List.map_congr_left (fun _ _ => sm_congr h)
theorem smL_parP (l : List (List Nat)) : smL (shP l.length) l (List.range l.length) (size l) = parP l := smL_congr (fun i hi => by
  have := List.mem_range.1 hi
  unfold shP
  rw [if_neg (by omega)])
theorem smL_parQ (l : List (List Nat)) : smL (shQ l.length) l (List.range l.length) (size l) = parQ l := smL_congr (fun i hi => by
  have := List.mem_range.1 hi
  unfold shQ
  rw [if_neg (by omega), if_neg (by omega)])

/-- The same, decided. -/
def evnB (l : List (List Nat)) : Bool := l.all (fun r => decide (r.length = size l))
theorem evn_iff (l : List (List Nat)) : evnB l = true ↔ evn l := by
  unfold evnB evn
  rw [List.all_eq_true]
  refine ⟨fun h i hi => ?_, fun h r hr => ?_⟩
  · rw [List.getD_eq_getElem?_getD, List.getElem?_eq_getElem hi]
    exact of_decide_eq_true (h _ (List.getElem_mem hi))
  · obtain ⟨i, hi, rfl⟩ := List.mem_iff_getElem.1 hr
    have := h i hi
    rw [List.getD_eq_getElem?_getD, List.getElem?_eq_getElem hi] at this
    exact decide_eq_true this
theorem evn_of {l : List (List Nat)} {n : Nat} (h : ∀ i, i < l.length → (l.getD i []).length = n) : evn l := fun i hi => by rw [h i hi, h 0 (by omega)]
theorem not_evn {l : List (List Nat)} {i j : Nat} (hi : i < l.length) (hj : j < l.length) (h : (l.getD i []).length ≠ (l.getD j []).length) : evnB l = false := by
  cases he : evnB l with
  | false => rfl
  | true =>
    have := (evn_iff l).1 he
    exact absurd ((this i hi).trans (this j hj).symm) h
/-- Parity, or nothing. -/
def okP (l : List (List Nat)) : Bool := decide (2 ≤ l.length) && decide (l.length ≤ 14) && evnB l
def pP (l : List (List Nat)) : List Nat := if okP l = true then parP l else []
def pQ (l : List (List Nat)) : List Nat := if okP l = true then parQ l else []
def nil0 (s : List Nat) : Bool := s.all (fun x => x == 0)
theorem nil0_iff (s : List Nat) : nil0 s = true ↔ ∀ k, k < s.length → cf s k = 0 := by
  unfold nil0
  rw [List.all_eq_true]
  refine ⟨fun h k hk => ?_, fun h x hx => ?_⟩
  · have := h _ (List.mem_of_getElem? (cf_get hk))
    simpa using this
  · obtain ⟨k, hk, rfl⟩ := List.mem_iff_getElem.1 hx
    have h1 := h k hk
    have h2 := cf_get hk
    rw [List.getElem?_eq_getElem hk] at h2
    simp at h2
    simp [h2, h1]
/-- Both sums of all rows, where the last two are parities. -/
def allP (l : List (List Nat)) : List Nat := smL (shP (l.length - 2)) l (List.range l.length) (size l)
def allQ (l : List (List Nat)) : List Nat := smL (shQ (l.length - 2)) l (List.range l.length) (size l)
/-- Check. -/
def okC (l : List (List Nat)) : Bool := decide (4 ≤ l.length) && decide (l.length ≤ 16) && evnB l
def chk (l : List (List Nat)) : Bool := okC l && nil0 (allP l) && nil0 (allQ l)

end Go.Proofs.YtjdikhelabibnaaGreat
