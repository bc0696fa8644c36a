/-
  Places that rise.
-/
import Derived.Test.YtoljplfijopcmaaN6d
namespace Go.Proofs.Ytoljplfijopcmaa
open Go.RowKit Go.Shelf

/-- Whether two differ at a place. -/
def dif (a b : List Nat) (k : Nat) : Bool := decide (bf (cf a) k ≠ bf (cf b) k)
/-- In how many of the first k places they differ. -/
def apc (a b : List Nat) (k : Nat) : Nat := ((List.range k).filter (dif a b)).length
theorem apc_succ (a b : List Nat) (k : Nat) : apc a b (k + 1) = apc a b k + (if dif a b k = true then 1 else 0) := by
  unfold apc
  rw [List.range_succ, List.filter_append, List.length_append]
  cases h : dif a b k <;> simp [h]
theorem apc_all {a b : List Nat} (hl : a.length = b.length) : apc a b (8 * a.length) = (apL a b).length := by rw [ap_eq hl]; rfl
theorem apc_le (a b : List Nat) (k : Nat) : apc a b k ≤ k := by
  unfold apc
  refine Nat.le_trans (List.length_filter_le _ _) ?_
  rw [List.length_range]
  exact Nat.le_refl _

theorem ap_split {a b : List Nat} (hl : a.length = b.length) {k : Nat} (hk : k < 8 * a.length) :
    ∃ rest, apL a b = (List.range k).filter (dif a b) ++ ((if dif a b k = true then [k] else []) ++ rest) ∧ ∀ x ∈ rest, k < x := by
  obtain ⟨m, hm⟩ : ∃ m, 8 * a.length = k + (1 + m) := ⟨8 * a.length - k - 1, by omega⟩
  refine ⟨((List.range m).map (fun i => k + (1 + i))).filter (dif a b), ?_, ?_⟩
  · rw [ap_eq hl, hm, List.range_add, List.filter_append, List.range_add, List.map_append, List.filter_append, List.map_map]
    show _ ++ _ = _ ++ _
    congr 1
    congr 1
    show List.filter (dif a b) (List.map (fun x => k + x) (List.range 1)) = _
    rw [show List.range 1 = [0] from rfl]
    cases h : dif a b k <;> simp [h]
  · intro x hx
    obtain ⟨i, _, rfl⟩ := List.mem_map.1 (List.mem_filter.1 hx).1
    omega

theorem cf_app (p q : List Nat) : cf (p ++ q) p.length = cf q 0 := by
  rw [cf_append, if_neg (by omega), Nat.sub_self]

theorem ap_yes {a b : List Nat} (hl : a.length = b.length) {k : Nat} (hk : k < 8 * a.length) (h : dif a b k = true) : apc a b k < (apL a b).length ∧ cf (apL a b) (apc a b k) = k := by
  obtain ⟨rest, h1, _⟩ := ap_split hl hk
  rw [if_pos h] at h1
  rw [h1]
  unfold apc
  refine ⟨by simp, ?_⟩
  rw [cf_app]
  rfl
theorem ap_no {a b : List Nat} (hl : a.length = b.length) {k : Nat} (hk : k < 8 * a.length) (h : dif a b k = false) : apc a b k ≤ (apL a b).length ∧ (apc a b k < (apL a b).length → cf (apL a b) (apc a b k) ≠ k) := by
  obtain ⟨rest, h1, h2⟩ := ap_split hl hk
  rw [if_neg (by simp [h]), List.nil_append] at h1
  rw [h1]
  unfold apc
  refine ⟨by simp, fun hlt => ?_⟩
  rw [cf_app]
  cases rest with
  | nil => simp at hlt
  | cons x r =>
    have := h2 x List.mem_cons_self
    show x ≠ k
    omega

end Go.Proofs.Ytoljplfijopcmaa
