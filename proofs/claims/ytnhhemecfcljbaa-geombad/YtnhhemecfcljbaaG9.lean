/-
  Superblocks by themselves: the good blocks of a die, the ranks of dies.
-/
import Derived.Test.YtnhhemecfcljbaaI7
namespace Go.Proofs.Ytnhhemecfcljbaa

/-- The blocks of a die that are not bad, rising. -/
def gdL (d : Int) (B : Nat) (bad : List (Int × Int)) : List Nat := (List.range B).filter fun b => !decide ((d, (b : Int)) ∈ bad)
theorem gdL_mem {d : Int} {B : Nat} {bad : List (Int × Int)} {b : Nat} : b ∈ gdL d B bad ↔ b < B ∧ (d, (b : Int)) ∉ bad := by
  unfold gdL
  rw [List.mem_filter, List.mem_range]
  constructor
  · rintro ⟨h1, h2⟩; exact ⟨h1, by simpa using h2⟩
  · rintro ⟨h1, h2⟩; exact ⟨h1, by simpa using h2⟩
theorem gdL_len (d : Int) (B : Nat) (bad : List (Int × Int)) : (gdL d B bad).length ≤ B := by
  unfold gdL
  exact Nat.le_trans (List.length_filter_le _ _) (by simp)
theorem gdL_sorted (d : Int) (B : Nat) (bad : List (Int × Int)) : (gdL d B bad).Pairwise (· < ·) := List.Pairwise.filter _ List.pairwise_lt_range
theorem gdL_lt {d : Int} {B : Nat} {bad : List (Int × Int)} : ∀ b ∈ gdL d B bad, b < B := fun _ h => (gdL_mem.1 h).1
theorem gdL_succ (d : Int) (B : Nat) (bad : List (Int × Int)) : gdL d (B + 1) bad = gdL d B bad ++ (if (d, (B : Int)) ∈ bad then [] else [B]) := by
  unfold gdL
  rw [List.range_succ, List.filter_append]
  by_cases h : (d, (B : Int)) ∈ bad
  · rw [if_pos h]; simp [h]
  · rw [if_neg h]; simp [h]

/-- All dies' good blocks. -/
def dieL (D B : Nat) (bad : List (Int × Int)) : List (List Nat) := (List.range D).map fun (d : Nat) => gdL (d : Int) B bad
theorem dieL_len (D B : Nat) (bad : List (Int × Int)) : (dieL D B bad).length = D := by simp [dieL]
theorem dieL_get {D B : Nat} {bad : List (Int × Int)} {d : Nat} (h : d < D) : (dieL D B bad)[d]? = some (gdL (d : Int) B bad) := by
  unfold dieL
  rw [List.getElem?_map, List.getElem?_range h]
  rfl
theorem dieL_getD {D B : Nat} {bad : List (Int × Int)} {d : Nat} (h : d < D) : (dieL D B bad).getD d [] = gdL (d : Int) B bad := by
  rw [List.getD_eq_getElem?_getD, dieL_get h]
  rfl
theorem dieL_succ (D B : Nat) (bad : List (Int × Int)) : dieL (D + 1) B bad = dieL D B bad ++ [gdL (D : Int) B bad] := by
  unfold dieL
  rw [List.range_succ, List.map_append]
  rfl

/-- As many as the shortest has, B at most. -/
def mnL (B : Nat) (ls : List (List Nat)) : Nat := ls.foldl (fun m l => min m l.length) B
theorem mnL_snoc (B : Nat) (ls : List (List Nat)) (l : List Nat) : mnL B (ls ++ [l]) = min (mnL B ls) l.length := by simp [mnL]
theorem mnL_spec (ls : List (List Nat)) : ∀ B : Nat, (mnL B ls ≤ B ∧ ∀ l ∈ ls, mnL B ls ≤ l.length) ∧ (mnL B ls = B ∨ ∃ l ∈ ls, l.length = mnL B ls) := by
  induction ls with
  | nil => intro B; exact ⟨⟨Nat.le_refl _, fun l h => by cases h⟩, .inl rfl⟩
  | cons l ls ih =>
    intro B
    have e : mnL B (l :: ls) = mnL (min B l.length) ls := rfl
    obtain ⟨⟨h1, h2⟩, h3⟩ := ih (min B l.length)
    rw [e]
    refine ⟨⟨by omega, fun x hx => ?_⟩, ?_⟩
    · rcases List.mem_cons.1 hx with rfl | hx
      · omega
      · exact h2 x hx
    · rcases h3 with h3 | ⟨x, hx, h3⟩
      · by_cases hb : B ≤ l.length
        · left; omega
        · exact .inr ⟨l, List.mem_cons_self .., by omega⟩
      · exact .inr ⟨x, List.mem_cons_of_mem _ hx, h3⟩
theorem mnL_le (B : Nat) (ls : List (List Nat)) : mnL B ls ≤ B := (mnL_spec ls B).1.1
theorem mnL_le_mem {B : Nat} {ls : List (List Nat)} {l : List Nat} (h : l ∈ ls) : mnL B ls ≤ l.length := (mnL_spec ls B).1.2 l h

/-- The i-th items of all lists. -/
def rk9 (ls : List (List Nat)) (i : Nat) : List Nat := ls.map fun l => cf l i
theorem rk9_len (ls : List (List Nat)) (i : Nat) : (rk9 ls i).length = ls.length := by simp [rk9]
/-- The first n ranks. -/
def rks9 (ls : List (List Nat)) (n : Nat) : List (List Nat) := (List.range n).map fun i => rk9 ls i
theorem rks9_len (ls : List (List Nat)) (n : Nat) : (rks9 ls n).length = n := by simp [rks9]
theorem rks9_getD {ls : List (List Nat)} {n i : Nat} (h : i < n) : (rks9 ls n).getD i [] = rk9 ls i := by
  unfold rks9
  rw [List.getD_eq_getElem?_getD, List.getElem?_map, List.getElem?_range h]
  rfl
theorem rks9_succ (ls : List (List Nat)) (n : Nat) : rks9 ls (n + 1) = rks9 ls n ++ [rk9 ls n] := by
  unfold rks9
  rw [List.range_succ, List.map_append]
  rfl

/-- The superblocks. -/
def sup9 (D B : Nat) (bad : List (Int × Int)) : List (List Nat) := rks9 (dieL D B bad) (mnL B (dieL D B bad))
/-- How many there are. -/
def sn9 (D B : Nat) (bad : List (Int × Int)) : Nat := mnL B (dieL D B bad)
theorem sup9_len (D B : Nat) (bad : List (Int × Int)) : (sup9 D B bad).length = sn9 D B bad := rks9_len _ _
theorem sn9_le (D B : Nat) (bad : List (Int × Int)) : sn9 D B bad ≤ B := mnL_le _ _
theorem sn9_le_die {D B : Nat} {bad : List (Int × Int)} {d : Nat} (h : d < D) : sn9 D B bad ≤ (gdL (d : Int) B bad).length := mnL_le_mem (List.mem_iff_getElem?.2 ⟨d, dieL_get h⟩)
theorem sn9_ex (D B : Nat) (bad : List (Int × Int)) : sn9 D B bad = B ∨ ∃ d, d < D ∧ (gdL (d : Int) B bad).length = sn9 D B bad := by
  rcases (mnL_spec (dieL D B bad) B).2 with h | ⟨l, hl, h⟩
  · exact .inl h
  · obtain ⟨d, hd⟩ := List.mem_iff_getElem?.1 hl
    have h1 : d < D := by
      have := (List.getElem?_eq_some_iff.1 hd).1
      rwa [dieL_len] at this
    rw [dieL_get h1] at hd
    exact .inr ⟨d, h1, by rw [Option.some.inj hd]; exact h⟩
theorem sup9_row {D B : Nat} {bad : List (Int × Int)} {i : Nat} (h : i < sn9 D B bad) : (sup9 D B bad).getD i [] = rk9 (dieL D B bad) i := rks9_getD h
theorem rk9_cf {D B : Nat} {bad : List (Int × Int)} {i d : Nat} (h : d < D) : cf (rk9 (dieL D B bad) i) d = cf (gdL (d : Int) B bad) i := by
  have h1 : d < (rk9 (dieL D B bad) i).length := by rw [rk9_len, dieL_len]; exact h
  have h2 := cf_get h1
  unfold rk9 at h2
  rw [List.getElem?_map, dieL_get h] at h2
  exact (Option.some.inj h2).symm

/-- An item of a list of good blocks: none that is bad, beyond that ahead of it. -/
theorem gd_at {d : Int} {B : Nat} {bad : List (Int × Int)} {i : Nat} (h : i < (gdL d B bad).length) : cf (gdL d B bad) i < B ∧ (d, ((cf (gdL d B bad) i : Nat) : Int)) ∉ bad := gdL_mem.1 (List.mem_iff_getElem?.2 ⟨i, cf_get h⟩)
theorem gd_rise {d : Int} {B : Nat} {bad : List (Int × Int)} {i : Nat} (h : i + 1 < (gdL d B bad).length) : cf (gdL d B bad) i < cf (gdL d B bad) (i + 1) := by
  have hs := gdL_sorted d B bad
  rw [List.pairwise_iff_getElem] at hs
  have h1 := cf_get (show i < (gdL d B bad).length by omega)
  have h2 := cf_get h
  rw [List.getElem?_eq_getElem (by omega)] at h1 h2
  have := hs i (i + 1) (by omega) h (by omega)
  rw [Option.some.inj h1, Option.some.inj h2] at this
  exact this
/-- With one bad block at most, there is one fewer at most. -/
theorem gd_least {d : Int} {bad : List (Int × Int)} (h : ∀ b b' : Nat, (d, (b : Int)) ∈ bad → (d, (b' : Int)) ∈ bad → b = b') : ∀ n : Nat, n - 1 ≤ (gdL d n bad).length ∧ ((∀ b : Nat, b < n → (d, (b : Int)) ∉ bad) → (gdL d n bad).length = n) := by
  intro n
  induction n with
  | zero => exact ⟨Nat.zero_le _, fun _ => rfl⟩
  | succ n ih =>
    rw [gdL_succ]
    by_cases hn : (d, (n : Int)) ∈ bad
    · rw [if_pos hn, List.append_nil]
      refine ⟨?_, fun h2 => absurd hn (h2 n (by omega))⟩
      have := ih.2 (fun b hb hm => by have := h b n hm hn; omega)
      omega
    · rw [if_neg hn, List.length_append]
      refine ⟨by simp; omega, fun h2 => ?_⟩
      rw [ih.2 (fun b hb => h2 b (by omega))]
      rfl

end Go.Proofs.Ytnhhemecfcljbaa
