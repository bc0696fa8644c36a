/-
  Bits of bytes by themselves: which are 1, where two differ, turned, mixed.
-/
import Derived.Test.YtjdikhelabibnabGreatBa
namespace Go.Proofs.YtjdikhelabibnabGreat
open Go.RowKit Go.Shelf

/-- The bit at place k of a byte. -/
def bt (x k : Nat) : Nat := x / 2 ^ k % 2
theorem bt_le (x k : Nat) : bt x k ≤ 1 := by unfold bt; omega
theorem bt_test (x k : Nat) : bt x k = (x.testBit k).toNat := by
  unfold bt
  rw [Nat.testBit_eq_decide_div_mod_eq]
  rcases Nat.mod_two_eq_zero_or_one (x / 2 ^ k) with h | h <;> simp [h]
theorem bt_xor (x y k : Nat) : bt (x ^^^ y) k = bt x k ^^^ bt y k := by
  rw [bt_test, bt_test, bt_test, Nat.testBit_xor]
  cases x.testBit k <;> cases y.testBit k <;> rfl
theorem bt_ext {x y : Nat} (hx : x < 256) (hy : y < 256) (h : ∀ k, k < 8 → bt x k = bt y k) : x = y := by
  apply Nat.eq_of_testBit_eq
  intro k
  by_cases hk : k < 8
  · have := h k hk
    rw [bt_test, bt_test] at this
    cases h1 : x.testBit k <;> cases h2 : y.testBit k <;> simp [h1, h2] at this <;> rfl
  · rw [Nat.testBit_lt_two_pow (Nat.lt_of_lt_of_le hx (Nat.pow_le_pow_right (n := 2) (by omega) (show 8 ≤ k by omega))), Nat.testBit_lt_two_pow (Nat.lt_of_lt_of_le hy (Nat.pow_le_pow_right (n := 2) (by omega) (show 8 ≤ k by omega)))]

/-- Bit k of the bytes that f tells. -/
def bf (f : Nat → Nat) (k : Nat) : Nat := bt (f (k / 8)) (k % 8)
/-- The places of the ones among the first n bytes. -/
def onF (f : Nat → Nat) (n : Nat) : List Nat := (List.range (8 * n)).filter (fun k => bf f k == 1)

def eight8 : List (Fin 8) := [0, 1, 2, 3, 4, 5, 6, 7]
theorem eight_take : ∀ j : Fin 8, eight8.take (j.val + 1) = eight8.take j.val ++ [j] := by decide
theorem eight_val : eight8.map Fin.val = List.range 8 := by decide

/-- What the first j bits of a byte tell. -/
def hitF (f : Nat → Nat) {N : Nat} (j : Nat) (i : Fin N) : List (Fin N × Fin 8) := ((eight8.take j).filter (fun k => bt (f i.val) k.val == 1)).map (fun k => (i, k))
theorem hitF_zero (f : Nat → Nat) {N : Nat} (i : Fin N) : hitF f 0 i = [] := rfl
theorem hitF_one {f : Nat → Nat} {N j : Nat} {i : Fin N} (hj : j < 8) (h : bt (f i.val) j = 1) : hitF f (j + 1) i = hitF f j i ++ [(i, ⟨j, hj⟩)] := by
  unfold hitF
  rw [eight_take ⟨j, hj⟩, List.filter_append, List.map_append]
  simp [h]
theorem hitF_none {f : Nat → Nat} {N j : Nat} {i : Fin N} (hj : j < 8) (h : bt (f i.val) j = 0) : hitF f (j + 1) i = hitF f j i := by
  unfold hitF
  rw [eight_take ⟨j, hj⟩, List.filter_append, List.map_append]
  simp [h]
theorem hitF_len (f : Nat → Nat) {N : Nat} (j : Nat) (i : Fin N) : (hitF f j i).length ≤ j := by
  unfold hitF
  rw [List.length_map]
  refine Nat.le_trans (List.length_filter_le _ _) ?_
  rw [List.length_take]
  omega
def hitsF (f : Nat → Nat) {N : Nat} (pre : List (Fin N)) : List (Fin N × Fin 8) := pre.flatMap (hitF f 8)
theorem hitsF_nil (f : Nat → Nat) {N : Nat} : hitsF f ([] : List (Fin N)) = [] := rfl
theorem hitsF_snoc (f : Nat → Nat) {N : Nat} (pre : List (Fin N)) (i : Fin N) : hitsF f (pre ++ [i]) = hitsF f pre ++ hitF f 8 i := by simp [hitsF]
theorem hitsF_len (f : Nat → Nat) {N : Nat} (pre : List (Fin N)) : (hitsF f pre).length ≤ 8 * pre.length := by
  induction pre with
  | nil => simp [hitsF]
  | cons x pre ih =>
    have := hitF_len f 8 x
    simp only [hitsF, List.flatMap_cons, List.length_append, List.length_cons] at *
    omega

/-- The place that is told. -/
def pl8 {N : Nat} (x : Fin N × Fin 8) : Nat := 8 * x.1.val + x.2.val
theorem hitF_all (f : Nat → Nat) {N : Nat} (i : Fin N) : (hitF f 8 i).map pl8 = ((List.range 8).map (fun k => 8 * i.val + k)).filter (fun k => bf f k == 1) := by
  unfold hitF
  rw [← eight_val, List.map_map, List.map_map, List.filter_map, show eight8.take 8 = eight8 from rfl]
  refine congrArg _ ?_
  refine List.filter_congr (fun k _ => ?_)
  simp only [Function.comp, bf]
  rw [show (8 * i.val + k.val) / 8 = i.val from by omega, show (8 * i.val + k.val) % 8 = k.val from by omega]
theorem hits_range (f : Nat → Nat) (n : Nat) : (List.range n).flatMap (fun i => ((List.range 8).map (fun k => 8 * i + k)).filter (fun k => bf f k == 1)) = onF f n := by
  induction n with
  | zero => rfl
  | succ n ih =>
    rw [show List.range (n + 1) = List.range n ++ [n] from List.range_succ, List.flatMap_append, ih]
    unfold onF
    rw [show 8 * (n + 1) = 8 * n + 8 from by omega, List.range_add, List.filter_append]
    simp
theorem hitsF_all {f : Nat → Nat} {N : Nat} {pre : List (Fin N)} (h : pre.map Fin.val = List.range N) : (hitsF f pre).map pl8 = onF f N := by
  rw [← hits_range, ← h]
  clear h
  induction pre with
  | nil => rfl
  | cons x pre ih =>
    rw [hitsF, List.flatMap_cons, List.map_append, hitF_all, List.map_cons, List.flatMap_cons]
    exact congrArg _ ih

theorem bit_u8 {x : Nat} (m : Nat) (hx : x < 256) : bits .and .u8 ((x : Int) / 2 ^ m) 1 = ((bt x m : Nat) : Int) := by
  have h := (bits_nat .u8 8 (by decide) wraps_u8 (x / 2 ^ m) 1 (Nat.lt_of_le_of_lt (Nat.div_le_self _ _) hx) (by omega)).1
  rw [Nat.and_one_is_mod] at h
  rw [show (x : Int) / 2 ^ m = ((x / 2 ^ m : Nat) : Int) from by simp]
  exact h
end Go.Proofs.YtjdikhelabibnabGreat
