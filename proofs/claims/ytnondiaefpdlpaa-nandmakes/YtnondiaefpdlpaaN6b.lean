/-
  Bits of bytes by themselves: turned, mixed.
-/
import Derived.Test.YtnondiaefpdlpaaN6a
namespace Go.Proofs.Ytnondiaefpdlpaa
open Go.RowKit Go.Shelf

/-- Bit k of bytes turned. -/
def flip1 (w : List Nat) (k : Nat) : List Nat := w.set (k / 8) (cf w (k / 8) ^^^ 2 ^ (k % 8))
theorem pow_lt8 (k : Nat) : 2 ^ (k % 8) < 256 := Nat.lt_of_lt_of_le (Nat.pow_lt_pow_right (a := 2) (by omega) (show k % 8 < 8 by omega)) (by decide)
theorem flip1_len (w : List Nat) (k : Nat) : (flip1 w k).length = w.length := by simp [flip1]
theorem flip1_bs {w : List Nat} (h : Bs w) (k : Nat) : Bs (flip1 w k) := by
  unfold flip1
  intro i
  by_cases hk : k / 8 < w.length
  · rw [cf_set _ _ _ _ hk]
    by_cases e : i = k / 8
    · rw [if_pos e]; exact xor_lt (h _) (pow_lt8 k)
    · rw [if_neg e]; exact h i
  · rw [List.set_eq_of_length_le (by omega)]; exact h i

/-- A number's bit turned, if it is one's. -/
def flZ (s : List Nat) (z : Int) : List Nat := if 0 ≤ z ∧ z < 8 * (s.length : Int) then flip1 s z.toNat else s
def flipZ (s : List Nat) (zs : List Int) : List Nat := zs.foldl flZ s
theorem flZ_len (s : List Nat) (z : Int) : (flZ s z).length = s.length := by
  unfold flZ; split
  · exact flip1_len _ _
  · rfl
theorem flipZ_len (s : List Nat) (zs : List Int) : (flipZ s zs).length = s.length := by
  induction zs generalizing s with
  | nil => rfl
  | cons z zs ih => rw [flipZ, List.foldl_cons, ← flipZ, ih, flZ_len]
theorem flZ_bs {s : List Nat} (h : Bs s) (z : Int) : Bs (flZ s z) := by
  unfold flZ; split
  · exact flip1_bs h _
  · exact h
theorem flipZ_bs {s : List Nat} (h : Bs s) (zs : List Int) : Bs (flipZ s zs) := by
  induction zs generalizing s with
  | nil => exact h
  | cons z zs ih => exact ih (flZ_bs h z)
theorem flipZ_snoc (s : List Nat) (zs : List Int) (z : Int) : flipZ s (zs ++ [z]) = flZ (flipZ s zs) z := by rw [flipZ, List.foldl_append]; rfl
theorem flipZ_take {s : List Nat} {zs : List Int} {i : Nat} (h : i < zs.length) : flipZ s (zs.take (i + 1)) = flZ (flipZ s (zs.take i)) (zs.getD i 0) := by rw [take_snoc _ _ h, flipZ_snoc]
theorem flZ_yes {s : List Nat} {k : Nat} (h : k / 8 < s.length) : flZ s (k : Int) = s.set (k / 8) (cf s (k / 8) ^^^ 2 ^ (k % 8)) := by
  rw [flZ, if_pos ⟨by omega, by omega⟩, Int.toNat_natCast]; rfl
theorem flZ_far {s : List Nat} {k : Nat} (h : ¬ k / 8 < s.length) : flZ s (k : Int) = s := by rw [flZ, if_neg (by omega)]
theorem flZ_neg {s : List Nat} {z : Int} (h : z < 0) : flZ s z = s := by rw [flZ, if_neg (by omega)]

/-- A byte mixed out of two by a mask's byte. -/
def mx (m x y : Nat) : Nat := (x ^^^ (x &&& m)) ||| (y &&& m)
/-- Which byte of the mask counts. -/
def mAt (mask : List Nat) (i : Nat) : Nat := cf mask (i % mask.length)
/-- Mixed. -/
def mixF (a b mask : List Nat) : List Nat := if mask = [] then a else (List.range a.length).map (fun i => mx (mAt mask i) (cf a i) (cf b i))
def mixL (a b mask : List Nat) : List Nat := if a.length = b.length then mixF a b mask else []
theorem mixF_len (a b mask : List Nat) : (mixF a b mask).length = a.length := by
  unfold mixF; split <;> simp
theorem cf_mixF {a b mask : List Nat} {i : Nat} (h : i < a.length) (hm : mask ≠ []) : cf (mixF a b mask) i = mx (mAt mask i) (cf a i) (cf b i) := by
  rw [mixF, if_neg hm, ← cf_getD, List.getD_eq_getElem?_getD, List.getElem?_map, List.getElem?_range h]
  rfl
theorem mx_lt {m x y : Nat} (hx : x < 256) (hy : y < 256) : mx m x y < 256 := by
  unfold mx
  exact Nat.or_lt_two_pow (n := 8) (Nat.xor_lt_two_pow (n := 8) hx (Nat.lt_of_le_of_lt Nat.and_le_left hx)) (Nat.lt_of_le_of_lt Nat.and_le_left hy)
theorem bt_mx (m x y k : Nat) : bt (mx m x y) k = if bt m k = 1 then bt y k else bt x k := by
  unfold mx
  rw [bt_test, bt_test, bt_test, bt_test, Nat.testBit_or, Nat.testBit_xor, Nat.testBit_and, Nat.testBit_and]
  cases m.testBit k <;> cases x.testBit k <;> cases y.testBit k <;> rfl
theorem andNot_u8 {x : Nat} (m : Nat) (hx : x < 256) : bits .andNot .u8 (x : Int) (m : Int) = ((x ^^^ (x &&& m) : Nat) : Int) := by
  have hz : x ^^^ (x &&& m) < 256 := Nat.xor_lt_two_pow (n := 8) hx (Nat.lt_of_le_of_lt Nat.and_le_left hx)
  have h : (BitVec.ofNat 8 x &&& ~~~ BitVec.ofNat 8 m) = BitVec.ofNat 8 (x ^^^ (x &&& m)) := by
    apply BitVec.eq_of_getLsbD_eq
    intro i hi
    simp only [BitVec.getLsbD_and, BitVec.getLsbD_not, BitVec.getLsbD_ofNat, Nat.testBit_xor, Nat.testBit_and, hi, decide_true, Bool.true_and]
    cases x.testBit i <;> cases m.testBit i <;> rfl
  show IntKind.u8.wrap (((BitVec.ofInt 8 (x : Int) &&& ~~~ BitVec.ofInt 8 (m : Int)).toNat : Nat) : Int) = _
  rw [BitVec.ofInt_natCast, BitVec.ofInt_natCast, h, BitVec.toNat_ofNat, Nat.mod_eq_of_lt hz]
  exact wraps_u8 _ (by omega) (by omega)
theorem mx_u8 {m x y : Nat} (hx : x < 256) (hy : y < 256) (hm : m < 256) :
    bits .andNot .u8 (x : Int) (m : Int) = ((x ^^^ (x &&& m) : Nat) : Int) ∧ bits .and .u8 (y : Int) (m : Int) = ((y &&& m : Nat) : Int) ∧ bits .or .u8 ((x ^^^ (x &&& m) : Nat) : Int) ((y &&& m : Nat) : Int) = ((mx m x y : Nat) : Int) :=
  ⟨andNot_u8 m hx, (bits_nat .u8 8 (by decide) wraps_u8 y m hy hm).1, (bits_nat .u8 8 (by decide) wraps_u8 _ _ (Nat.xor_lt_two_pow (n := 8) hx (Nat.lt_of_le_of_lt Nat.and_le_left hx)) (Nat.lt_of_le_of_lt Nat.and_le_left hy)).2⟩
theorem mixF_bs {a b mask : List Nat} (ha : Bs a) (hb : Bs b) : Bs (mixF a b mask) := by
  by_cases hm : mask = []
  · rw [mixF, if_pos hm]; exact ha
  · intro i
    by_cases hi : i < a.length
    · rw [cf_mixF hi hm]; exact mx_lt (ha i) (hb i)
    · rw [cf_ge (by rw [mixF_len]; omega)]; omega
end Go.Proofs.Ytnondiaefpdlpaa
