/-
  The second telling's field (ramekinref2).
-/
import Derived.Test.YtdlbkgehgbacmabPow3
import Derived.Deep.RegionHeld3
namespace Go.Proofs.Ytdlbkgehgbacmab
open Go.RowKit
theorem hide {p : Prop} (h : p) : Hid p := h

theorem unhide {p : Prop} (h : Hid p) : p := h

theorem tmod_emod (a n : Int) (hn : 0 < n) : (a.tmod n < 0 → a.tmod n + n = a % n) ∧ (0 ≤ a.tmod n → a.tmod n = a % n) ∧ -n < a.tmod n ∧ a.tmod n < n := by
  have h1 := Int.tmod_eq_emod (a := a) (b := n)
  have h2 := Int.emod_nonneg a (show n ≠ 0 by omega)
  have h3 := Int.emod_lt_of_pos a hn
  have hna : (n.natAbs : Int) = n := by omega
  rw [h1]
  split <;> omega

theorem i64_small (n : Int) (h0 : 0 ≤ n) (h1 : n < 2 ^ 62) : IntKind.i64.wrap n = n := IntWalk.i64_in _ ⟨by omega, by omega⟩

theorem xor_i64 {a b : Nat} (ha : a < 65536) (hb : b < 65536) : bits .xor .i64 (a : Int) (b : Int) = ((a ^^^ b : Nat) : Int) :=
  bits_xor_nat .i64 62 (by decide) i64_small a b (by omega) (by omega)

theorem and_i64 {a : Nat} (ha : a < 65536) : bits .and .i64 (a : Int) 1 = ((a % 2 : Nat) : Int) := by
  have h := (bits_nat .i64 62 (by decide) i64_small a 1 (by omega) (by omega)).1
  rw [Nat.and_one_is_mod] at h
  exact h

theorem step_odd {j x z p g : Nat} (h : p ^^^ mulF (j + 1) x z = g) (hz : z % 2 = 1) : (p ^^^ x) ^^^ mulF j (dbl x) (z / 2) = g := by
  rw [mulF, if_pos hz, ← Nat.xor_assoc] at h
  exact h

theorem step_even {j x z p g : Nat} (h : p ^^^ mulF (j + 1) x z = g) (hz : ¬ z % 2 = 1) : p ^^^ mulF j (dbl x) (z / 2) = g := by
  rw [mulF, if_neg hz, Nat.zero_xor] at h
  exact h

theorem dbl_small {x : Nat} (h : 2 * x ≤ 255) : (x : Int) * 2 = ((dbl x : Nat) : Int) := by unfold dbl; rw [if_pos h]; omega

theorem dbl_big {x : Nat} (hx : x < 256) (h : ¬ 2 * x ≤ 255) : bits .xor .i64 ((x : Int) * 2) 285 = ((dbl x : Nat) : Int) := by
  unfold dbl
  rw [if_neg h, ← xor_i64 (a := 2 * x) (b := 285) (by omega) (by omega), show ((2 * x : Nat) : Int) = (x : Int) * 2 from by omega]
  rfl

theorem gmul_two_E (i : Nat) : gmul (E i) 2 = E (i + 1) := gmul_E i 1

end Go.Proofs.Ytdlbkgehgbacmab
