/-
  What the laws' walks want of the field.
-/
import Derived.Test.YtinbenlakimipaaGref
namespace Go.Proofs.Ytinbenlakimipaa
open Go.RowKit

/-- What was below a world is below what follows it. -/
theorem Below.on {w a b : World} (h : Below w.heap.size w a) (k : Below a.heap.size a b) : Below w.heap.size w b := h.trans (k.mono h.size)

theorem lg_nought : lg 0 = -1 := by unfold lg; rw [if_pos rfl]

theorem lg_of {a : Nat} (h : a = 0) : lg a = -1 := by rw [h, lg_nought]
theorem pw_of {a : Nat} {n : Int} (h : a = 0) (hn : n ≠ 0) : pw a n = 0 := by rw [h, pw_zero hn]

theorem X_lg {a : Nat} (h0 : 0 < a) (h : a < 256) : X (lg a) = a := by
  unfold lg
  rw [if_neg (by omega), X_L h0 h]

theorem lg_X (n : Int) : lg (X n) = n % 255 := by
  have := X_ne n
  unfold lg
  rw [if_neg (by omega), L_X]

theorem mul_quot {a : Nat} {n : Int} (h0 : 0 < a) (h : a < 256) : gmul (pw a n) (pw a (-n)) = 1 := by
  rcases of_X h with rfl | ⟨m, rfl⟩
  · omega
  · rw [pw_X, pw_X, X_mul, Int.mul_neg, Int.add_right_neg, X_zero]

theorem mul_inv {a : Nat} (h0 : 0 < a) (h : a < 256) : gmul a (pw a (-1)) = 1 := by
  rcases of_X h with rfl | ⟨m, rfl⟩
  · omega
  · rw [pw_X, X_mul, Int.mul_neg, Int.mul_one, Int.add_right_neg, X_zero]

theorem gmul_two {a : Nat} (h : a < 256) : gmul a 2 = dbl a := by
  rcases of_X h with rfl | ⟨m, rfl⟩
  · decide
  · rw [← X_one, X_mul, dbl_X]

theorem pw_half {a : Nat} (h : a < 256) : pw (pw a 128) 2 = a := by
  rcases of_X h with rfl | ⟨m, rfl⟩
  · rw [pw_zero (by omega), pw_zero (by omega)]
  · rw [pw_X, pw_X]
    exact X_congr (by omega)

theorem pw_256 {a : Nat} (h : a < 256) : pw a 256 = a := by
  rcases of_X h with rfl | ⟨m, rfl⟩
  · rw [pw_zero (by omega)]
  · rw [pw_X]
    exact X_congr (by omega)

theorem pw_255 {a : Nat} (h0 : 0 < a) (h : a < 256) : pw a 255 = 1 := by
  rcases of_X h with rfl | ⟨m, rfl⟩
  · omega
  · rw [pw_X, ← X_zero]
    exact X_congr (by omega)

theorem pw_quot {a : Nat} {n : Int} (h : a < 256) (hn : n ≠ 0) : pw (pw a (-1)) n = pw a (-n) := by
  rcases of_X h with rfl | ⟨m, rfl⟩
  · rw [pw_zero (by omega), pw_zero hn, pw_zero (by omega)]
  · rw [pw_X, pw_X, pw_X]
    exact X_congr (by rw [Int.mul_neg, Int.mul_one, Int.neg_mul, Int.mul_neg])

theorem inv_inv {a : Nat} (h : a < 256) : pw (pw a (-1)) (-1) = a := by
  rcases of_X h with rfl | ⟨m, rfl⟩
  · rw [pw_zero (by omega), pw_zero (by omega)]
  · rw [pw_X, pw_X]
    exact X_congr (by omega)

theorem prod_500 {x y : Int} (hx0 : -500 ≤ x) (hx1 : x < 500) (hy0 : -500 ≤ y) (hy1 : y < 500) : -1000000 ≤ x * y ∧ x * y ≤ 1000000 := by
  have h1 : (x + 500) * y ≤ (x + 500) * 500 := Int.mul_le_mul_of_nonneg_left (by omega) (by omega)
  have h2 : (x + 500) * (-500) ≤ (x + 500) * y := Int.mul_le_mul_of_nonneg_left (by omega) (by omega)
  have e : (x + 500) * y = x * y + 500 * y := Int.add_mul _ _ _
  rw [e] at h1 h2
  omega

end Go.Proofs.Ytinbenlakimipaa
