/-
  The field of 256 by itself, without the program: doubles, products, powers, logarithms of naturals below 256.
-/
namespace Go.Proofs.YtjdikhelabibnabGreat

/-- The double of a byte. -/
def dbl (x : Nat) : Nat := if 2 * x ≤ 255 then 2 * x else (2 * x) ^^^ 285

/-- The sum of those doubles of x that the bits of y pick, k bits of them. -/
def mulF : Nat → Nat → Nat → Nat
  | 0, _, _ => 0
  | k + 1, x, y => (if y % 2 = 1 then x else 0) ^^^ mulF k (dbl x) (y / 2)

def gmul (a b : Nat) : Nat := mulF 8 a b

theorem xor_lt {a b : Nat} (ha : a < 256) (hb : b < 256) : a ^^^ b < 256 := Nat.xor_lt_two_pow (n := 8) ha hb

theorem dbl_lt {x : Nat} (h : x < 256) : dbl x < 256 := by
  have : ∀ x : Fin 256, dbl x.val < 256 := by decide +kernel
  exact this ⟨x, h⟩

theorem dbl_eq (x : Nat) (h : x < 256) : dbl x = (2 * x) ^^^ (if x.testBit 7 then 285 else 0) := by
  have : ∀ x : Fin 256, dbl x.val = (2 * x.val) ^^^ (if x.val.testBit 7 then 285 else 0) := by decide +kernel
  exact this ⟨x, h⟩

theorem two_xor (a b : Nat) : 2 * (a ^^^ b) = (2 * a) ^^^ (2 * b) := by
  have h := Nat.shiftLeft_xor_distrib (a := a) (b := b) (i := 1)
  simpa [Nat.shiftLeft_eq, Nat.mul_comm] using h

theorem dbl_xor {a b : Nat} (ha : a < 256) (hb : b < 256) : dbl (a ^^^ b) = dbl a ^^^ dbl b := by
  rw [dbl_eq _ (xor_lt ha hb), dbl_eq _ ha, dbl_eq _ hb, two_xor, Nat.testBit_xor]
  have e : ∀ p q r s : Nat, (p ^^^ q) ^^^ (r ^^^ s) = (p ^^^ r) ^^^ (q ^^^ s) := by
    intro p q r s
    rw [Nat.xor_assoc, Nat.xor_assoc, ← Nat.xor_assoc q r s, Nat.xor_comm q r, Nat.xor_assoc r q s]
  rw [e]
  cases a.testBit 7 <;> cases b.testBit 7 <;> simp

theorem mulF_lt (k : Nat) {x : Nat} (y : Nat) (h : x < 256) : mulF k x y < 256 := by
  induction k generalizing x y with
  | zero => simp [mulF]
  | succ k ih =>
    rw [mulF]
    refine xor_lt ?_ (ih _ (dbl_lt h))
    split
    · exact h
    · omega

theorem gmul_lt {a b : Nat} (ha : a < 256) : gmul a b < 256 := mulF_lt 8 b ha

theorem mulF_zero (k x : Nat) : mulF k x 0 = 0 := by
  induction k generalizing x with
  | zero => rfl
  | succ k ih => simp [mulF, ih]

theorem mulF_dbl (k : Nat) {x : Nat} (y : Nat) (h : x < 256) : mulF k (dbl x) y = dbl (mulF k x y) := by
  induction k generalizing x y with
  | zero => simp [mulF, dbl]
  | succ k ih =>
    rw [mulF, mulF, ih _ (dbl_lt h), dbl_xor (by split <;> omega) (mulF_lt _ _ (dbl_lt h))]
    split
    · rfl
    · rfl

theorem mulF_xor (k : Nat) {x : Nat} (y z : Nat) : mulF k x (y ^^^ z) = mulF k x y ^^^ mulF k x z := by
  induction k generalizing x y z with
  | zero => simp [mulF]
  | succ k ih =>
    rw [mulF, mulF, mulF, Nat.xor_div_two, ih]
    have e : ∀ p q r s : Nat, (p ^^^ q) ^^^ (r ^^^ s) = (p ^^^ r) ^^^ (q ^^^ s) := by
      intro p q r s
      rw [Nat.xor_assoc, Nat.xor_assoc, ← Nat.xor_assoc q r s, Nat.xor_comm q r, Nat.xor_assoc r q s]
    rw [e]
    congr 1
    have hp : (y ^^^ z) % 2 = (y % 2 + z % 2) % 2 := by
      have := @Nat.xor_mod_two_eq_one y z
      omega
    rcases Nat.mod_two_eq_zero_or_one y with h1 | h1 <;> rcases Nat.mod_two_eq_zero_or_one z with h2 | h2 <;> simp [hp, h1, h2]

theorem gmul_xor (a b c : Nat) : gmul a (b ^^^ c) = gmul a b ^^^ gmul a c := mulF_xor 8 b c

theorem one_gmul {b : Nat} (h : b < 256) : gmul 1 b = b := by
  have : ∀ x : Fin 256, gmul 1 x.val = x.val := by decide +kernel
  exact this ⟨b, h⟩

theorem gmul_zero (a : Nat) : gmul a 0 = 0 := mulF_zero 8 a

theorem zero_gmul {b : Nat} (h : b < 256) : gmul 0 b = 0 := by
  have : ∀ x : Fin 256, gmul 0 x.val = 0 := by decide +kernel
  exact this ⟨b, h⟩

/-- The powers of 2. -/
def E : Nat → Nat
  | 0 => 1
  | n + 1 => dbl (E n)

theorem E_lt (n : Nat) : E n < 256 := by
  induction n with
  | zero => simp [E]
  | succ n ih => exact dbl_lt ih

theorem E_255 : E 255 = 1 := by decide +kernel

theorem E_add (n : Nat) : E (n + 255) = E n := by
  induction n with
  | zero => rw [Nat.zero_add, E_255]; rfl
  | succ n ih => rw [Nat.add_right_comm, E, ih, E]

theorem E_mod (n : Nat) : E (n % 255) = E n := by
  have h : ∀ k m, E (m + 255 * k) = E m := by
    intro k
    induction k with
    | zero => intro m; rfl
    | succ k ih => intro m; rw [Nat.mul_succ, ← Nat.add_assoc, E_add, ih]
  have := h (n / 255) (n % 255)
  rw [Nat.mod_add_div] at this
  exact this.symm

theorem gmul_E (i j : Nat) : gmul (E i) (E j) = E (i + j) := by
  induction i with
  | zero => rw [Nat.zero_add]; exact one_gmul (E_lt j)
  | succ i ih => rw [E, gmul, mulF_dbl _ _ (E_lt i), ← gmul, ih, Nat.add_right_comm, E]

/-- Which of the first powers of 2 it is. -/
def lgF : Nat → Nat → Nat → Nat → Nat
  | 0, _, _, _ => 0
  | k + 1, x, n, a => if x = a then n else lgF k (dbl x) (n + 1) a

def L (a : Nat) : Nat := lgF 255 1 0 a

theorem E_L {a : Nat} (h0 : 0 < a) (h : a < 256) : E (L a) = a ∧ L a < 255 := by
  have : ∀ x : Fin 256, 0 < x.val → E (L x.val) = x.val ∧ L x.val < 255 := by decide +kernel
  exact this ⟨a, h⟩ h0

theorem L_E {n : Nat} (h : n < 255) : L (E n) = n := by
  have : ∀ x : Fin 255, L (E x.val) = x.val := by decide +kernel
  exact this ⟨n, h⟩

theorem E_ne (n : Nat) : 0 < E n := by
  have : ∀ x : Fin 255, 0 < E x.val := by decide +kernel
  rw [← E_mod]
  exact this ⟨n % 255, Nat.mod_lt _ (by omega)⟩

theorem L_E_mod (n : Nat) : L (E n) = n % 255 := by
  rw [← E_mod, L_E (Nat.mod_lt _ (by omega))]

/-- 2 to the n-th, of any number. -/
def X (n : Int) : Nat := E (n % 255).toNat

theorem X_lt (n : Int) : X n < 256 := E_lt _
theorem X_ne (n : Int) : 0 < X n := E_ne _
theorem X_nat (n : Nat) : X n = E n := by
  unfold X
  rw [show ((n : Int) % 255).toNat = n % 255 from by omega, E_mod]

theorem X_mod (n : Int) : X (n % 255) = X n := by unfold X; rw [Int.emod_emod_of_dvd n (by omega)]

theorem X_congr {n m : Int} (h : n % 255 = m % 255) : X n = X m := by unfold X; rw [h]

theorem X_mul (n m : Int) : gmul (X n) (X m) = X (n + m) := by
  have h : gmul (X n) (X m) = E ((n % 255).toNat + (m % 255).toNat) := gmul_E _ _
  rw [h, ← X_nat]
  exact X_congr (by omega)

theorem L_X (n : Int) : (L (X n) : Int) = n % 255 := by
  unfold X
  rw [L_E_mod]
  omega

theorem X_L {a : Nat} (h0 : 0 < a) (h : a < 256) : X (L a) = a := by rw [X_nat]; exact (E_L h0 h).1

theorem X_inj {n m : Int} (h : X n = X m) : n % 255 = m % 255 := by rw [← L_X, ← L_X, h]

theorem of_X {a : Nat} (h : a < 256) : a = 0 ∨ ∃ n : Int, a = X n := by
  by_cases h0 : a = 0
  · exact .inl h0
  · exact .inr ⟨L a, (X_L (by omega) h).symm⟩

theorem gmul_comm {a b : Nat} (ha : a < 256) (hb : b < 256) : gmul a b = gmul b a := by
  rcases of_X ha with rfl | ⟨n, rfl⟩
  · rw [zero_gmul hb, gmul_zero]
  · rcases of_X hb with rfl | ⟨m, rfl⟩
    · rw [zero_gmul ha, gmul_zero]
    · rw [X_mul, X_mul, Int.add_comm]

theorem gmul_assoc {a b c : Nat} (ha : a < 256) (hb : b < 256) (hc : c < 256) : gmul (gmul a b) c = gmul a (gmul b c) := by
  rcases of_X ha with rfl | ⟨n, rfl⟩
  · rw [zero_gmul hb, zero_gmul hc, zero_gmul (gmul_lt hb)]
  · rcases of_X hb with rfl | ⟨m, rfl⟩
    · rw [gmul_zero, zero_gmul hc, gmul_zero]
    · rcases of_X hc with rfl | ⟨k, rfl⟩
      · rw [gmul_zero, gmul_zero, gmul_zero]
      · rw [X_mul, X_mul, X_mul, X_mul, Int.add_assoc]

theorem gmul_one {a : Nat} (h : a < 256) : gmul a 1 = a := by rw [gmul_comm h (by omega), one_gmul h]

/-- a to the n-th. -/
def pw (a : Nat) (n : Int) : Nat := if n = 0 then 1 else if a = 0 then 0 else X (L a * n)

/-- The logarithm; -1: of nought. -/
def lg (a : Nat) : Int := if a = 0 then -1 else L a

theorem pw_lt (a : Nat) (n : Int) : pw a n < 256 := by
  unfold pw
  split
  · omega
  · split
    · omega
    · exact X_lt _

theorem pw_X (n m : Int) : pw (X n) m = X (n * m) := by
  unfold pw
  have := X_ne n
  by_cases h : m = 0
  · rw [if_pos h, h, Int.mul_zero]; rfl
  · rw [if_neg h, if_neg (by omega), L_X]
    exact X_congr (by rw [Int.mul_emod, Int.emod_emod_of_dvd n (by omega), ← Int.mul_emod])

theorem pw_zero {n : Int} (h : n ≠ 0) : pw 0 n = 0 := by unfold pw; rw [if_neg h, if_pos rfl]
theorem pw_nought (a : Nat) : pw a 0 = 1 := by unfold pw; rw [if_pos rfl]

theorem X_one : X 1 = 2 := by decide +kernel
theorem X_zero : X 0 = 1 := by decide +kernel
theorem pw_two (n : Int) : pw 2 n = X n := by rw [← X_one, pw_X, Int.one_mul]

theorem dbl_X (n : Int) : dbl (X n) = X (n + 1) := by
  have h : dbl (X n) = E ((n % 255).toNat + 1) := rfl
  rw [h, ← X_nat]
  exact X_congr (by omega)

/-- Those items of a chain that the bits of y pick. -/
def picks (st : Nat → Nat) : Nat → Nat → Nat → List Nat
  | 0, _, _ => []
  | k + 1, x, y => (if y % 2 = 1 then [x] else []) ++ picks st k (st x) (y / 2)

theorem picks_nought (st : Nat → Nat) (k x : Nat) : picks st k x 0 = [] := by
  induction k generalizing x with
  | zero => rfl
  | succ k ih => simp [picks, ih]

theorem sum_picks (k x y s : Nat) : (picks dbl k x y).foldl (· ^^^ ·) s = s ^^^ mulF k x y := by
  induction k generalizing x y s with
  | zero => simp [picks, mulF]
  | succ k ih =>
    rw [picks, mulF, List.foldl_append, ih]
    split <;> simp [Nat.xor_assoc]

theorem mul_picks (a b : Nat) : (picks dbl 8 a b).foldl (· ^^^ ·) 0 = gmul a b := by rw [sum_picks, Nat.zero_xor]; rfl

def sqr (x : Nat) : Nat := gmul x x

theorem sqr_X (n : Int) : sqr (X n) = X (n + n) := X_mul n n

theorem prod_picks (k : Nat) (i : Int) (y : Nat) (hy : y < 2 ^ k) (s : Int) : (picks sqr k (X i) y).foldl gmul (X s) = X (s + i * y) := by
  induction k generalizing i y s with
  | zero =>
    have : y = 0 := by simpa using hy
    subst this
    simp [picks]
  | succ k ih =>
    have h2 : y / 2 < 2 ^ k := by rw [Nat.pow_succ] at hy; omega
    have e : (y : Int) = 2 * ((y / 2 : Nat) : Int) + ((y % 2 : Nat) : Int) := by omega
    have e2 : (i + i) * ((y / 2 : Nat) : Int) = i * (2 * ((y / 2 : Nat) : Int)) := by rw [← Int.two_mul, Int.mul_comm 2 i, Int.mul_assoc]
    rw [picks, List.foldl_append, sqr_X]
    by_cases h : y % 2 = 1
    · rw [if_pos h, List.foldl_cons, List.foldl_nil, X_mul, ih _ _ h2]
      rw [h] at e
      rw [e, e2, Int.mul_add, Int.natCast_one, Int.mul_one, Int.add_assoc, Int.add_comm i]
    · rw [if_neg h, List.foldl_nil, ih _ _ h2]
      rw [show y % 2 = 0 from by omega] at e
      rw [e, e2, Int.natCast_zero, Int.add_zero]

theorem pow_picks {a : Nat} (h0 : 0 < a) (h : a < 256) (n : Int) : (picks sqr 8 a (n % 255).toNat).foldl gmul 1 = X (L a * n) := by
  have e := X_L h0 h
  have := prod_picks 8 (L a) (n % 255).toNat (by omega) 0
  rw [e, X_zero] at this
  rw [this]
  refine X_congr ?_
  rw [show (((n % 255).toNat : Nat) : Int) = n % 255 from by omega, Int.zero_add, Int.mul_emod, Int.emod_emod_of_dvd n (by omega), ← Int.mul_emod]

theorem pw_sq {a : Nat} (h : a < 256) : pw a 2 = gmul a a := by
  rcases of_X h with rfl | ⟨n, rfl⟩
  · rw [pw_zero (by omega), gmul_zero]
  · rw [pw_X, X_mul]
    exact X_congr (by omega)

theorem sum_sq {a b : Nat} (ha : a < 256) (hb : b < 256) : pw (a ^^^ b) 2 = pw a 2 ^^^ pw b 2 := by
  have hab := xor_lt ha hb
  rw [pw_sq hab, pw_sq ha, pw_sq hb, gmul_xor, gmul_comm hab ha, gmul_comm hab hb, gmul_xor, gmul_xor, gmul_comm hb ha, Nat.xor_assoc, ← Nat.xor_assoc (gmul a b), Nat.xor_self, Nat.zero_xor]

end Go.Proofs.YtjdikhelabibnabGreat
