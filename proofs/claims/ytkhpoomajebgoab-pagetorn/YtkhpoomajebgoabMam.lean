/-
  What is left of a word by the generator, as a number; the places of wrong bits by a cubic, without the program.
  bch.falling, bch.rest.
  poly.Eval.
-/
import Derived.Test.YtkhpoomajebgoabMal
import Derived.Test.YtkhpoomajebgoabMag
namespace Go.Proofs.Ytkhpoomajebgoab

/-- So many bits of a number. -/
def nb : Nat → Nat → List Nat
  | 0, _ => []
  | n + 1, x => x % 2 :: nb n (x / 2)
theorem nb_len (n x : Nat) : (nb n x).length = n := by
  induction n generalizing x with
  | zero => rfl
  | succ n ih => rw [nb, List.length_cons, ih]
theorem bt_succ (x i : Nat) : bt x (i + 1) = bt (x / 2) i := by
  unfold bt
  rw [Nat.pow_succ, Nat.mul_comm (2 ^ i) 2, Nat.div_div_eq_div_mul]
theorem cf_nb (n x i : Nat) : cf (nb n x) i = if i < n then bt x i else 0 := by
  induction n generalizing x i with
  | zero => simp [nb]
  | succ n ih =>
    cases i with
    | zero => rw [nb, cf_zero, if_pos (by omega)]; simp [bt]
    | succ i =>
      rw [nb, cf_succ, ih, bt_succ]
      by_cases h : i < n
      · rw [if_pos h, if_pos (by omega)]
      · rw [if_neg h, if_neg (by omega)]
theorem nb_bin (n x : Nat) : Bin (nb n x) := fun i => by
  rw [cf_nb]
  split
  · exact bt_le _ _
  · omega
theorem bt_ge {x n i : Nat} (h : x < 2 ^ n) (hi : n ≤ i) : bt x i = 0 := by
  unfold bt
  rw [Nat.div_eq_of_lt (Nat.lt_of_lt_of_le h (Nat.pow_le_pow_right (by omega) hi))]

def rule : Nat := 8293925629
theorem rule_gen : nb 33 rule = genP := by decide +kernel

/-- One bit more. -/
def rs (r b : Nat) : Nat := (2 * r + b) ^^^ ((2 * r + b) / 4294967296 * rule)
theorem rs_small {r b : Nat} (h : 2 * r + b < 4294967296) : rs r b = 2 * r + b := by
  unfold rs
  rw [Nat.div_eq_of_lt h, Nat.zero_mul, Nat.xor_zero]
theorem rs_big {r b : Nat} (hr : r < 4294967296) (hb : b ≤ 1) (h : ¬ 2 * r + b < 4294967296) : rs r b = (2 * r + b) ^^^ rule := by
  unfold rs
  rw [show (2 * r + b) / 4294967296 = 1 from by omega, Nat.one_mul]
theorem rs_lt {r b : Nat} (hr : r < 4294967296) (hb : b ≤ 1) : rs r b < 4294967296 := by
  by_cases h : 2 * r + b < 4294967296
  · rw [rs_small h]; exact h
  · rw [rs_big hr hb h]
    refine Nat.lt_pow_two_of_testBit (n := 32) _ (fun i hi => ?_)
    rw [Nat.testBit_xor]
    by_cases h2 : i = 32
    · subst h2
      have e1 : (2 * r + b).testBit 32 = true := by
        rw [Nat.testBit_eq_decide_div_mod_eq, show (2 : Nat) ^ 32 = 4294967296 from rfl, show (2 * r + b) / 4294967296 = 1 from by omega]
        rfl
      rw [e1]
      decide
    · rw [Nat.testBit_lt_two_pow (Nat.lt_of_lt_of_le (show 2 * r + b < 2 ^ 33 by omega) (Nat.pow_le_pow_right (by omega) (show 33 ≤ i by omega))), Nat.testBit_lt_two_pow (Nat.lt_of_lt_of_le (show rule < 2 ^ 33 by decide) (Nat.pow_le_pow_right (by omega) (show 33 ≤ i by omega)))]
      rfl

theorem ev_nb_xor (n x z : Nat) {y : Nat} (hy : y < 256) : ev (nb n (x ^^^ z)) y = ev (nb n x) y ^^^ ev (nb n z) y := by
  rw [← ev_padd (nb_bin n x).bs (nb_bin n z).bs hy]
  refine ev_congr hy (fun i => ?_)
  rw [cf_padd, cf_nb, cf_nb, cf_nb]
  split
  · exact bt_xor _ _ _
  · rfl
theorem ev_nb_more {r : Nat} (hr : r < 4294967296) {y : Nat} (hy : y < 256) : ev (nb 33 r) y = ev (nb 32 r) y := by
  refine ev_congr hy (fun i => ?_)
  rw [cf_nb, cf_nb]
  by_cases h : i < 32
  · rw [if_pos h, if_pos (by omega)]
  · rw [if_neg h, bt_ge (n := 32) hr (by omega)]
    split <;> rfl
theorem rs_ev {r b : Nat} (hr : r < 4294967296) (hb : b ≤ 1) {e : Nat} (h1 : 1 ≤ e) (h8 : e ≤ 8) : ev (nb 32 (rs r b)) (E e) = gmul (ev (nb 32 r) (E e)) (E e) ^^^ b := by
  have hy := E_lt e
  have e0 : ev (nb 33 (2 * r + b)) (E e) = gmul (ev (nb 32 r) (E e)) (E e) ^^^ b := by
    rw [nb, show (2 * r + b) % 2 = b from by omega, show (2 * r + b) / 2 = r from by omega]
    rfl
  rw [← ev_nb_more (rs_lt hr hb) hy]
  by_cases h : 2 * r + b < 4294967296
  · rw [rs_small h, e0]
  · rw [rs_big hr hb h, ev_nb_xor _ _ _ hy, e0, rule_gen, genP_roots e (gRoots_first h1 h8), Nat.xor_zero]

/-- A word's bits from the highest down. -/
def downB (p : List Nat) : Nat → List Nat
  | 0 => []
  | i + 1 => cf p i :: downB p i
/-- What is left. -/
def restF (w : List Nat) : Nat := (downB (wb w) (8 * w.length)).foldl rs 0

theorem rest_down {p : List Nat} (hp : Bin p) : ∀ (i : Nat), i ≤ p.length → ∀ v, v < 4294967296 → (∀ e, 1 ≤ e → e ≤ 8 → ev (nb 32 v) (E e) = ev (p.drop i) (E e)) →
    (downB p i).foldl rs v < 4294967296 ∧ ∀ e, 1 ≤ e → e ≤ 8 → ev (nb 32 ((downB p i).foldl rs v)) (E e) = ev p (E e) := by
  intro i
  induction i with
  | zero => intro _ v hv h; exact ⟨hv, fun e h1 h8 => by simpa [downB] using h e h1 h8⟩
  | succ i ih =>
    intro hi v hv h
    rw [downB, List.foldl_cons]
    exact ih (by omega) _ (rs_lt hv (hp i)) (fun e h1 h8 => by rw [rs_ev hv (hp i) h1 h8, h e h1 h8, ← ev_drop (by omega)])

theorem ev_nb_nought (n : Nat) {y : Nat} (hy : y < 256) : ev (nb n 0) y = 0 := ev_nought hy (fun i => by
  rw [cf_nb]
  split
  · simp [bt]
  · rfl)

theorem rest_facts (w : List Nat) : restF w < 4294967296 ∧ ∀ e, 1 ≤ e → e ≤ 8 → ev (nb 32 (restF w)) (E e) = syn w e := by
  refine rest_down (wb_bin w) (8 * w.length) (by rw [wb_len]; exact Nat.le_refl _) 0 (by omega) (fun e _ _ => ?_)
  rw [ev_nb_nought _ (E_lt e), List.drop_eq_nil_of_le (by rw [wb_len]; exact Nat.le_refl _)]
  rfl
theorem rest_lt (w : List Nat) : restF w < 4294967296 := (rest_facts w).1

theorem nb_zero {r : Nat} (hr : r < 4294967296) (h : ∀ i, cf (nb 32 r) i = 0) : r = 0 := by
  apply Nat.eq_of_testBit_eq
  intro i
  rw [Nat.zero_testBit]
  by_cases hi : i < 32
  · have := h i
    rw [cf_nb, if_pos hi, bt_test] at this
    cases hb : r.testBit i with
    | false => rfl
    | true => rw [hb] at this; simp at this
  · exact Nat.testBit_lt_two_pow (Nat.lt_of_lt_of_le (show r < 2 ^ 32 from hr) (Nat.pow_le_pow_right (by omega) (by omega)))

/-- Nothing is left of codewords alone. -/
theorem rest_code {w : List Nat} (hl : w.length = 28) (hb : Bs w) : restF w = 0 ↔ Code w := by
  obtain ⟨h0, h⟩ := rest_facts w
  constructor
  · intro hz
    refine ⟨hl, hb, fun e h1 h8 => ?_⟩
    rw [← h e h1 h8, hz, ev_nb_nought _ (E_lt e)]
  · intro hc
    have z : ∀ e, 1 ≤ e → e ≤ 8 → ev (nb 32 (restF w)) (E e) = 0 := fun e h1 h8 => by rw [h e h1 h8, hc.syn e h1 h8]
    exact nb_zero h0 (short_nought (nb_bin _ _) (by rw [nb_len]; omega) (z 1 (by omega) (by omega)) (z 3 (by omega) (by omega)) (z 5 (by omega) (by omega)) (z 7 (by omega) (by omega)))

/-- A number's four bytes. -/
def by4 (r : Nat) : List Nat := [r % 256, r / 256 % 256, r / 65536 % 256, r / 16777216 % 256]
theorem cf_by4 (r : Nat) {j : Nat} (h : j < 4) : cf (by4 r) j = r / 2 ^ (8 * j) % 256 := by
  match j, h with
  | 0, _ => simp [by4]
  | 1, _ => rfl
  | 2, _ => rfl
  | 3, _ => rfl
theorem by4_bs (r : Nat) : Bs (by4 r) := Bs.of (fun x hx => by simp [by4] at hx; omega)
theorem bt_byte (r j k : Nat) (hk : k < 8) : bt (r / 2 ^ (8 * j) % 256) k = bt r (8 * j + k) := by
  rw [bt_test, bt_test, show (256 : Nat) = 2 ^ 8 from rfl, Nat.testBit_mod_two_pow, Nat.testBit_div_two_pow, decide_eq_true hk, Bool.true_and, Nat.add_comm]

/-- The codeword by what is left. -/
theorem enc_rest {d : List Nat} (hd : Bs d) (hl : d.length = 24) : IsEnc d (by4 (restF (List.replicate 4 0 ++ d)) ++ d) := by
  have hf := rest_facts (List.replicate 4 0 ++ d)
  generalize restF (List.replicate 4 0 ++ d) = r at hf
  obtain ⟨hr, hs⟩ := hf
  have hc : ∀ i, cf (wb (by4 r ++ List.replicate 24 0)) i = cf (nb 32 r) i := fun i => by
    rw [cf_wb, cf_append, cf_nb, show (by4 r).length = 4 from rfl]
    by_cases h : i < 32
    · rw [if_pos (by omega), if_pos h, cf_by4 r (by omega), bt_byte _ _ _ (by omega), show 8 * (i / 8) + i % 8 = i from by omega]
    · rw [if_neg (by omega), if_neg h, cf_replicate]
      simp [bt]
  have := enc_made (d := d) (rest := by4 r ++ List.replicate 24 0) hd hl (fun i => by
      rw [cf_append]
      split
      · exact by4_bs r i
      · rw [cf_replicate]; omega) (by simp [by4]) (fun e h1 h8 => by rw [← hs e h1 h8]; exact ev_congr (E_lt e) hc) (fun i hi => by rw [hc, cf_nb, if_neg (by omega)])
  have e4 : (by4 r ++ List.replicate 24 0).take 4 = by4 r := rfl
  rwa [e4] at this

/-- The field's numbers, to reckon with. -/
structure Fb where
  v : Nat
  h : v < 256
theorem Fb.ext' {a b : Fb} (h : a.v = b.v) : a = b := by cases a; cases b; cases h; rfl
instance : Add Fb := ⟨fun a b => ⟨a.v ^^^ b.v, xor_lt a.h b.h⟩⟩
instance : Mul Fb := ⟨fun a b => ⟨gmul a.v b.v, gmul_lt a.h⟩⟩
instance : OfNat Fb 0 := ⟨⟨0, by omega⟩⟩
theorem Fb.addv (a b : Fb) : (a + b).v = a.v ^^^ b.v := rfl
theorem Fb.mulv (a b : Fb) : (a * b).v = gmul a.v b.v := rfl
theorem Fb.zerov : (0 : Fb).v = 0 := rfl
theorem Fb.ac (a b : Fb) : a + b = b + a := Fb.ext' (Nat.xor_comm _ _)
theorem Fb.aa (a b c : Fb) : a + b + c = a + (b + c) := Fb.ext' (Nat.xor_assoc _ _ _)
theorem Fb.al (a b c : Fb) : a + (b + c) = b + (a + c) := Fb.ext' (xor_swap _ _ _)
theorem Fb.mc (a b : Fb) : a * b = b * a := Fb.ext' (gmul_comm a.h b.h)
theorem Fb.ma (a b c : Fb) : a * b * c = a * (b * c) := Fb.ext' (gmul_assoc a.h b.h c.h)
theorem Fb.ml (a b c : Fb) : a * (b * c) = b * (a * c) := by rw [← Fb.ma, Fb.mc a b, Fb.ma]
theorem Fb.ld (a b c : Fb) : a * (b + c) = a * b + a * c := Fb.ext' (gmul_xor _ _ _)
theorem Fb.rd (a b c : Fb) : (a + b) * c = a * c + b * c := Fb.ext' (xor_gmul a.h b.h c.h)
theorem Fb.self (a : Fb) : a + a = 0 := Fb.ext' (Nat.xor_self _)
theorem Fb.twice (a b : Fb) : a + (a + b) = b := by rw [← Fb.aa, Fb.self]; exact Fb.ext' (Nat.zero_xor _)
theorem Fb.az (a : Fb) : a + 0 = a := Fb.ext' (Nat.xor_zero _)
theorem Fb.za (a : Fb) : 0 + a = a := Fb.ext' (Nat.zero_xor _)
theorem Fb.mz (a : Fb) : a * 0 = 0 := Fb.ext' (gmul_zero _)
theorem Fb.zm (a : Fb) : 0 * a = 0 := Fb.ext' (zero_gmul a.h)
theorem Fb.none {a b : Fb} (h : a * b = 0) : a = 0 ∨ b = 0 := by
  by_cases ha : a.v = 0
  · exact .inl (Fb.ext' ha)
  · by_cases hb : b.v = 0
    · exact .inr (Fb.ext' hb)
    · exact absurd (congrArg Fb.v h) (gmul_ne a.h b.h ha hb)
theorem Fb.sum {a b : Fb} (h : a + b = 0) : a = b := Fb.ext' (xor_eq_nought (congrArg Fb.v h))

theorem sym_d (X Y Z : Fb) : (X + (Y + Z)) * (X * X + (Y * Y + Z * Z)) + (X * (X * X) + (Y * (Y * Y) + Z * (Z * Z))) = (X + Y) * ((Y + Z) * (X + Z)) := by
  simp only [Fb.ld, Fb.aa, Fb.ac, Fb.al, Fb.mc, Fb.ml, Fb.self, Fb.twice, Fb.az]
theorem sym_c (X Y Z : Fb) : (X * X + (Y * Y + Z * Z)) * (X * (X * X) + (Y * (Y * Y) + Z * (Z * Z))) + (X * (X * (X * (X * X))) + (Y * (Y * (Y * (Y * Y))) + Z * (Z * (Z * (Z * Z))))) = (X * Y + (Y * Z + X * Z)) * ((X + Y) * ((Y + Z) * (X + Z))) := by
  simp only [Fb.ld, Fb.aa, Fb.ac, Fb.al, Fb.mc, Fb.ml, Fb.self, Fb.twice, Fb.az]
theorem sym_e (X Y Z : Fb) : (X * Y + (Y * Z + X * Z)) * (X + (Y + Z)) + (X + Y) * ((Y + Z) * (X + Z)) = X * (Y * Z) := by
  simp only [Fb.ld, Fb.aa, Fb.ac, Fb.al, Fb.mc, Fb.ml, Fb.self, Fb.twice, Fb.az]
theorem sym_f (X Y Z x : Fb) : ((x + (X + (Y + Z))) * x + (X * Y + (Y * Z + X * Z))) * x + X * (Y * Z) = (x + X) * ((x + Y) * (x + Z)) := by
  simp only [Fb.ld, Fb.aa, Fb.ac, Fb.al, Fb.mc, Fb.ml]

/-- The cubic whose roots are the powers of 2 at the places of the wrong bits. -/
def cubD (s1 s2 s3 : Nat) : Nat := gmul s1 s2 ^^^ s3
def cub2 (s1 s2 s3 s5 : Nat) : Nat := gmul (gmul s2 s3 ^^^ s5) (pw (cubD s1 s2 s3) (-1))
def cub3 (s1 s2 s3 s5 : Nat) : Nat := gmul (cub2 s1 s2 s3 s5) s1 ^^^ cubD s1 s2 s3
def cub (s1 s2 s3 s5 : Nat) : List Nat := [cub3 s1 s2 s3 s5, cub2 s1 s2 s3 s5, s1, 1]
theorem cubD_lt {s1 s2 s3 : Nat} (h1 : s1 < 256) (h3 : s3 < 256) : cubD s1 s2 s3 < 256 := xor_lt (gmul_lt h1) h3
theorem cub2_lt {s1 s2 s3 s5 : Nat} (h2 : s2 < 256) (h5 : s5 < 256) : cub2 s1 s2 s3 s5 < 256 := gmul_lt (xor_lt (gmul_lt h2) h5)
theorem cub3_lt {s1 s2 s3 s5 : Nat} (h1 : s1 < 256) (h2 : s2 < 256) (h3 : s3 < 256) (h5 : s5 < 256) : cub3 s1 s2 s3 s5 < 256 := xor_lt (gmul_lt (cub2_lt h2 h5)) (cubD_lt h1 h3)
theorem cub_bs {s1 s2 s3 s5 : Nat} (h1 : s1 < 256) (h2 : s2 < 256) (h3 : s3 < 256) (h5 : s5 < 256) : Bs (cub s1 s2 s3 s5) :=
  Bs.cons (cub3_lt h1 h2 h3 h5) (Bs.cons (cub2_lt h2 h5) (Bs.cons h1 (Bs.cons (by omega) Bs.nil)))
theorem ev_four {c3 c2 s1 x : Nat} (hx : x < 256) : ev [c3, c2, s1, 1] x = gmul (gmul (x ^^^ s1) x ^^^ c2) x ^^^ c3 := by
  have : ev [c3, c2, s1, 1] x = gmul (gmul (gmul (gmul 0 x ^^^ 1) x ^^^ s1) x ^^^ c2) x ^^^ c3 := rfl
  rw [this, zero_gmul hx, Nat.zero_xor, one_gmul hx]

/-- Of two or three (one of them may be nought) that are unlike. -/
theorem cub_three (X Y Z x : Fb) (h1 : X ≠ Y) (h2 : Y ≠ Z) (h3 : X ≠ Z) {s1 s2 s3 s5 : Nat} (e1 : s1 = (X + (Y + Z)).v) (e2 : s2 = (X * X + (Y * Y + Z * Z)).v) (e3 : s3 = (X * (X * X) + (Y * (Y * Y) + Z * (Z * Z))).v) (e5 : s5 = (X * (X * (X * (X * X))) + (Y * (Y * (Y * (Y * Y))) + Z * (Z * (Z * (Z * Z))))).v) :
    ev (cub s1 s2 s3 s5) x.v = 0 ↔ x = X ∨ x = Y ∨ x = Z := by
  have hd : cubD s1 s2 s3 = ((X + Y) * ((Y + Z) * (X + Z))).v := by rw [← sym_d, e1, e2, e3]; rfl
  have hd0 : cubD s1 s2 s3 ≠ 0 := by
    intro h
    rw [hd] at h
    rcases Fb.none (Fb.ext' h) with h | h
    · exact h1 (Fb.sum h)
    · rcases Fb.none h with h | h
      · exact h2 (Fb.sum h)
      · exact h3 (Fb.sum h)
  have hdl : cubD s1 s2 s3 < 256 := by rw [hd]; exact Fb.h _
  have hc : cub2 s1 s2 s3 s5 = (X * Y + (Y * Z + X * Z)).v := by
    have e : gmul s2 s3 ^^^ s5 = gmul (X * Y + (Y * Z + X * Z)).v (cubD s1 s2 s3) := by
      have := congrArg Fb.v (sym_c X Y Z)
      rw [hd, e2, e3, e5]
      exact this
    unfold cub2
    rw [e, gmul_assoc (Fb.h _) hdl (pw_lt _ _), gmul_inv hdl hd0, gmul_one (Fb.h _)]
  have h3' : cub3 s1 s2 s3 s5 = (X * (Y * Z)).v := by
    unfold cub3
    rw [hc, hd, e1, ← sym_e X Y Z]
    rfl
  have he : ev (cub s1 s2 s3 s5) x.v = ((x + X) * ((x + Y) * (x + Z))).v := by
    rw [cub, ev_four x.h, hc, h3', e1, ← sym_f X Y Z x]
    rfl
  rw [he]
  constructor
  · intro h
    rcases Fb.none (Fb.ext' (b := 0) h) with h | h
    · exact .inl (Fb.sum h)
    · rcases Fb.none h with h | h
      · exact .inr (.inl (Fb.sum h))
      · exact .inr (.inr (Fb.sum h))
  · rintro (rfl | rfl | rfl)
    · rw [Fb.self, Fb.zm]; rfl
    · rw [Fb.self, Fb.zm, Fb.mz]; rfl
    · rw [Fb.self, Fb.mz, Fb.mz]; rfl

/-- Of one. -/
theorem cub_one (X x : Fb) (h0 : x.v ≠ 0) {s1 s2 s3 s5 : Nat} (e1 : s1 = X.v) (e2 : s2 = (X * X).v) (e3 : s3 = (X * (X * X)).v) : ev (cub s1 s2 s3 s5) x.v = 0 ↔ x = X := by
  have hd : cubD s1 s2 s3 = 0 := by
    unfold cubD
    rw [e1, e2, e3]
    exact Nat.xor_self _
  have hc : cub2 s1 s2 s3 s5 = 0 := by
    unfold cub2
    rw [hd, pw_zero (by omega), gmul_zero]
  have h3' : cub3 s1 s2 s3 s5 = 0 := by
    unfold cub3
    rw [hc, hd, e1, zero_gmul X.h]
    rfl
  rw [cub, ev_four x.h, hc, h3', e1, Nat.xor_zero, Nat.xor_zero]
  constructor
  · intro h
    have h' : (x + X) * x * x = 0 := Fb.ext' h
    rcases Fb.none h' with h | h
    · rcases Fb.none h with h | h
      · exact Fb.sum h
      · exact absurd (congrArg Fb.v h) h0
    · exact absurd (congrArg Fb.v h) h0
  · rintro rfl
    rw [Nat.xor_self, zero_gmul x.h, zero_gmul x.h]

/-- The power of 2 at a place. -/
def Ef (k : Nat) : Fb := ⟨E k, E_lt k⟩
theorem Ef_inj {a b : Nat} (ha : a < 255) (hb : b < 255) (h : Ef a = Ef b) : a = b := E_inj ha hb (congrArg Fb.v h)
theorem Ef_two (k : Nat) : (Ef k * Ef k).v = E (k * 2) := by show gmul (E k) (E k) = _; rw [gmul_E]; congr 1; omega
theorem Ef_three (k : Nat) : (Ef k * (Ef k * Ef k)).v = E (k * 3) := by show gmul (E k) (gmul (E k) (E k)) = _; rw [gmul_E, gmul_E]; congr 1; omega
theorem Ef_five (k : Nat) : (Ef k * (Ef k * (Ef k * (Ef k * Ef k)))).v = E (k * 5) := by show gmul (E k) (gmul (E k) (gmul (E k) (gmul (E k) (E k)))) = _; rw [gmul_E, gmul_E, gmul_E, gmul_E]; congr 1; omega
theorem Ef_ne (k : Nat) : Ef k ≠ 0 := fun h => by
  have := congrArg Fb.v h
  have h2 := E_ne k
  change E k = 0 at this
  omega

def cubS (S : Nat → Nat) : List Nat := cub (S 1) (S 2) (S 3) (S 5)

/-- The roots among the powers of 2 are those of the places, where these are one, two or three. -/
theorem cub_roots {S : Nat → Nat} {m : List Nat} (h : Good S m) (h3 : m.length ≤ 3) (h0 : m ≠ []) {k : Nat} (hk : k < 224) : ev (cubS S) (E k) = 0 ↔ k ∈ m := by
  have q1 := h.eq 1 (by omega) (by omega)
  have q2 := h.eq 2 (by omega) (by omega)
  have q3 := h.eq 3 (by omega) (by omega)
  have q5 := h.eq 5 (by omega) (by omega)
  have hn := h.nd
  have hlt := h.lt
  unfold cubS
  match m, h3 with
  | [], _ => exact absurd rfl h0
  | [a], _ =>
    have ha := hlt a (by simp)
    simp only [xsum_cons, xsum_nil, Nat.xor_zero, Nat.mul_one] at q1 q2 q3 q5
    have := cub_one (Ef a) (Ef k) (by have := E_ne k; show E k ≠ 0; omega) (s1 := S 1) (s2 := S 2) (s3 := S 3) (s5 := S 5) q1.symm (by rw [Ef_two]; exact q2.symm) (by rw [Ef_three]; exact q3.symm)
    refine this.trans ⟨fun e => ?_, fun e => ?_⟩
    · rw [Ef_inj (by omega) (by omega) e]; simp
    · rw [List.mem_singleton.1 e]
  | [a, b], _ =>
    have ha := hlt a (by simp)
    have hb := hlt b (by simp)
    have hab : a ≠ b := by simpa using hn
    simp only [xsum_cons, xsum_nil, Nat.xor_zero, Nat.mul_one] at q1 q2 q3 q5
    have := cub_three (Ef a) (Ef b) 0 (Ef k) (fun e => hab (Ef_inj (by omega) (by omega) e)) (Ef_ne b) (Ef_ne a) (s1 := S 1) (s2 := S 2) (s3 := S 3) (s5 := S 5)
      (by rw [Fb.az]; exact q1.symm)
      (by rw [Fb.mz, Fb.az, Fb.addv, Ef_two, Ef_two]; exact q2.symm)
      (by rw [Fb.mz, Fb.mz, Fb.az, Fb.addv, Ef_three, Ef_three]; exact q3.symm)
      (by rw [Fb.mz, Fb.mz, Fb.mz, Fb.mz, Fb.az, Fb.addv, Ef_five, Ef_five]; exact q5.symm)
    refine this.trans ⟨fun e => ?_, fun e => ?_⟩
    · rcases e with e | e | e
      · rw [Ef_inj (by omega) (by omega) e]; simp
      · rw [Ef_inj (by omega) (by omega) e]; simp
      · exact absurd e (Ef_ne k)
    · rcases List.mem_cons.1 e with e | e
      · exact .inl (by rw [e])
      · exact .inr (.inl (by rw [List.mem_singleton.1 e]))
  | [a, b, c], _ =>
    have ha := hlt a (by simp)
    have hb := hlt b (by simp)
    have hc := hlt c (by simp)
    have hn' : (a ≠ b ∧ a ≠ c) ∧ b ≠ c := by simpa using hn
    obtain ⟨⟨hab, hac⟩, hbc⟩ := hn'
    simp only [xsum_cons, xsum_nil, Nat.xor_zero, Nat.mul_one] at q1 q2 q3 q5
    have := cub_three (Ef a) (Ef b) (Ef c) (Ef k) (fun e => hab (Ef_inj (by omega) (by omega) e)) (fun e => hbc (Ef_inj (by omega) (by omega) e)) (fun e => hac (Ef_inj (by omega) (by omega) e)) (s1 := S 1) (s2 := S 2) (s3 := S 3) (s5 := S 5)
      q1.symm
      (by rw [Fb.addv, Fb.addv, Ef_two, Ef_two, Ef_two]; exact q2.symm)
      (by rw [Fb.addv, Fb.addv, Ef_three, Ef_three, Ef_three]; exact q3.symm)
      (by rw [Fb.addv, Fb.addv, Ef_five, Ef_five, Ef_five]; exact q5.symm)
    refine this.trans ⟨fun e => ?_, fun e => ?_⟩
    · rcases e with e | e | e
      · rw [Ef_inj (by omega) (by omega) e]; simp
      · rw [Ef_inj (by omega) (by omega) e]; simp
      · rw [Ef_inj (by omega) (by omega) e]; simp
    · rcases List.mem_cons.1 e with e | e
      · exact .inl (by rw [e])
      · rcases List.mem_cons.1 e with e | e
        · exact .inr (.inl (by rw [e]))
        · exact .inr (.inr (by rw [List.mem_singleton.1 e]))

/-- The places that are found. -/
def vals (r : Nat) : Nat → Nat := fun e => ev (nb 32 r) (E e)
def rootsOf (r : Nat) : List Nat := (List.range 224).filter (fun k => ev (cubS (vals r)) (E k) == 0)
def found (r : Nat) : List Nat := if r = 0 then [] else rootsOf r

theorem vals_lt (r e : Nat) : vals r e < 256 := ev_lt (nb_bin _ _).bs
theorem cubS_bs (r : Nat) : Bs (cubS (vals r)) := cub_bs (vals_lt _ _) (vals_lt _ _) (vals_lt _ _) (vals_lt _ _)
theorem roots_mem {r k : Nat} : k ∈ rootsOf r ↔ k < 224 ∧ ev (cubS (vals r)) (E k) = 0 := by
  unfold rootsOf
  rw [List.mem_filter, List.mem_range, beq_iff_eq]
theorem roots_nodup (r : Nat) : (rootsOf r).Nodup := List.Pairwise.filter _ List.nodup_range
theorem roots_len (r : Nat) : (rootsOf r).length ≤ 3 := by
  by_cases h : (rootsOf r).length ≤ 3
  · exact h
  · exfalso
    have := roots_few (xs := (rootsOf r).map E) (cubS_bs r) (fun x hx => by
      obtain ⟨k, _, rfl⟩ := List.mem_map.1 hx
      exact E_lt k) (nodup_map (fun a ha b hb e => E_inj (by have := (roots_mem.1 ha).1; omega) (by have := (roots_mem.1 hb).1; omega) e) (roots_nodup r)) (fun x hx => by
      obtain ⟨k, hk, rfl⟩ := List.mem_map.1 hx
      exact (roots_mem.1 hk).2) (by rw [List.length_map]; show 4 ≤ _; omega) 3
    exact absurd this (by show (1 : Nat) ≠ 0; omega)
theorem found_lt (r : Nat) : ∀ k ∈ found r, k < 224 := by
  unfold found
  split
  · simp
  · exact fun k hk => (roots_mem.1 hk).1
theorem found_nodup (r : Nat) : (found r).Nodup := by
  unfold found
  split
  · simp
  · exact roots_nodup r
theorem found_len (r : Nat) : (found r).length ≤ 3 := by
  unfold found
  split
  · simp
  · exact roots_len r

/-- **What is found is what is to be told.** -/
theorem found_told {w : List Nat} (hl : w.length = 28) (hb : Bs w) : (restF (flips w (found (restF w))) = 0 → Told w (some (found (restF w)))) ∧ (restF (flips w (found (restF w))) ≠ 0 → Told w none) := by
  have hlt : ∀ k ∈ found (restF w), k < 8 * w.length := fun k hk => by rw [hl]; exact found_lt _ k hk
  constructor
  · intro h
    have hc := (rest_code (by rw [flips_len, hl]) (flips_bs hb _)).1 h
    refine .near _ ⟨found_nodup _, found_lt _, fun e h1 h8 => ?_⟩ (found_len _)
    have := hc.syn e h1 h8
    rw [syn_flips hlt] at this
    exact (xor_eq_nought this).symm
  · intro h
    refine .far (fun m hm => ?_)
    by_cases h4 : 4 ≤ m.length
    · exact h4
    · exfalso
      have hr0 : restF w ≠ 0 := fun hz => h (by rw [found, if_pos hz]; exact hz)
      have hm0 : m ≠ [] := fun e => by
        subst e
        have hz := good_nil.1 hm
        exact hr0 ((rest_code hl hb).2 ⟨hl, hb, hz⟩)
      have hv : Good (vals (restF w)) m := ⟨hm.nd, hm.lt, fun e h1 h8 => by rw [hm.eq e h1 h8]; exact ((rest_facts w).2 e h1 h8).symm⟩
      have hmem : ∀ k, k ∈ found (restF w) ↔ k ∈ m := fun k => by
        rw [found, if_neg hr0, roots_mem]
        constructor
        · rintro ⟨h1, h2⟩
          exact (cub_roots hv (by omega) hm0 h1).1 h2
        · intro hk
          exact ⟨hm.lt k hk, (cub_roots hv (by omega) hm0 (hm.lt k hk)).2 hk⟩
      have e : flips w (found (restF w)) = flips w m := by
        refine eq_of_cf (by rw [flips_len, flips_len]) (wb_ext (flips_bs hb _) (flips_bs hb _) (fun i => ?_))
        rw [wb_flips hlt (found_nodup _), wb_flips (fun k hk => by rw [hl]; exact hm.lt k hk) hm.nd]
        congr 1
        by_cases hi : i ∈ m
        · rw [if_pos hi, if_pos ((hmem i).2 hi)]
        · rw [if_neg hi, if_neg (fun h => hi ((hmem i).1 h))]
      rw [e] at h
      exact h ((rest_code (by rw [flips_len, hl]) (flips_bs hb _)).2 (hm.code hl hb))

end Go.Proofs.Ytkhpoomajebgoab

namespace Go.Proofs.Ytkhpoomajebgoab
open Go.RowKit Go.Shelf
attribute [local go_sem] Oper.semAt_some

set_option maxHeartbeats 1000000 in
theorem falling_any (v : Value) (w : World) (hv : ∃ ao n c, v = .slice ao n c) : Calls Try.prog 51 #[v] w fun e w' =>
    ∃ b, e = .returned (.func (.func 59) #[] #[.pointer (some ⟨b, 0, none⟩)]) ∧ w'.cell? ⟨b, 0, none⟩ = some v ∧ w.heap.size ≤ b ∧ b < w'.heap.size ∧ Below w.heap.size w w' := by
  obtain ⟨ao, n, c, rfl⟩ := hv
  go_enter Try.func51, Try.ntmps51
  go_wp2
  go_ret
  exact ⟨_, rfl, (cell_new' w _ _).1, Nat.le_refl _, by simp, (Below.refl _ w).alloc (Nat.le_refl _) _⟩

theorem cf_wb8 (s : List Nat) (j m : Nat) (hm : m < 8) : cf (wb s) (8 * j + m) = bt (cf s j) m := by
  rw [cf_wb, show (8 * j + m) / 8 = j from by omega, show (8 * j + m) % 8 = m from by omega]

theorem u64_bt (x m : Nat) : IntKind.u64.wrap ((bt x m : Nat) : Int) = ((bt x m : Nat) : Int) := IntWalk.u64_in _ ⟨by omega, by have := bt_le x m; omega⟩

set_option maxRecDepth 100000 in
set_option maxHeartbeats 4000000 in
theorem falling_in (S : List Nat) (n l B n₀ : Nat) (ao : Option Addr) (g N c : Nat) (s : List Nat) (hs : s.length = N) (hbs : Bs s) (hNc : N ≤ 1000000) (J Jx : List (Fin 2) → World → Prop)
    (hY : ∀ pre (x : Fin 2) W, J pre W → pre.length < 8 * N → YieldAt Fence.wide (n - 1) Try.prog l #[.int .u64 x.val] W fun e W' =>
      (e = .returned (.bool true) ∧ J (pre ++ [x]) W' ∧ Kq S n₀ W W') ∨ (e = .returned (.bool false) ∧ Jx (pre ++ [x]) W'))
    (W : World) (hcap : W.cell? ⟨B, 0, none⟩ = some (.slice ao N c)) (hrow : Row W ao g (ints s)) (hg : s ≠ [] → g < n₀ ∧ g ∉ S) (hB : B < n₀) (sB : B ∉ S) (h0 : J [] W) :
    CallsIn Fence.wide n Try.prog 59 #[.func (.yield l) #[] #[], .pointer (some ⟨B, 0, none⟩)] W fun e W' => (∃ v, e = .returned v) ∧
      ((∃ ys, ys.map Fin.val = downB (wb s) (8 * N) ∧ J ys W') ∨ (∃ pre, True ∧ Jx pre W')) := by
  have HR := hide hrow
  have HS := hide hs
  have HC := hide hcap
  clear hrow hs
  refine callsIn_of_wp Try.func59 rfl trivial ?_ rfl
  simp only [Try.ntmps59, List.size_toArray, List.length_cons, List.length_nil, Nat.reduceAdd, Nat.reduceSub, Array.replicate_succ, Array.replicate_zero, List.push_toArray, List.append_toArray, List.nil_append, List.cons_append]
  gi_wp2
  clear hcap
  gi_loopw [3] (fun q wr => ∃ (pre : List (Fin 2)) (i : Nat), q = .int .i64 ((i : Int) - 1) ∧ i ≤ 8 * N ∧ pre.length + i = 8 * N ∧ pre.map Fin.val ++ downB (wb s) i = downB (wb s) (8 * N) ∧ J pre wr ∧ Row wr ao g (ints s) ∧ wr.cell? ⟨B, 0, none⟩ = some (.slice ao N c)) (fun q _ => (intOf q + 1).toNat)
  case atStart => exact ⟨[], 8 * N, by go_num, by omega, by simp, by simp, h0, unhide HR, unhide HC⟩
  case round =>
    obtain ⟨pre, i, rfl, hi, hl, hp, hJ1, hr1, hc1⟩ := hrel
    have HP := hide hp
    have HR1 := hide hr1
    have HC1 := hide hc1
    clear hp hr1
    have HS' := unhide HS
    by_cases hlt : 0 < i
    · obtain ⟨k, rfl⟩ : ∃ k, i = k + 1 := ⟨i - 1, by omega⟩
      have hm : k % 8 < 8 := by omega
      have HK := hide (show k = 8 * (k / 8) + k % 8 by omega)
      have hjN : k / 8 < N := by omega
      obtain ⟨o, rfl⟩ := row_some (unhide HR1) (by omega)
      have hc := row_cell (unhide HR1) (j := k / 8) (by omega)
      clear HS'
      have hb2 : bt (cf s (k / 8)) (k % 8) < 2 := by have := bt_le (cf s (k / 8)) (k % 8); omega
      obtain ⟨fn, tmps, assign, body, hy1, hR⟩ := hY pre ⟨bt (cf s (k / 8)) (k % 8), hb2⟩ wr hJ1 (by omega)
      dsimp only at hy1
      have HP' : Hid ((pre ++ [(⟨bt (cf s (k / 8)) (k % 8), hb2⟩ : Fin 2)]).map Fin.val ++ downB (wb s) k = downB (wb s) (8 * N)) := by
        show _ = _
        rw [← unhide HP, List.map_append, List.append_assoc]
        show _ ++ (bt (cf s (k / 8)) (k % 8) :: downB (wb s) k) = _
        rw [← cf_wb8 s (k / 8) (k % 8) hm, ← unhide HK]
        rfl
      have e1 : ((k + 1 : Nat) : Int) - 1 = (k : Int) := by omega
      rw [e1]
      clear e1
      have w1 := bit_u8 (k % 8) (hbs (k / 8))
      have w2 := u64_bt (cf s (k / 8)) (k % 8)
      gi_wp2
      refine ⟨fun h => absurd h (by simp [Fence.wide]), hR.mono ?_⟩
      rintro e W3 (⟨rfl, hJ3, hk3⟩ | ⟨rfl, hJx3⟩)
      · have HR3 := hide ((unhide HR1).kq hk3 hg)
        have HC3 := hide (hk3.cell (unhide HC1) hB sB)
        gi_wp2
        go_roundw
        case rel => exact ⟨pre ++ [(⟨bt (cf s (k / 8)) (k % 8), hb2⟩ : Fin 2)], k, by go_num, by omega, by simp; omega, unhide HP', hJ3, unhide HR3, unhide HC3⟩
        case measure => simp [intOf]
      · gi_wp2
        refine bodyPost_ret (results_none rfl _ _ _) rfl ?_
        exact ⟨⟨_, rfl⟩, .inr ⟨pre ++ [(⟨bt (cf s (k / 8)) (k % 8), hb2⟩ : Fin 2)], trivial, hJx3⟩⟩
    · have hi2 : i = 0 := by omega
      subst hi2
      have HP' := hide ((List.append_nil _).symm.trans (unhide HP))
      clear HS'
      gi_wp2
      go_end0
      exact ⟨⟨_, rfl⟩, .inl ⟨pre, unhide HP', hJ1⟩⟩

theorem falling_stops (S : List Nat) (n B n₀ : Nat) (ao : Option Addr) (g N c : Nat) (s : List Nat) (hs : s.length = N) (hbs : Bs s) (hNc : N ≤ 1000000) (w : World) (hcap : w.cell? ⟨B, 0, none⟩ = some (.slice ao N c)) (hrow : Row w ao g (ints s)) (hg : s ≠ [] → g < n₀ ∧ g ∉ S) (hB : B < n₀) (sB : B ∉ S) :
    SeqStopsK Fence.wide n Try.prog 59 #[.pointer (some ⟨B, 0, none⟩)] (fun x : Fin 2 => #[Value.int .u64 x.val]) (Kq S n₀) (fun ys => ys.map Fin.val = downB (wb s) (8 * N)) (fun _ => True) (8 * N) w := fun l J Jx W hW _ _ hY h0 =>
  falling_in S n l B n₀ ao g N c s hs hbs hNc J Jx hY W ((hW.cell (p := ⟨B, 0, none⟩) (block_lt_of_cell hcap)).trans hcap) (hrow.below hW) hg hB sB h0

theorem or_bit {r b : Nat} (hr : r < 4294967296) (hb : b < 2) : bits .or .u64 ((r : Int) * 2) (b : Int) = ((2 * r + b : Nat) : Int) := by
  have h := bits_or_u64_nat (2 * r) b (by omega) (by omega)
  have e : 2 * r ||| b = 2 * r + b := by
    have : b = 0 ∨ b = 1 := by omega
    rcases this with rfl | rfl
    · simp
    · exact (Nat.two_pow_add_eq_or_of_lt (i := 1) (b := 1) (by omega) r).symm
  rw [e] at h
  rw [show (r : Int) * 2 = ((2 * r : Nat) : Int) from by omega]
  exact h
theorem xor_rule {r b : Nat} (hr : r < 4294967296) (hb : b < 2) : bits .xor .u64 ((2 * r + b : Nat) : Int) (((2 * r + b : Nat) : Int) / 4294967296 * 8293925629) = ((rs r b : Nat) : Int) := by
  have h := bits_xor_u64_nat (2 * r + b) ((2 * r + b) / 4294967296 * rule) (by omega) (by have : (2 * r + b) / 4294967296 ≤ 1 := by omega
                                                                                          unfold rule; omega)
  rw [show (((2 * r + b : Nat) : Int) / 4294967296 * 8293925629) = (((2 * r + b) / 4294967296 * rule : Nat) : Int) from by unfold rule; omega]
  exact h
theorem rs_lt' {l : List (Fin 2)} : (l.map Fin.val).foldl rs 0 < 4294967296 := by
  have : ∀ (l : List (Fin 2)) (v : Nat), v < 4294967296 → (l.map Fin.val).foldl rs v < 4294967296 := by
    intro l
    induction l with
    | nil => intro v h; exact h
    | cons x l ih => intro v h; exact ih _ (rs_lt h (by omega))
  exact this l 0 (by omega)

set_option maxRecDepth 100000 in
set_option maxHeartbeats 4000000 in
theorem rest_any (v : Value) (g : Nat) (s : List Nat) (w : World) (hA : Arg w v g s) (hs : s.length ≤ 100000) :
    Calls Try.prog 37 #[v] w fun e W' => e = .returned (.int .u32 (restF s : Nat)) ∧ Below w.heap.size w W' := by
  obtain ⟨⟨ao, c, rfl, hc1, hc2, hnil, hr⟩, hbs⟩ := hA
  have HR := hide hr
  clear hr hnil
  refine (callsIn_wide (n := 3)).1 ?_
  refine callsIn_of_wp_marks Try.func37 rfl trivial ?_ rfl
  simp only [Try.ntmps37, List.size_toArray, List.length_cons, List.length_nil, Nat.reduceAdd, Nat.reduceSub, Array.replicate_succ, Array.replicate_zero, List.push_toArray, List.append_toArray, List.nil_append, List.cons_append]
  gi_wp2
  have HC5 : Hid ((w.alloc (.cells #[.int .u64 0] 81)).cell? ⟨w.heap.size, 0, none⟩ = some (.int .u64 0) ∧ (w.alloc (.cells #[.int .u64 0] 81)).frozen? ⟨w.heap.size, 0, none⟩ = false) := cell_new' w (.int .u64 0) 81
  have HW2 : Hid (Below w.heap.size w (w.alloc (.cells #[.int .u64 0] 81))) := (Below.refl _ w).alloc (Nat.le_refl _) _
  refine ⟨trivial, (callsIn_wide.2 (falling_any _ _ ⟨_, _, _, rfl⟩)).mono ?_⟩
  rintro e w2 ⟨b1, rfl, hcb, hb1, hb2, hk2⟩
  have hz2 := hk2.size
  simp only [World.size_alloc] at hz2 hb1
  have hw2 : Below w.heap.size w w2 := (unhide HW2).trans (hk2.mono (by simp))
  have c5 := box_below (unhide HC5) hk2 (block_lt_of_cell (unhide HC5).1)
  have hr2 := (unhide HR).below hw2
  clear hk2 HW2 HC5
  gi_wp2
  refine wpIn_rangeFunc_ownF rfl (by omega) (gf := 59) (lb := #[.pointer (some ⟨b1, 0, none⟩)]) rfl trivial (enters_of Try.func59 (by kernel_rfl) rfl)
    (falling_stops [w.heap.size] 2 b1 w2.heap.size ao g s.length c s rfl hbs (by omega) w2 hcb hr2 (fun h => ⟨hr2.block_lt h, by have := (unhide HR).block_lt h; simp; omega⟩) hb2 (by simp; omega))
    (fun h k => h.trans k) (kq_b (Nat.le_refl _)) (Below.refl _ _) (fun _ => rfl)
    (fun pre W => (W.cell? ⟨w.heap.size, 0, none⟩ = some (.int .u64 ((pre.map Fin.val).foldl rs 0 : Nat)) ∧ W.frozen? ⟨w.heap.size, 0, none⟩ = false) ∧ Below w.heap.size w W)
    (fun _ _ _ => False)
    (OwnFrom.and (Own.from (fun s A B row hs hg hr => ⟨cell_kept hs.1 hg hr, (frozen_kept hs.1 hg hr).trans hs.2⟩) _) (ownFrom_below (Nat.le_refl _) (by omega)))
    (fun _ _ _ _ _ hs _ _ => hs)
    ⟨c5, hw2⟩
    (fun x => { tmps := #[.slice ao s.length c, undef, .int .u32 0, .pointer (some ⟨w.heap.size, 0, none⟩), .int .u64 x.val, .slice ao s.length c, .func (.func 59) #[] #[.pointer (some ⟨b1, 0, none⟩)], .int .u64 x.val, undef, undef, undef, undef, undef, undef, undef, undef, undef, undef, undef], defers := [] }) ?assign ?body ?done ?stop
  case assign =>
    intro l x W K hK
    gi_wp2
    exact hK
  case body =>
    rintro l pre ⟨b, hb⟩ W ⟨⟨hc, hf⟩, hB⟩ _
    obtain ⟨r, hr⟩ : ∃ r, (pre.map Fin.val).foldl rs 0 = r := ⟨_, rfl⟩
    have hlt : r < 4294967296 := by rw [← hr]; exact rs_lt'
    rw [hr] at hc
    have HT := hide hr
    clear hr
    obtain ⟨y, hy⟩ : ∃ y, 2 * r + b = y := ⟨_, rfl⟩
    have q1 : bits .or .u64 ((r : Int) * 2) (b : Int) = (y : Int) := by rw [← hy]; exact or_bit hlt hb
    have q2 : bits .xor .u64 (y : Int) ((y : Int) / 4294967296 * 8293925629) = ((rs r b : Nat) : Int) := by rw [← hy]; exact xor_rule hlt hb
    have hy2 : y < 8589934592 := by omega
    clear hy
    gi_wp2
    refine ⟨(KeepsOthers.setCell _ _ _).trans (KeepsOthers.setCell _ _ _), ((Kq.refl _ _ W).setCell ⟨w.heap.size, 0, none⟩ _ (by simp)).setCell ⟨w.heap.size, 0, none⟩ _ (by simp), ⟨?_, by rw [World.frozen?_setCell, World.frozen?_setCell]; exact hf⟩, (hB.setCell (p := ⟨w.heap.size, 0, none⟩) (Nat.le_refl _) _).setCell (p := ⟨w.heap.size, 0, none⟩) (Nat.le_refl _) _⟩
    rw [List.map_append, List.foldl_append, unhide HT]
    exact World.cell?_setCell_same' _ _ _ (by rw [World.cell?_setCell_same' _ _ _ (by rw [hc]; rfl)]; rfl)
  case done =>
    rintro D ys W hD hys ⟨⟨hc, _⟩, hB⟩ hK
    rw [hys] at hc
    clear hys
    have hc' : W.cell? ⟨w.heap.size, 0, none⟩ = some (.int .u64 (restF s : Nat)) := hc
    clear hc
    have hlt := rest_lt s
    gi_wp2
    refine ⟨by simp, .inl ⟨_, _, rfl, run_takeDeferred hK, ?_⟩⟩
    exact ⟨_, results_tmp rfl _ _ _, rfl, hB.trans (belowK_b (w := w) (Nat.le_refl _) W D _ _ (by omega) hK rfl rfl)⟩
  case stop =>
    rintro D c pre W _ _ h _
    exact h.elim

end Go.Proofs.Ytkhpoomajebgoab

namespace Go.Proofs.Ytkhpoomajebgoab
open Go.RowKit Go.Shelf
attribute [local go_sem] Oper.semAt_some

theorem hor_lt {x : Nat} (l : List (Nat × Nat)) (h : ∀ y ∈ l, y.2 < 256) {v : Nat} (hv : v < 256) : l.foldl (hor x) v < 256 := by
  induction l generalizing v with
  | nil => exact hv
  | cons y l ih => exact ih (fun z hz => h z (List.mem_cons_of_mem _ hz)) (xor_lt (gmul_lt hv) (h y List.mem_cons_self))

set_option maxRecDepth 100000 in
set_option maxHeartbeats 4000000 in
theorem eval_any (v : Value) (g : Nat) (s : List Nat) (x : Nat) (w : World) (hA : Arg w v g s) (hs : s.length ≤ 100000) (hx : x < 256) :
    Calls Try.prog 57 #[v, .int .u8 x] w fun e W' => e = .returned (.int .u8 (ev s x : Nat)) ∧ Below w.heap.size w W' := by
  obtain ⟨⟨ao, c, rfl, hc1, hc2, hnil, hr⟩, hbs⟩ := hA
  have HR := hide hr
  clear hr hnil
  refine (callsIn_wide (n := 3)).1 ?_
  refine callsIn_of_wp_marks Try.func57 rfl trivial ?_ rfl
  simp only [Try.ntmps57, List.size_toArray, List.length_cons, List.length_nil, Nat.reduceAdd, Nat.reduceSub, Array.replicate_succ, Array.replicate_zero, List.push_toArray, List.append_toArray, List.nil_append, List.cons_append]
  gi_wp2
  have HC3 : Hid (((w.alloc (.cells #[.int .u8 (x : Int)] 5)).alloc (.cells #[.int .u8 0] 5)).cell? ⟨w.heap.size, 0, none⟩ = some (.int .u8 (x : Int))) :=
    (World.cell?_of_block (Below.heap_alloc _ _ _ (by simp))).trans (cell_new' w _ _).1
  have HC5 : Hid (((w.alloc (.cells #[.int .u8 (x : Int)] 5)).alloc (.cells #[.int .u8 0] 5)).cell? ⟨w.heap.size + 1, 0, none⟩ = some (.int .u8 0) ∧ ((w.alloc (.cells #[.int .u8 (x : Int)] 5)).alloc (.cells #[.int .u8 0] 5)).frozen? ⟨w.heap.size + 1, 0, none⟩ = false) := by
    have h := cell_new' (w.alloc (.cells #[.int .u8 (x : Int)] 5)) (.int .u8 0) 5
    rw [World.size_alloc] at h
    exact h
  have HW2 : Hid (Below w.heap.size w ((w.alloc (.cells #[.int .u8 (x : Int)] 5)).alloc (.cells #[.int .u8 0] 5))) := ((Below.refl _ w).alloc (Nat.le_refl _) _).alloc (by simp) _
  refine ⟨trivial, (callsIn_wide.2 (back_any _ _ ⟨_, _, _, rfl⟩)).mono ?_⟩
  rintro e w2 ⟨b1, rfl, hcb, hb1, hb2, hk2⟩
  have hz2 := hk2.size
  simp only [World.size_alloc] at hz2 hb1
  have hw2 : Below w.heap.size w w2 := (unhide HW2).trans (hk2.mono (by simp; omega))
  have c3 := (hk2.cell (block_lt_of_cell (unhide HC3))).trans (unhide HC3)
  have c5 := box_below (unhide HC5) hk2 (block_lt_of_cell (unhide HC5).1)
  have hr2 := (unhide HR).below hw2
  clear hk2 HW2 HC3 HC5
  gi_wp2
  refine wpIn_rangeFunc_ownF rfl (by omega) (gf := 69) (lb := #[.pointer (some ⟨b1, 0, none⟩)]) rfl trivial (enters_of Try.func69 (by kernel_rfl) rfl)
    (back_stops [w.heap.size + 1] 2 b1 w2.heap.size ao g s.length c s rfl hbs (by omega) w2 hcb hr2 (fun h => ⟨hr2.block_lt h, by have := (unhide HR).block_lt h; simp; omega⟩) hb2 (by simp; omega))
    (fun h k => h.trans k) (kq_b (Nat.le_refl _)) (Below.refl _ _) (fun _ => rfl)
    (fun pre W => ((W.cell? ⟨w.heap.size + 1, 0, none⟩ = some (.int .u8 ((pre.map it).foldl (hor x) 0 : Nat)) ∧ W.frozen? ⟨w.heap.size + 1, 0, none⟩ = false) ∧ W.cell? ⟨w.heap.size, 0, none⟩ = some (.int .u8 (x : Int))) ∧ Below w.heap.size w W ∧ Below 0 w2 W)
    (fun _ _ _ => False)
    (OwnFrom.and (Own.from (fun s A B row hs hg hr => ⟨⟨cell_kept hs.1.1 hg hr, (frozen_kept hs.1.1 hg hr).trans hs.1.2⟩, cell_kept hs.2 hg hr⟩) _) (OwnFrom.and (ownFrom_below (Nat.le_refl _) (by omega)) (ownFrom_below (by omega) (by omega))))
    (fun _ _ _ _ _ hs _ _ => hs)
    ⟨⟨c5, c3⟩, hw2, Below.refl _ _⟩
    (fun y => { tmps := #[.slice ao s.length c, .int .u8 x, undef, .pointer (some ⟨w.heap.size, 0, none⟩), .int .u8 0, .pointer (some ⟨w.heap.size + 1, 0, none⟩), undef, .int .u8 y.2.val, .slice ao s.length c, .func (.func 69) #[] #[.pointer (some ⟨b1, 0, none⟩)], .int .i64 y.1.val, .int .u8 y.2.val, undef, undef, undef, undef, undef, undef], defers := [] }) ?assign ?body ?done ?stop
  case assign =>
    intro l x W K hK
    gi_wp2
    exact hK
  case body =>
    rintro l pre ⟨⟨i, hi⟩, ⟨y, hy⟩⟩ W ⟨⟨⟨hc, hf⟩, hc3⟩, hB, hB0⟩ _
    have hz := hB0.size
    obtain ⟨t, ht⟩ : ∃ t, (pre.map it).foldl (hor x) 0 = t := ⟨_, rfl⟩
    have hlt : t < 256 := by rw [← ht]; exact hor_lt _ (fun z hz => by obtain ⟨q, _, rfl⟩ := List.mem_map.1 hz; exact q.2.isLt) (by omega)
    rw [ht] at hc
    have HT := hide ht
    clear ht
    have hxor := bits_xor_u8 (gmul_lt (b := x) hlt) hy
    gi_wp2
    refine ⟨trivial, (CallsIn.inRound l (callsIn_wide.2 (mul_any t x hlt hx W))).mono ?_⟩
    rintro e w4 ⟨rfl, hk4⟩
    have hc4 := (hk4.cell (block_lt_of_cell hc)).trans hc
    have hf4 := (World.frozen?_of_block (a := ⟨w.heap.size + 1, 0, none⟩) (hk4.block (w.heap.size + 1) (block_lt_of_cell hc))).trans hf
    have hc34 := (hk4.cell (block_lt_of_cell hc3)).trans hc3
    gi_wp2
    refine ⟨(kept_of_below hk4).trans (KeepsOthers.setCell _ _ _), ((Kq.refl _ _ W).below hk4 hz).setCell ⟨w.heap.size + 1, 0, none⟩ _ (by simp), ⟨⟨?_, by rw [World.frozen?_setCell]; exact hf4⟩, ?_⟩, (hB.trans (hk4.mono hB.size)).setCell (p := ⟨w.heap.size + 1, 0, none⟩) (by simp) _, (hB0.trans (hk4.mono (by omega))).setCell (p := ⟨w.heap.size + 1, 0, none⟩) (by omega) _⟩
    · rw [List.map_append, List.foldl_append, unhide HT]
      exact World.cell?_setCell_same' _ _ _ (by rw [hc4]; rfl)
    · rw [World.cell?_setCell_other _ _ _ _ (by simp)]
      exact hc34
  case done =>
    rintro D ys W hD hys ⟨⟨⟨hc, _⟩, _⟩, hB, _⟩ hK
    rw [hys, ev_made] at hc
    clear hys
    gi_wp2
    refine ⟨by simp, .inl ⟨_, _, rfl, run_takeDeferred hK, ?_⟩⟩
    exact ⟨_, results_tmp rfl _ _ _, rfl, hB.trans (belowK_b (w := w) (Nat.le_refl _) W D _ _ (by omega) hK rfl rfl)⟩
  case stop =>
    rintro D c pre W _ _ h _
    exact h.elim

end Go.Proofs.Ytkhpoomajebgoab
