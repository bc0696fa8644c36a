/-
  What is left of a word by the generator, as a number; the places of wrong bits by a cubic, without the program.
-/
import Derived.Test.YtahjcahmlangiaaPolF
namespace Go.Proofs.Ytahjcahmlangiaa

/-- So many bits of a number. -/
def nb : Nat → Nat → List Nat
  | 0, _ => []
  | n + 1, x => x % 2 :: nb n (x / 2)
theorem nb_len (n x : Nat) : (nb n x).length = n := by
  induction n generalizing x with
  | zero => rfl
  | succ n ih => rw [nb, List.length_cons, ih]
theorem bt_succ (x i : Nat) : bt x (i + 1) = bt (x / 2) i := by
  unfold bt
  rw [Nat.pow_succ, Nat.mul_comm (2 ^ i) 2, Nat.div_div_eq_div_mul]
theorem cf_nb (n x i : Nat) : cf (nb n x) i = if i < n then bt x i else 0 := by
  induction n generalizing x i with
  | zero => simp [nb]
  | succ n ih =>
    cases i with
    | zero => rw [nb, cf_zero, if_pos (by omega)]; simp [bt]
    | succ i =>
      rw [nb, cf_succ, ih, bt_succ]
      by_cases h : i < n
      · rw [if_pos h, if_pos (by omega)]
      · rw [if_neg h, if_neg (by omega)]
theorem nb_bin (n x : Nat) : Bin (nb n x) := fun i => by
  rw [cf_nb]
  split
  · exact bt_le _ _
  · omega
theorem bt_ge {x n i : Nat} (h : x < 2 ^ n) (hi : n ≤ i) : bt x i = 0 := by
  unfold bt
  rw [Nat.div_eq_of_lt (Nat.lt_of_lt_of_le h (Nat.pow_le_pow_right (by omega) hi))]

def rule : Nat := 8293925629
theorem rule_gen : nb 33 rule = genP := by decide +kernel

/-- One bit more. -/
def rs (r b : Nat) : Nat := (2 * r + b) ^^^ ((2 * r + b) / 4294967296 * rule)
theorem rs_small {r b : Nat} (h : 2 * r + b < 4294967296) : rs r b = 2 * r + b := by
  unfold rs
  rw [Nat.div_eq_of_lt h, Nat.zero_mul, Nat.xor_zero]
theorem rs_big {r b : Nat} (hr : r < 4294967296) (hb : b ≤ 1) (h : ¬ 2 * r + b < 4294967296) : rs r b = (2 * r + b) ^^^ rule := by
  unfold rs
  rw [show (2 * r + b) / 4294967296 = 1 from by omega, Nat.one_mul]
theorem rs_lt {r b : Nat} (hr : r < 4294967296) (hb : b ≤ 1) : rs r b < 4294967296 := by
  by_cases h : 2 * r + b < 4294967296
  · rw [rs_small h]; exact h
  · rw [rs_big hr hb h]
    refine Nat.lt_pow_two_of_testBit (n := 32) _ (fun i hi => ?_)
    rw [Nat.testBit_xor]
    by_cases h2 : i = 32
    · subst h2
      have e1 : (2 * r + b).testBit 32 = true := by
        rw [Nat.testBit_eq_decide_div_mod_eq, show (2 : Nat) ^ 32 = 4294967296 from rfl, show (2 * r + b) / 4294967296 = 1 from by omega]
        rfl
      rw [e1]
      decide
    · rw [Nat.testBit_lt_two_pow (Nat.lt_of_lt_of_le (show 2 * r + b < 2 ^ 33 by omega) (Nat.pow_le_pow_right (by omega) (show 33 ≤ i by omega))), Nat.testBit_lt_two_pow (Nat.lt_of_lt_of_le (show rule < 2 ^ 33 by decide) (Nat.pow_le_pow_right (by omega) (show 33 ≤ i by omega)))]
      rfl

theorem ev_nb_xor (n x z : Nat) {y : Nat} (hy : y < 256) : ev (nb n (x ^^^ z)) y = ev (nb n x) y ^^^ ev (nb n z) y := by
  rw [← ev_padd (nb_bin n x).bs (nb_bin n z).bs hy]
  refine ev_congr hy (fun i => ?_)
  rw [cf_padd, cf_nb, cf_nb, cf_nb]
  split
  · exact bt_xor _ _ _
  · rfl
theorem ev_nb_more {r : Nat} (hr : r < 4294967296) {y : Nat} (hy : y < 256) : ev (nb 33 r) y = ev (nb 32 r) y := by
  refine ev_congr hy (fun i => ?_)
  rw [cf_nb, cf_nb]
  by_cases h : i < 32
  · rw [if_pos h, if_pos (by omega)]
  · rw [if_neg h, bt_ge (n := 32) hr (by omega)]
    split <;> rfl
theorem rs_ev {r b : Nat} (hr : r < 4294967296) (hb : b ≤ 1) {e : Nat} (h1 : 1 ≤ e) (h8 : e ≤ 8) : ev (nb 32 (rs r b)) (E e) = gmul (ev (nb 32 r) (E e)) (E e) ^^^ b := by
  have hy := E_lt e
  have e0 : ev (nb 33 (2 * r + b)) (E e) = gmul (ev (nb 32 r) (E e)) (E e) ^^^ b := by
    rw [nb, show (2 * r + b) % 2 = b from by omega, show (2 * r + b) / 2 = r from by omega]
    rfl
  rw [← ev_nb_more (rs_lt hr hb) hy]
  by_cases h : 2 * r + b < 4294967296
  · rw [rs_small h, e0]
  · rw [rs_big hr hb h, ev_nb_xor _ _ _ hy, e0, rule_gen, genP_roots e (gRoots_first h1 h8), Nat.xor_zero]

/-- A word's bits from the highest down. -/
def downB (p : List Nat) : Nat → List Nat
  | 0 => []
  | i + 1 => cf p i :: downB p i
/-- What is left. -/
def restF (w : List Nat) : Nat := (downB (wb w) (8 * w.length)).foldl rs 0

theorem rest_down {p : List Nat} (hp : Bin p) : ∀ (i : Nat), i ≤ p.length → ∀ v, v < 4294967296 → (∀ e, 1 ≤ e → e ≤ 8 → ev (nb 32 v) (E e) = ev (p.drop i) (E e)) →
    (downB p i).foldl rs v < 4294967296 ∧ ∀ e, 1 ≤ e → e ≤ 8 → ev (nb 32 ((downB p i).foldl rs v)) (E e) = ev p (E e) := by
  intro i
  induction i with
  | zero => intro _ v hv h; exact ⟨hv, fun e h1 h8 => by simpa [downB] using h e h1 h8⟩
  | succ i ih =>
    intro hi v hv h
    rw [downB, List.foldl_cons]
    exact ih (by omega) _ (rs_lt hv (hp i)) (fun e h1 h8 => by rw [rs_ev hv (hp i) h1 h8, h e h1 h8, ← ev_drop (by omega)])

theorem ev_nb_nought (n : Nat) {y : Nat} (hy : y < 256) : ev (nb n 0) y = 0 := ev_nought hy (fun i => by
  rw [cf_nb]
  split
  · simp [bt]
  · rfl)

theorem rest_facts (w : List Nat) : restF w < 4294967296 ∧ ∀ e, 1 ≤ e → e ≤ 8 → ev (nb 32 (restF w)) (E e) = syn w e := by
  refine rest_down (wb_bin w) (8 * w.length) (by rw [wb_len]; exact Nat.le_refl _) 0 (by omega) (fun e _ _ => ?_)
  rw [ev_nb_nought _ (E_lt e), List.drop_eq_nil_of_le (by rw [wb_len]; exact Nat.le_refl _)]
  rfl
theorem rest_lt (w : List Nat) : restF w < 4294967296 := (rest_facts w).1

theorem nb_zero {r : Nat} (hr : r < 4294967296) (h : ∀ i, cf (nb 32 r) i = 0) : r = 0 := by
  apply Nat.eq_of_testBit_eq
  intro i
  rw [Nat.zero_testBit]
  by_cases hi : i < 32
  · have := h i
    rw [cf_nb, if_pos hi, bt_test] at this
    cases hb : r.testBit i with
    | false => rfl
    | true => rw [hb] at this; simp at this
  · exact Nat.testBit_lt_two_pow (Nat.lt_of_lt_of_le (show r < 2 ^ 32 from hr) (Nat.pow_le_pow_right (by omega) (by omega)))

/-- Nothing is left of codewords alone. -/
theorem rest_code {w : List Nat} (hl : w.length = 28) (hb : Bs w) : restF w = 0 ↔ Code w := by
  obtain ⟨h0, h⟩ := rest_facts w
  constructor
  · intro hz
    refine ⟨hl, hb, fun e h1 h8 => ?_⟩
    rw [← h e h1 h8, hz, ev_nb_nought _ (E_lt e)]
  · intro hc
    have z : ∀ e, 1 ≤ e → e ≤ 8 → ev (nb 32 (restF w)) (E e) = 0 := fun e h1 h8 => by rw [h e h1 h8, hc.syn e h1 h8]
    exact nb_zero h0 (short_nought (nb_bin _ _) (by rw [nb_len]; omega) (z 1 (by omega) (by omega)) (z 3 (by omega) (by omega)) (z 5 (by omega) (by omega)) (z 7 (by omega) (by omega)))

/-- A number's four bytes. -/
def by4 (r : Nat) : List Nat := [r % 256, r / 256 % 256, r / 65536 % 256, r / 16777216 % 256]
theorem cf_by4 (r : Nat) {j : Nat} (h : j < 4) : cf (by4 r) j = r / 2 ^ (8 * j) % 256 := by
  match j, h with
  | 0, _ => simp [by4]
  | 1, _ => rfl
  | 2, _ => rfl
  | 3, _ => rfl
theorem by4_bs (r : Nat) : Bs (by4 r) := Bs.of (fun x hx => by simp [by4] at hx; omega)
theorem bt_byte (r j k : Nat) (hk : k < 8) : bt (r / 2 ^ (8 * j) % 256) k = bt r (8 * j + k) := by
  rw [bt_test, bt_test, show (256 : Nat) = 2 ^ 8 from rfl, Nat.testBit_mod_two_pow, Nat.testBit_div_two_pow, decide_eq_true hk, Bool.true_and, Nat.add_comm]

/-- The codeword by what is left. -/
theorem enc_rest {d : List Nat} (hd : Bs d) (hl : d.length = 24) : IsEnc d (by4 (restF (List.replicate 4 0 ++ d)) ++ d) := by
  have hf := rest_facts (List.replicate 4 0 ++ d)
  generalize restF (List.replicate 4 0 ++ d) = r at hf
  obtain ⟨hr, hs⟩ := hf
  have hc : ∀ i, cf (wb (by4 r ++ List.replicate 24 0)) i = cf (nb 32 r) i := fun i => by
    rw [cf_wb, cf_append, cf_nb, show (by4 r).length = 4 from rfl]
    by_cases h : i < 32
    · rw [if_pos (by omega), if_pos h, cf_by4 r (by omega), bt_byte _ _ _ (by omega), show 8 * (i / 8) + i % 8 = i from by omega]
    · rw [if_neg (by omega), if_neg h, cf_replicate]
      simp [bt]
  have := enc_made (d := d) (rest := by4 r ++ List.replicate 24 0) hd hl (fun i => by
      rw [cf_append]
      split
      · exact by4_bs r i
      · rw [cf_replicate]; omega) (by simp [by4]) (fun e h1 h8 => by rw [← hs e h1 h8]; exact ev_congr (E_lt e) hc) (fun i hi => by rw [hc, cf_nb, if_neg (by omega)])
  have e4 : (by4 r ++ List.replicate 24 0).take 4 = by4 r := rfl
  rwa [e4] at this

/-- The field's numbers, to reckon with. -/
structure Fb where
  v : Nat
  h : v < 256
theorem Fb.ext' {a b : Fb} (h : a.v = b.v) : a = b := by cases a; cases b; cases h; rfl
instance : Add Fb := ⟨fun a b => ⟨a.v ^^^ b.v, xor_lt a.h b.h⟩⟩
instance : Mul Fb := ⟨fun a b => ⟨gmul a.v b.v, gmul_lt a.h⟩⟩
instance : OfNat Fb 0 := ⟨⟨0, by omega⟩⟩
theorem Fb.addv (a b : Fb) : (a + b).v = a.v ^^^ b.v := rfl
theorem Fb.mulv (a b : Fb) : (a * b).v = gmul a.v b.v := rfl
theorem Fb.zerov : (0 : Fb).v = 0 := rfl
theorem Fb.ac (a b : Fb) : a + b = b + a := Fb.ext' (Nat.xor_comm _ _)
theorem Fb.aa (a b c : Fb) : a + b + c = a + (b + c) := Fb.ext' (Nat.xor_assoc _ _ _)
theorem Fb.al (a b c : Fb) : a + (b + c) = b + (a + c) := Fb.ext' (xor_swap _ _ _)
theorem Fb.mc (a b : Fb) : a * b = b * a := Fb.ext' (gmul_comm a.h b.h)
theorem Fb.ma (a b c : Fb) : a * b * c = a * (b * c) := Fb.ext' (gmul_assoc a.h b.h c.h)
theorem Fb.ml (a b c : Fb) : a * (b * c) = b * (a * c) := by rw [← Fb.ma, Fb.mc a b, Fb.ma]
theorem Fb.ld (a b c : Fb) : a * (b + c) = a * b + a * c := Fb.ext' (gmul_xor _ _ _)
theorem Fb.rd (a b c : Fb) : (a + b) * c = a * c + b * c := Fb.ext' (xor_gmul a.h b.h c.h)
theorem Fb.self (a : Fb) : a + a = 0 := Fb.ext' (Nat.xor_self _)
theorem Fb.twice (a b : Fb) : a + (a + b) = b := by rw [← Fb.aa, Fb.self]; exact Fb.ext' (Nat.zero_xor _)
theorem Fb.az (a : Fb) : a + 0 = a := Fb.ext' (Nat.xor_zero _)
theorem Fb.za (a : Fb) : 0 + a = a := Fb.ext' (Nat.zero_xor _)
theorem Fb.mz (a : Fb) : a * 0 = 0 := Fb.ext' (gmul_zero _)
theorem Fb.zm (a : Fb) : 0 * a = 0 := Fb.ext' (zero_gmul a.h)
theorem Fb.none {a b : Fb} (h : a * b = 0) : a = 0 ∨ b = 0 := by
  by_cases ha : a.v = 0
  · exact .inl (Fb.ext' ha)
  · by_cases hb : b.v = 0
    · exact .inr (Fb.ext' hb)
    · exact absurd (congrArg Fb.v h) (gmul_ne a.h b.h ha hb)
theorem Fb.sum {a b : Fb} (h : a + b = 0) : a = b := Fb.ext' (xor_eq_nought (congrArg Fb.v h))

theorem sym_d (X Y Z : Fb) : (X + (Y + Z)) * (X * X + (Y * Y + Z * Z)) + (X * (X * X) + (Y * (Y * Y) + Z * (Z * Z))) = (X + Y) * ((Y + Z) * (X + Z)) := by
  simp only [Fb.ld, Fb.aa, Fb.ac, Fb.al, Fb.mc, Fb.ml, Fb.self, Fb.twice, Fb.az]
theorem sym_c (X Y Z : Fb) : (X * X + (Y * Y + Z * Z)) * (X * (X * X) + (Y * (Y * Y) + Z * (Z * Z))) + (X * (X * (X * (X * X))) + (Y * (Y * (Y * (Y * Y))) + Z * (Z * (Z * (Z * Z))))) = (X * Y + (Y * Z + X * Z)) * ((X + Y) * ((Y + Z) * (X + Z))) := by
  simp only [Fb.ld, Fb.aa, Fb.ac, Fb.al, Fb.mc, Fb.ml, Fb.self, Fb.twice, Fb.az]
theorem sym_e (X Y Z : Fb) : (X * Y + (Y * Z + X * Z)) * (X + (Y + Z)) + (X + Y) * ((Y + Z) * (X + Z)) = X * (Y * Z) := by
  simp only [Fb.ld, Fb.aa, Fb.ac, Fb.al, Fb.mc, Fb.ml, Fb.self, Fb.twice, Fb.az]
theorem sym_f (X Y Z x : Fb) : ((x + (X + (Y + Z))) * x + (X * Y + (Y * Z + X * Z))) * x + X * (Y * Z) = (x + X) * ((x + Y) * (x + Z)) := by
  simp only [Fb.ld, Fb.aa, Fb.ac, Fb.al, Fb.mc, Fb.ml]

/-- The cubic whose roots are the powers of 2 at the places of the wrong bits. -/
def cubD (s1 s2 s3 : Nat) : Nat := gmul s1 s2 ^^^ s3
def cub2 (s1 s2 s3 s5 : Nat) : Nat := gmul (gmul s2 s3 ^^^ s5) (pw (cubD s1 s2 s3) (-1))
def cub3 (s1 s2 s3 s5 : Nat) : Nat := gmul (cub2 s1 s2 s3 s5) s1 ^^^ cubD s1 s2 s3
def cub (s1 s2 s3 s5 : Nat) : List Nat := [cub3 s1 s2 s3 s5, cub2 s1 s2 s3 s5, s1, 1]
theorem cubD_lt {s1 s2 s3 : Nat} (h1 : s1 < 256) (h3 : s3 < 256) : cubD s1 s2 s3 < 256 := xor_lt (gmul_lt h1) h3
theorem cub2_lt {s1 s2 s3 s5 : Nat} (h2 : s2 < 256) (h5 : s5 < 256) : cub2 s1 s2 s3 s5 < 256 := gmul_lt (xor_lt (gmul_lt h2) h5)
theorem cub3_lt {s1 s2 s3 s5 : Nat} (h1 : s1 < 256) (h2 : s2 < 256) (h3 : s3 < 256) (h5 : s5 < 256) : cub3 s1 s2 s3 s5 < 256 := xor_lt (gmul_lt (cub2_lt h2 h5)) (cubD_lt h1 h3)
theorem cub_bs {s1 s2 s3 s5 : Nat} (h1 : s1 < 256) (h2 : s2 < 256) (h3 : s3 < 256) (h5 : s5 < 256) : Bs (cub s1 s2 s3 s5) :=
  Bs.cons (cub3_lt h1 h2 h3 h5) (Bs.cons (cub2_lt h2 h5) (Bs.cons h1 (Bs.cons (by omega) Bs.nil)))
theorem ev_four {c3 c2 s1 x : Nat} (hx : x < 256) : ev [c3, c2, s1, 1] x = gmul (gmul (x ^^^ s1) x ^^^ c2) x ^^^ c3 := by
  have : ev [c3, c2, s1, 1] x = gmul (gmul (gmul (gmul 0 x ^^^ 1) x ^^^ s1) x ^^^ c2) x ^^^ c3 := rfl
  rw [this, zero_gmul hx, Nat.zero_xor, one_gmul hx]

/-- Of two or three (one of them may be nought) that are unlike. -/
theorem cub_three (X Y Z x : Fb) (h1 : X ≠ Y) (h2 : Y ≠ Z) (h3 : X ≠ Z) {s1 s2 s3 s5 : Nat} (e1 : s1 = (X + (Y + Z)).v) (e2 : s2 = (X * X + (Y * Y + Z * Z)).v) (e3 : s3 = (X * (X * X) + (Y * (Y * Y) + Z * (Z * Z))).v) (e5 : s5 = (X * (X * (X * (X * X))) + (Y * (Y * (Y * (Y * Y))) + Z * (Z * (Z * (Z * Z))))).v) :
    ev (cub s1 s2 s3 s5) x.v = 0 ↔ x = X ∨ x = Y ∨ x = Z := by
  have hd : cubD s1 s2 s3 = ((X + Y) * ((Y + Z) * (X + Z))).v := by rw [← sym_d, e1, e2, e3]; rfl
  have hd0 : cubD s1 s2 s3 ≠ 0 := by
    intro h
    rw [hd] at h
    rcases Fb.none (Fb.ext' h) with h | h
    · exact h1 (Fb.sum h)
    · rcases Fb.none h with h | h
      · exact h2 (Fb.sum h)
      · exact h3 (Fb.sum h)
  have hdl : cubD s1 s2 s3 < 256 := by rw [hd]; exact Fb.h _
  have hc : cub2 s1 s2 s3 s5 = (X * Y + (Y * Z + X * Z)).v := by
    have e : gmul s2 s3 ^^^ s5 = gmul (X * Y + (Y * Z + X * Z)).v (cubD s1 s2 s3) := by
      have := congrArg Fb.v (sym_c X Y Z)
      rw [hd, e2, e3, e5]
      exact this
    unfold cub2
    rw [e, gmul_assoc (Fb.h _) hdl (pw_lt _ _), gmul_inv hdl hd0, gmul_one (Fb.h _)]
  have h3' : cub3 s1 s2 s3 s5 = (X * (Y * Z)).v := by
    unfold cub3
    rw [hc, hd, e1, ← sym_e X Y Z]
    rfl
  have he : ev (cub s1 s2 s3 s5) x.v = ((x + X) * ((x + Y) * (x + Z))).v := by
    rw [cub, ev_four x.h, hc, h3', e1, ← sym_f X Y Z x]
    rfl
  rw [he]
  constructor
  · intro h
    rcases Fb.none (Fb.ext' (b := 0) h) with h | h
    · exact .inl (Fb.sum h)
    · rcases Fb.none h with h | h
      · exact .inr (.inl (Fb.sum h))
      · exact .inr (.inr (Fb.sum h))
  · rintro (rfl | rfl | rfl)
    · rw [Fb.self, Fb.zm]; rfl
    · rw [Fb.self, Fb.zm, Fb.mz]; rfl
    · rw [Fb.self, Fb.mz, Fb.mz]; rfl

/-- Of one. -/
theorem cub_one (X x : Fb) (h0 : x.v ≠ 0) {s1 s2 s3 s5 : Nat} (e1 : s1 = X.v) (e2 : s2 = (X * X).v) (e3 : s3 = (X * (X * X)).v) : ev (cub s1 s2 s3 s5) x.v = 0 ↔ x = X := by
  have hd : cubD s1 s2 s3 = 0 := by
    unfold cubD
    rw [e1, e2, e3]
    exact Nat.xor_self _
  have hc : cub2 s1 s2 s3 s5 = 0 := by
    unfold cub2
    rw [hd, pw_zero (by omega), gmul_zero]
  have h3' : cub3 s1 s2 s3 s5 = 0 := by
    unfold cub3
    rw [hc, hd, e1, zero_gmul X.h]
    rfl
  rw [cub, ev_four x.h, hc, h3', e1, Nat.xor_zero, Nat.xor_zero]
  constructor
  · intro h
    have h' : (x + X) * x * x = 0 := Fb.ext' h
    rcases Fb.none h' with h | h
    · rcases Fb.none h with h | h
      · exact Fb.sum h
      · exact absurd (congrArg Fb.v h) h0
    · exact absurd (congrArg Fb.v h) h0
  · rintro rfl
    rw [Nat.xor_self, zero_gmul x.h, zero_gmul x.h]

/-- The power of 2 at a place. -/
def Ef (k : Nat) : Fb := ⟨E k, E_lt k⟩
theorem Ef_inj {a b : Nat} (ha : a < 255) (hb : b < 255) (h : Ef a = Ef b) : a = b := E_inj ha hb (congrArg Fb.v h)
theorem Ef_two (k : Nat) : (Ef k * Ef k).v = E (k * 2) := by show gmul (E k) (E k) = _; rw [gmul_E]; congr 1; omega
theorem Ef_three (k : Nat) : (Ef k * (Ef k * Ef k)).v = E (k * 3) := by show gmul (E k) (gmul (E k) (E k)) = _; rw [gmul_E, gmul_E]; congr 1; omega
theorem Ef_five (k : Nat) : (Ef k * (Ef k * (Ef k * (Ef k * Ef k)))).v = E (k * 5) := by show gmul (E k) (gmul (E k) (gmul (E k) (gmul (E k) (E k)))) = _; rw [gmul_E, gmul_E, gmul_E, gmul_E]; congr 1; omega
theorem Ef_ne (k : Nat) : Ef k ≠ 0 := fun h => by
  have := congrArg Fb.v h
  have h2 := E_ne k
  change E k = 0 at this
  omega

def cubS (S : Nat → Nat) : List Nat := cub (S 1) (S 2) (S 3) (S 5)

/-- The roots among the powers of 2 are those of the places, where these are one, two or three. -/
theorem cub_roots {S : Nat → Nat} {m : List Nat} (h : Good S m) (h3 : m.length ≤ 3) (h0 : m ≠ []) {k : Nat} (hk : k < 224) : ev (cubS S) (E k) = 0 ↔ k ∈ m := by
  have q1 := h.eq 1 (by omega) (by omega)
  have q2 := h.eq 2 (by omega) (by omega)
  have q3 := h.eq 3 (by omega) (by omega)
  have q5 := h.eq 5 (by omega) (by omega)
  have hn := h.nd
  have hlt := h.lt
  unfold cubS
  match m, h3 with
  | [], _ => exact absurd rfl h0
  | [a], _ =>
    have ha := hlt a (by simp)
    simp only [xsum_cons, xsum_nil, Nat.xor_zero, Nat.mul_one] at q1 q2 q3 q5
    have := cub_one (Ef a) (Ef k) (by have := E_ne k; show E k ≠ 0; omega) (s1 := S 1) (s2 := S 2) (s3 := S 3) (s5 := S 5) q1.symm (by rw [Ef_two]; exact q2.symm) (by rw [Ef_three]; exact q3.symm)
    refine this.trans ⟨fun e => ?_, fun e => ?_⟩
    · rw [Ef_inj (by omega) (by omega) e]; simp
    · rw [List.mem_singleton.1 e]
  | [a, b], _ =>
    have ha := hlt a (by simp)
    have hb := hlt b (by simp)
    have hab : a ≠ b := by simpa using hn
    simp only [xsum_cons, xsum_nil, Nat.xor_zero, Nat.mul_one] at q1 q2 q3 q5
    have := cub_three (Ef a) (Ef b) 0 (Ef k) (fun e => hab (Ef_inj (by omega) (by omega) e)) (Ef_ne b) (Ef_ne a) (s1 := S 1) (s2 := S 2) (s3 := S 3) (s5 := S 5)
      (by rw [Fb.az]; exact q1.symm)
      (by rw [Fb.mz, Fb.az, Fb.addv, Ef_two, Ef_two]; exact q2.symm)
      (by rw [Fb.mz, Fb.mz, Fb.az, Fb.addv, Ef_three, Ef_three]; exact q3.symm)
      (by rw [Fb.mz, Fb.mz, Fb.mz, Fb.mz, Fb.az, Fb.addv, Ef_five, Ef_five]; exact q5.symm)
    refine this.trans ⟨fun e => ?_, fun e => ?_⟩
    · rcases e with e | e | e
      · rw [Ef_inj (by omega) (by omega) e]; simp
      · rw [Ef_inj (by omega) (by omega) e]; simp
      · exact absurd e (Ef_ne k)
    · rcases List.mem_cons.1 e with e | e
      · exact .inl (by rw [e])
      · exact .inr (.inl (by rw [List.mem_singleton.1 e]))
  | [a, b, c], _ =>
    have ha := hlt a (by simp)
    have hb := hlt b (by simp)
    have hc := hlt c (by simp)
    have hn' : (a ≠ b ∧ a ≠ c) ∧ b ≠ c := by simpa using hn
    obtain ⟨⟨hab, hac⟩, hbc⟩ := hn'
    simp only [xsum_cons, xsum_nil, Nat.xor_zero, Nat.mul_one] at q1 q2 q3 q5
    have := cub_three (Ef a) (Ef b) (Ef c) (Ef k) (fun e => hab (Ef_inj (by omega) (by omega) e)) (fun e => hbc (Ef_inj (by omega) (by omega) e)) (fun e => hac (Ef_inj (by omega) (by omega) e)) (s1 := S 1) (s2 := S 2) (s3 := S 3) (s5 := S 5)
      q1.symm
      (by rw [Fb.addv, Fb.addv, Ef_two, Ef_two, Ef_two]; exact q2.symm)
      (by rw [Fb.addv, Fb.addv, Ef_three, Ef_three, Ef_three]; exact q3.symm)
      (by rw [Fb.addv, Fb.addv, Ef_five, Ef_five, Ef_five]; exact q5.symm)
    refine this.trans ⟨fun e => ?_, fun e => ?_⟩
    · rcases e with e | e | e
      · rw [Ef_inj (by omega) (by omega) e]; simp
      · rw [Ef_inj (by omega) (by omega) e]; simp
      · rw [Ef_inj (by omega) (by omega) e]; simp
    · rcases List.mem_cons.1 e with e | e
      · exact .inl (by rw [e])
      · rcases List.mem_cons.1 e with e | e
        · exact .inr (.inl (by rw [e]))
        · exact .inr (.inr (by rw [List.mem_singleton.1 e]))

/-- The places that are found. -/
def vals (r : Nat) : Nat → Nat := fun e => ev (nb 32 r) (E e)
def rootsOf (r : Nat) : List Nat := (List.range 224).filter (fun k => ev (cubS (vals r)) (E k) == 0)
def found (r : Nat) : List Nat := if r = 0 then [] else rootsOf r

theorem vals_lt (r e : Nat) : vals r e < 256 := ev_lt (nb_bin _ _).bs
theorem cubS_bs (r : Nat) : Bs (cubS (vals r)) := cub_bs (vals_lt _ _) (vals_lt _ _) (vals_lt _ _) (vals_lt _ _)
theorem roots_mem {r k : Nat} : k ∈ rootsOf r ↔ k < 224 ∧ ev (cubS (vals r)) (E k) = 0 := by
  unfold rootsOf
  rw [List.mem_filter, List.mem_range, beq_iff_eq]
theorem roots_nodup (r : Nat) : (rootsOf r).Nodup := List.Pairwise.filter _ List.nodup_range
theorem roots_len (r : Nat) : (rootsOf r).length ≤ 3 := by
  by_cases h : (rootsOf r).length ≤ 3
  · exact h
  · exfalso
    have := roots_few (xs := (rootsOf r).map E) (cubS_bs r) (fun x hx => by
      obtain ⟨k, _, rfl⟩ := List.mem_map.1 hx
      exact E_lt k) (nodup_map (fun a ha b hb e => E_inj (by have := (roots_mem.1 ha).1; omega) (by have := (roots_mem.1 hb).1; omega) e) (roots_nodup r)) (fun x hx => by
      obtain ⟨k, hk, rfl⟩ := List.mem_map.1 hx
      exact (roots_mem.1 hk).2) (by rw [List.length_map]; show 4 ≤ _; omega) 3
    exact absurd this (by show (1 : Nat) ≠ 0; omega)
theorem found_lt (r : Nat) : ∀ k ∈ found r, k < 224 := by
  unfold found
  split
  · simp
  · exact fun k hk => (roots_mem.1 hk).1
theorem found_nodup (r : Nat) : (found r).Nodup := by
  unfold found
  split
  · simp
  · exact roots_nodup r
theorem found_len (r : Nat) : (found r).length ≤ 3 := by
  unfold found
  split
  · simp
  · exact roots_len r

/-- **What is found is what is to be told.** -/
theorem found_told {w : List Nat} (hl : w.length = 28) (hb : Bs w) : (restF (flips w (found (restF w))) = 0 → Told w (some (found (restF w)))) ∧ (restF (flips w (found (restF w))) ≠ 0 → Told w none) := by
  have hlt : ∀ k ∈ found (restF w), k < 8 * w.length := fun k hk => by rw [hl]; exact found_lt _ k hk
  constructor
  · intro h
    have hc := (rest_code (by rw [flips_len, hl]) (flips_bs hb _)).1 h
    refine .near _ ⟨found_nodup _, found_lt _, fun e h1 h8 => ?_⟩ (found_len _)
    have := hc.syn e h1 h8
    rw [syn_flips hlt] at this
    exact (xor_eq_nought this).symm
  · intro h
    refine .far (fun m hm => ?_)
    by_cases h4 : 4 ≤ m.length
    · exact h4
    · exfalso
      have hr0 : restF w ≠ 0 := fun hz => h (by rw [found, if_pos hz]; exact hz)
      have hm0 : m ≠ [] := fun e => by
        subst e
        have hz := good_nil.1 hm
        exact hr0 ((rest_code hl hb).2 ⟨hl, hb, hz⟩)
      have hv : Good (vals (restF w)) m := ⟨hm.nd, hm.lt, fun e h1 h8 => by rw [hm.eq e h1 h8]; exact ((rest_facts w).2 e h1 h8).symm⟩
      have hmem : ∀ k, k ∈ found (restF w) ↔ k ∈ m := fun k => by
        rw [found, if_neg hr0, roots_mem]
        constructor
        · rintro ⟨h1, h2⟩
          exact (cub_roots hv (by omega) hm0 h1).1 h2
        · intro hk
          exact ⟨hm.lt k hk, (cub_roots hv (by omega) hm0 (hm.lt k hk)).2 hk⟩
      have e : flips w (found (restF w)) = flips w m := by
        refine eq_of_cf (by rw [flips_len, flips_len]) (wb_ext (flips_bs hb _) (flips_bs hb _) (fun i => ?_))
        rw [wb_flips hlt (found_nodup _), wb_flips (fun k hk => by rw [hl]; exact hm.lt k hk) hm.nd]
        congr 1
        by_cases hi : i ∈ m
        · rw [if_pos hi, if_pos ((hmem i).2 hi)]
        · rw [if_neg hi, if_neg (fun h => hi ((hmem i).1 h))]
      rw [e] at h
      exact h ((rest_code (by rw [flips_len, hl]) (flips_bs hb _)).2 (hm.code hl hb))

end Go.Proofs.Ytahjcahmlangiaa
