/-
  Polynomials over the field of 256 by themselves, without the program: rows of naturals below 256, the number of x^0 first.
-/
import Derived.Test.YtjdikhelabibnabGreatGfm
namespace Go.Proofs.YtjdikhelabibnabGreat

/-- The i-th number; nought behind the end. -/
def cf : List Nat → Nat → Nat
  | [], _ => 0
  | x :: _, 0 => x
  | _ :: p, i + 1 => cf p i

@[simp] theorem cf_nil (i : Nat) : cf [] i = 0 := rfl
@[simp] theorem cf_zero (x : Nat) (p : List Nat) : cf (x :: p) 0 = x := rfl
@[simp] theorem cf_succ (x : Nat) (p : List Nat) (i : Nat) : cf (x :: p) (i + 1) = cf p i := rfl

theorem cf_ge {p : List Nat} {i : Nat} (h : p.length ≤ i) : cf p i = 0 := by
  induction p generalizing i with
  | nil => rfl
  | cons x p ih =>
    cases i with
    | zero => simp at h
    | succ i => exact ih (by simpa using h)

theorem cf_get {p : List Nat} {i : Nat} (h : i < p.length) : p[i]? = some (cf p i) := by
  induction p generalizing i with
  | nil => simp at h
  | cons x p ih =>
    cases i with
    | zero => rfl
    | succ i => simpa using ih (by simpa using h)

theorem cf_getD (p : List Nat) (i : Nat) : p.getD i 0 = cf p i := by
  by_cases h : i < p.length
  · rw [List.getD_eq_getElem?_getD, cf_get h]; rfl
  · rw [cf_ge (by omega), List.getD_eq_getElem?_getD, List.getElem?_eq_none (by omega)]; rfl

/-- The same polynomial. -/
def Eqv (p q : List Nat) : Prop := ∀ i, cf p i = cf q i
theorem Eqv.refl (p : List Nat) : Eqv p p := fun _ => rfl
theorem Eqv.symm {p q : List Nat} (h : Eqv p q) : Eqv q p := fun i => (h i).symm
theorem Eqv.trans {p q r : List Nat} (h : Eqv p q) (k : Eqv q r) : Eqv p r := fun i => (h i).trans (k i)

theorem eq_of_cf {p q : List Nat} (hl : p.length = q.length) (h : Eqv p q) : p = q := by
  apply List.ext_getElem?
  intro i
  by_cases hi : i < p.length
  · rw [cf_get hi, cf_get (by omega), h i]
  · rw [List.getElem?_eq_none (by omega), List.getElem?_eq_none (by omega)]

/-- Each number is a byte. -/
def Bs (p : List Nat) : Prop := ∀ i, cf p i < 256
theorem Bs.of {p : List Nat} (h : ∀ x ∈ p, x < 256) : Bs p := by
  intro i
  by_cases hi : i < p.length
  · have := cf_get hi
    exact h _ (List.mem_of_getElem? this)
  · rw [cf_ge (by omega)]; omega
theorem Bs.mem {p : List Nat} (h : Bs p) {x : Nat} (hx : x ∈ p) : x < 256 := by
  obtain ⟨i, hi, rfl⟩ := List.getElem_of_mem hx
  have e := cf_get hi
  rw [List.getElem?_eq_getElem hi] at e
  have := h i
  simp at e
  omega
theorem Bs.eqv {p q : List Nat} (h : Bs p) (e : Eqv p q) : Bs q := fun i => by rw [← e i]; exact h i
theorem Bs.nil : Bs [] := fun i => by rw [cf_nil]; omega
theorem Bs.tail {x : Nat} {p : List Nat} (h : Bs (x :: p)) : Bs p := fun i => h (i + 1)
theorem Bs.head {x : Nat} {p : List Nat} (h : Bs (x :: p)) : x < 256 := h 0
theorem Bs.cons {x : Nat} {p : List Nat} (hx : x < 256) (h : Bs p) : Bs (x :: p) := fun i => by
  cases i with
  | zero => exact hx
  | succ i => exact h i

/-- Without the noughts at the end. -/
def trim : List Nat → List Nat
  | [] => []
  | x :: p => if trim p = [] ∧ x = 0 then [] else x :: trim p

theorem cf_trim (p : List Nat) : Eqv (trim p) p := by
  induction p with
  | nil => intro i; rfl
  | cons x p ih =>
    intro i
    rw [trim]
    split
    · rename_i h
      cases i with
      | zero => simp [h.2]
      | succ i => rw [cf_succ, ← ih i, h.1]; rfl
    · cases i with
      | zero => rfl
      | succ i => exact ih i

theorem trim_nought {p : List Nat} (h : ∀ i, cf p i = 0) : trim p = [] := by
  induction p with
  | nil => rfl
  | cons x p ih => rw [trim, if_pos ⟨ih (fun i => h (i + 1)), h 0⟩]

theorem trim_congr {p q : List Nat} (h : Eqv p q) : trim p = trim q := by
  induction p generalizing q with
  | nil => rw [trim_nought (p := q) (fun i => (h i).symm)]; rfl
  | cons x p ih =>
    cases q with
    | nil => rw [trim_nought h]; rfl
    | cons y q =>
      have h0 : x = y := h 0
      rw [trim, trim, ih (q := q) (fun i => h (i + 1)), h0]

theorem trim_trim (p : List Nat) : trim (trim p) = trim p := trim_congr (cf_trim p)

theorem trim_len (p : List Nat) : (trim p).length ≤ p.length := by
  induction p with
  | nil => simp [trim]
  | cons x p ih =>
    rw [trim]
    split
    · simp
    · simpa using ih

theorem trim_eqv {p q : List Nat} (h : trim p = trim q) : Eqv p q := fun i => by rw [← cf_trim p i, h, cf_trim q i]

theorem trim_self {p : List Nat} (h : p = [] ∨ cf p (p.length - 1) ≠ 0) : trim p = p := by
  induction p with
  | nil => rfl
  | cons x p ih =>
    rcases h with h | h
    · cases h
    · rw [trim]
      cases p with
      | nil =>
        have hx : x ≠ 0 := by simpa using h
        rw [if_neg (fun k => hx k.2)]
        rfl
      | cons y p =>
        rw [ih (.inr (by simpa using h)), if_neg (by simp)]

theorem trim_last {p : List Nat} (h : trim p ≠ []) : cf p ((trim p).length - 1) ≠ 0 := by
  induction p with
  | nil => exact absurd rfl h
  | cons x p ih =>
    rw [trim] at h ⊢
    split at h
    · exact absurd rfl h
    · rename_i hc
      rw [if_neg hc]
      by_cases he : trim p = []
      · rw [he]
        simp only [List.length_cons, List.length_nil, Nat.zero_add, Nat.sub_self, cf_zero]
        intro h0
        exact hc ⟨he, h0⟩
      · have := ih he
        have hl : 0 < (trim p).length := List.length_pos_iff.2 he
        simp only [List.length_cons, Nat.add_sub_cancel]
        obtain ⟨n, hn⟩ : ∃ n, (trim p).length = n + 1 := ⟨_, (Nat.sub_add_cancel hl).symm⟩
        rw [hn] at this ⊢
        exact this

theorem cf_take (p : List Nat) (e i : Nat) : cf (p.take e) i = if i < e then cf p i else 0 := by
  induction p generalizing e i with
  | nil => simp
  | cons x p ih =>
    cases e with
    | zero => simp
    | succ e =>
      cases i with
      | zero => simp
      | succ i => simp [ih]

theorem cf_drop (p : List Nat) (e i : Nat) : cf (p.drop e) i = cf p (e + i) := by
  induction p generalizing e with
  | nil => simp
  | cons x p ih =>
    cases e with
    | zero => simp
    | succ e => rw [List.drop_succ_cons, ih, Nat.add_right_comm, cf_succ]

theorem trim_take {p : List Nat} {e : Nat} (he : e ≤ p.length) (h : ∀ j, e ≤ j → cf p j = 0) (h1 : e = 0 ∨ cf p (e - 1) ≠ 0) : trim p = p.take e := by
  have a : Eqv p (p.take e) := fun i => by
    rw [cf_take]
    split
    · rfl
    · exact h i (by omega)
  rw [trim_congr a]
  refine trim_self ?_
  rcases h1 with rfl | h1
  · left; simp
  · right
    rw [List.length_take, Nat.min_eq_left he, cf_take]
    split
    · exact h1
    · rename_i hc
      have : e = 0 := by omega
      subst this
      have := h 0 (by omega)
      simp at h1
      exact absurd this h1

theorem trim_short {p : List Nat} {n : Nat} (h : ∀ i, n ≤ i → cf p i = 0) : (trim p).length ≤ n := by
  by_cases h0 : trim p = []
  · rw [h0]; simp
  · have := trim_last h0
    have hl : 0 < (trim p).length := List.length_pos_iff.2 h0
    by_cases hn : (trim p).length ≤ n
    · exact hn
    · exact absurd (h _ (by omega)) this

theorem Bs.trim {p : List Nat} (h : Bs p) : Bs (trim p) := h.eqv (cf_trim p).symm

theorem cf_set (p : List Nat) (k v i : Nat) (h : k < p.length) : cf (p.set k v) i = if i = k then v else cf p i := by
  induction p generalizing k i with
  | nil => simp at h
  | cons x p ih =>
    cases k with
    | zero => cases i <;> simp
    | succ k =>
      cases i with
      | zero => simp
      | succ i => simpa using ih k i (by simpa using h)

theorem cf_replicate (n i : Nat) : cf (List.replicate n 0) i = 0 := by
  induction n generalizing i with
  | zero => rfl
  | succ n ih =>
    cases i with
    | zero => rfl
    | succ i => exact ih i

theorem cf_append (p q : List Nat) (i : Nat) : cf (p ++ q) i = if i < p.length then cf p i else cf q (i - p.length) := by
  induction p generalizing i with
  | nil => simp
  | cons x p ih =>
    cases i with
    | zero => simp
    | succ i => simp [ih]

/-- The sum. -/
def padd : List Nat → List Nat → List Nat
  | [], q => q
  | x :: p, [] => x :: p
  | x :: p, y :: q => (x ^^^ y) :: padd p q

theorem cf_padd (p q : List Nat) (i : Nat) : cf (padd p q) i = cf p i ^^^ cf q i := by
  induction p generalizing q i with
  | nil => simp [padd]
  | cons x p ih =>
    cases q with
    | nil => simp [padd]
    | cons y q =>
      cases i with
      | zero => rfl
      | succ i => exact ih q i

/-- x times p. -/
def sc (x : Nat) (p : List Nat) : List Nat := p.map (gmul x)

theorem cf_sc (x : Nat) (p : List Nat) (i : Nat) : cf (sc x p) i = gmul x (cf p i) := by
  induction p generalizing i with
  | nil => exact (gmul_zero x).symm
  | cons y p ih =>
    cases i with
    | zero => rfl
    | succ i => exact ih i

/-- k places further. -/
def sh (k : Nat) (p : List Nat) : List Nat := List.replicate k 0 ++ p

theorem cf_sh (k : Nat) (p : List Nat) (i : Nat) : cf (sh k p) i = if i < k then 0 else cf p (i - k) := by
  rw [sh, cf_append, List.length_replicate, cf_replicate]

/-- The product. -/
def pmul : List Nat → List Nat → List Nat
  | [], _ => []
  | x :: p, q => padd (sc x q) (0 :: pmul p q)

theorem cf_shift (p : List Nat) (i : Nat) : cf (0 :: p) i = if i = 0 then 0 else cf p (i - 1) := by
  cases i with
  | zero => rfl
  | succ i => simp

theorem cf_pmul_cons (x : Nat) (p q : List Nat) (i : Nat) : cf (pmul (x :: p) q) i = gmul x (cf q i) ^^^ cf (0 :: pmul p q) i := by
  rw [pmul, cf_padd, cf_sc]

theorem Bs.padd {p q : List Nat} (h : Bs p) (k : Bs q) : Bs (padd p q) := fun i => by rw [cf_padd]; exact xor_lt (h i) (k i)
theorem Bs.sc {x : Nat} {p : List Nat} (hx : x < 256) : Bs (sc x p) := fun i => by rw [cf_sc]; exact gmul_lt hx
theorem Bs.sh {k : Nat} {p : List Nat} (h : Bs p) : Bs (sh k p) := fun i => by
  rw [cf_sh]
  split
  · omega
  · exact h _
theorem Bs.pmul {p q : List Nat} (h : Bs p) : Bs (pmul p q) := by
  induction p with
  | nil => exact Bs.nil
  | cons x p ih => exact Bs.padd (Bs.sc h.head) (Bs.cons (by omega) (ih h.tail))

theorem xor_swap (a b c : Nat) : a ^^^ (b ^^^ c) = b ^^^ (a ^^^ c) := by rw [← Nat.xor_assoc, Nat.xor_comm a b, Nat.xor_assoc]
theorem xor_four (a b c d : Nat) : (a ^^^ b) ^^^ (c ^^^ d) = (a ^^^ c) ^^^ (b ^^^ d) := by
  rw [Nat.xor_assoc, Nat.xor_assoc, xor_swap b c d]
theorem xor_gmul {a b c : Nat} (ha : a < 256) (hb : b < 256) (hc : c < 256) : gmul (a ^^^ b) c = gmul a c ^^^ gmul b c := by
  rw [gmul_comm (xor_lt ha hb) hc, gmul_xor, gmul_comm hc ha, gmul_comm hc hb]
theorem gmul_ne {a b : Nat} (ha : a < 256) (hb : b < 256) (h0 : a ≠ 0) (h1 : b ≠ 0) : gmul a b ≠ 0 := by
  rcases of_X ha with rfl | ⟨n, rfl⟩
  · exact absurd rfl h0
  · rcases of_X hb with rfl | ⟨m, rfl⟩
    · exact absurd rfl h1
    · rw [X_mul]
      have := X_ne (n + m)
      omega
theorem gmul_inv {a : Nat} (ha : a < 256) (h0 : a ≠ 0) : gmul a (pw a (-1)) = 1 := by
  rcases of_X ha with rfl | ⟨n, rfl⟩
  · exact absurd rfl h0
  · rw [pw_X, X_mul, ← X_zero]
    exact X_congr (by omega)

theorem pmul_nil (p : List Nat) (i : Nat) : cf (pmul p []) i = 0 := by
  induction p generalizing i with
  | nil => rfl
  | cons x p ih =>
    rw [cf_pmul_cons, cf_nil, gmul_zero, Nat.zero_xor]
    cases i with
    | zero => rfl
    | succ i => exact ih i

theorem pmul_right {q q' : List Nat} (p : List Nat) (h : Eqv q q') : Eqv (pmul p q) (pmul p q') := by
  induction p with
  | nil => exact Eqv.refl _
  | cons x p ih =>
    intro i
    rw [cf_pmul_cons, cf_pmul_cons, h i]
    cases i with
    | zero => rfl
    | succ i => rw [cf_succ, cf_succ, ih i]

theorem pmul_cons_right {p : List Nat} {y : Nat} (q : List Nat) (hp : Bs p) (hy : y < 256) : Eqv (pmul p (y :: q)) (padd (sc y p) (0 :: pmul p q)) := by
  induction p with
  | nil => intro i; cases i <;> simp [pmul, cf_padd, sc]
  | cons x p ih =>
    intro i
    rw [cf_pmul_cons, cf_padd, cf_sc]
    cases i with
    | zero => simp only [cf_zero]; rw [gmul_comm hp.head hy]
    | succ i =>
      simp only [cf_succ]
      rw [ih hp.tail i, cf_padd, cf_sc, cf_pmul_cons, xor_swap]

theorem pmul_comm {p q : List Nat} (hp : Bs p) (hq : Bs q) : Eqv (pmul p q) (pmul q p) := by
  induction p with
  | nil => intro i; rw [pmul_nil]; rfl
  | cons x p ih =>
    intro i
    rw [pmul_cons_right p hq hp.head i, cf_pmul_cons, cf_padd, cf_sc]
    cases i with
    | zero => rfl
    | succ i => rw [cf_succ, cf_succ, ih hp.tail i]

theorem pmul_left {p p' : List Nat} {q : List Nat} (hp : Bs p) (hq : Bs q) (h : Eqv p p') : Eqv (pmul p q) (pmul p' q) :=
  ((pmul_comm hp hq).trans (pmul_right q h)).trans (pmul_comm hq (hp.eqv h))

theorem pmul_padd (p q r : List Nat) : Eqv (pmul p (padd q r)) (padd (pmul p q) (pmul p r)) := by
  induction p with
  | nil => intro i; rfl
  | cons x p ih =>
    intro i
    rw [cf_padd, cf_pmul_cons, cf_pmul_cons, cf_pmul_cons, cf_padd, gmul_xor, xor_four]
    cases i with
    | zero => simp only [cf_zero, Nat.xor_zero]
    | succ i => rw [cf_succ, cf_succ, cf_succ, ih i, cf_padd]

theorem padd_pmul {p q r : List Nat} (hp : Bs p) (hq : Bs q) (hr : Bs r) : Eqv (pmul (padd p q) r) (padd (pmul p r) (pmul q r)) := fun i => by
  rw [pmul_comm (hp.padd hq) hr i, pmul_padd r p q i, cf_padd, cf_padd, pmul_comm hr hp i, pmul_comm hr hq i]

theorem pmul_sc {x : Nat} {q r : List Nat} (hx : x < 256) (hq : Bs q) (hr : Bs r) : Eqv (pmul (sc x q) r) (sc x (pmul q r)) := by
  induction q with
  | nil => intro i; rfl
  | cons y q ih =>
    intro i
    rw [show sc x (y :: q) = gmul x y :: sc x q from rfl, cf_pmul_cons, cf_sc, cf_pmul_cons, gmul_xor, gmul_assoc hx hq.head (hr i)]
    cases i with
    | zero => rw [cf_zero, cf_zero, gmul_zero]
    | succ i => rw [cf_succ, cf_succ, ih hq.tail i, cf_sc]

theorem pmul_shift {p r : List Nat} (hr : Bs r) : Eqv (pmul (0 :: p) r) (0 :: pmul p r) := fun i => by
  rw [cf_pmul_cons, zero_gmul (hr i), Nat.zero_xor]

theorem pmul_assoc {p q r : List Nat} (hp : Bs p) (hq : Bs q) (hr : Bs r) : Eqv (pmul (pmul p q) r) (pmul p (pmul q r)) := by
  induction p with
  | nil => exact Eqv.refl _
  | cons x p ih =>
    intro i
    rw [pmul, padd_pmul (Bs.sc hp.head) (Bs.cons (by omega) (Bs.pmul hp.tail)) hr i, cf_padd, pmul_sc hp.head hq hr i, cf_sc, pmul_shift hr i, cf_pmul_cons]
    cases i with
    | zero => rfl
    | succ i => rw [cf_succ, cf_succ, ih hp.tail i]

theorem cf_pmul_ge {p q : List Nat} {i : Nat} (h : p.length + q.length ≤ i + 1) : cf (pmul p q) i = 0 := by
  induction p generalizing i with
  | nil => rfl
  | cons x p ih =>
    simp only [List.length_cons] at h
    rw [cf_pmul_cons, cf_ge (p := q) (by omega), gmul_zero, Nat.zero_xor]
    cases i with
    | zero => rfl
    | succ i => exact ih (by omega)

theorem cf_pmul_top {p q : List Nat} {m n : Nat} (hm : p.length = m + 1) (hn : q.length = n + 1) : cf (pmul p q) (m + n) = gmul (cf p m) (cf q n) := by
  induction p generalizing m with
  | nil => simp at hm
  | cons x p ih =>
    rw [cf_pmul_cons]
    cases m with
    | zero =>
      have : p = [] := List.eq_nil_of_length_eq_zero (by simpa using hm)
      subst this
      rw [Nat.zero_add, cf_zero]
      cases n <;> simp [pmul]
    | succ m =>
      rw [cf_ge (p := q) (by omega), gmul_zero, Nat.zero_xor, Nat.add_right_comm, cf_succ, cf_succ]
      exact ih (by simpa using hm)

theorem pmul_trim_ne {p q : List Nat} (hp : Bs p) (hq : Bs q) {m n : Nat} (hm : (trim p).length = m + 1) (hn : (trim q).length = n + 1) : cf (pmul p q) (m + n) ≠ 0 := by
  have e : Eqv (pmul p q) (pmul (trim p) (trim q)) := (pmul_left hp hq (cf_trim p).symm).trans (pmul_right _ (cf_trim q).symm)
  rw [e, cf_pmul_top hm hn]
  have h1 := trim_last (p := p) (by intro h; rw [h] at hm; simp at hm)
  have h2 := trim_last (p := q) (by intro h; rw [h] at hn; simp at hn)
  rw [hm, Nat.add_sub_cancel, ← cf_trim p m] at h1
  rw [hn, Nat.add_sub_cancel, ← cf_trim q n] at h2
  exact gmul_ne (hp.trim m) (hq.trim n) h1 h2

theorem trim_pmul_len {p q : List Nat} (hp : Bs p) (hq : Bs q) {m n : Nat} (hm : (trim p).length = m + 1) (hn : (trim q).length = n + 1) : (trim (pmul p q)).length = m + n + 1 := by
  have e : Eqv (pmul p q) (pmul (trim p) (trim q)) := (pmul_left hp hq (cf_trim p).symm).trans (pmul_right _ (cf_trim q).symm)
  have h := pmul_trim_ne hp hq hm hn
  have h1 : (trim (pmul p q)).length ≤ m + n + 1 := trim_short (fun i hi => by rw [e i]; exact cf_pmul_ge (by omega))
  by_cases h2 : m + n < (trim (pmul p q)).length
  · omega
  · rw [← cf_trim, cf_ge (by omega)] at h
    exact absurd rfl h

theorem pmul_nought {p q : List Nat} (hp : Bs p) (hq : Bs q) (h : trim p = [] ∨ trim q = []) : trim (pmul p q) = [] := by
  refine trim_nought (fun i => ?_)
  rcases h with h | h
  · rw [pmul_left hp hq (cf_trim p).symm i, h]; rfl
  · rw [pmul_right p (cf_trim q).symm i, h, pmul_nil]

/-- The value at x. -/
def ev (p : List Nat) (x : Nat) : Nat := match p with
  | [] => 0
  | c :: p => gmul (ev p x) x ^^^ c

theorem ev_lt {p : List Nat} {x : Nat} (h : Bs p) : ev p x < 256 := by
  induction p with
  | nil => simp [ev]
  | cons c p ih => exact xor_lt (gmul_lt (ih h.tail)) h.head

theorem ev_nought {p : List Nat} {x : Nat} (hx : x < 256) (h : ∀ i, cf p i = 0) : ev p x = 0 := by
  induction p with
  | nil => rfl
  | cons c p ih =>
    have h0 : c = 0 := h 0
    rw [ev, ih (fun i => h (i + 1)), zero_gmul hx, h0]
    rfl

theorem ev_congr {p q : List Nat} {x : Nat} (hx : x < 256) (h : Eqv p q) : ev p x = ev q x := by
  induction p generalizing q with
  | nil => rw [ev_nought (p := q) hx (fun i => (h i).symm)]; rfl
  | cons c p ih =>
    cases q with
    | nil => rw [ev_nought hx h]; rfl
    | cons d q =>
      have h0 : c = d := h 0
      rw [ev, ev, ih (q := q) (fun i => h (i + 1)), h0]

theorem ev_padd {p q : List Nat} {x : Nat} (hp : Bs p) (hq : Bs q) (hx : x < 256) : ev (padd p q) x = ev p x ^^^ ev q x := by
  induction p generalizing q with
  | nil => simp [padd, ev]
  | cons c p ih =>
    cases q with
    | nil => simp [padd, ev]
    | cons d q =>
      rw [padd, ev, ev, ev, ih hp.tail hq.tail, xor_gmul (ev_lt hp.tail) (ev_lt hq.tail) hx, xor_four]

theorem ev_sc {c : Nat} {p : List Nat} {x : Nat} (hc : c < 256) (hp : Bs p) (hx : x < 256) : ev (sc c p) x = gmul c (ev p x) := by
  induction p with
  | nil => exact (gmul_zero c).symm
  | cons d p ih =>
    rw [show sc c (d :: p) = gmul c d :: sc c p from rfl, ev, ev, ih hp.tail, gmul_xor, gmul_assoc hc (ev_lt hp.tail) hx]

theorem ev_pmul {p q : List Nat} {x : Nat} (hp : Bs p) (hq : Bs q) (hx : x < 256) : ev (pmul p q) x = gmul (ev p x) (ev q x) := by
  induction p with
  | nil => exact (zero_gmul (ev_lt hq)).symm
  | cons c p ih =>
    have h1 := ev_lt (x := x) hp.tail
    have h2 := ev_lt (x := x) hq
    rw [pmul, ev_padd (Bs.sc hp.head) (Bs.cons (by omega) (Bs.pmul hp.tail)) hx, ev_sc hp.head hq hx, ev, ev, ih hp.tail, Nat.xor_zero, xor_gmul (gmul_lt h1) hp.head h2,
      Nat.xor_comm, gmul_assoc h1 h2 hx, gmul_assoc h1 hx h2, gmul_comm h2 hx]

theorem ev_drop {p : List Nat} {x k : Nat} (h : k < p.length) : ev (p.drop k) x = gmul (ev (p.drop (k + 1)) x) x ^^^ cf p k := by
  have e : p.drop k = cf p k :: p.drop (k + 1) := by
    have := cf_get h
    rw [List.drop_eq_getElem_cons h]
    rw [List.getElem?_eq_getElem h] at this
    simp at this
    rw [this]
  rw [e, ev]

/-- q is the quotient, r the rest, of a by b. -/
structure IsDiv (a b q r : List Nat) : Prop where
  tq : trim q = q
  tr : trim r = r
  bq : Bs q
  br : Bs r
  lt : r.length < (trim b).length
  eq : Eqv (padd (pmul q b) r) a

theorem xor_move {a b c d : Nat} (h : a ^^^ b = c ^^^ d) : a ^^^ c = b ^^^ d := by
  have : (a ^^^ b) ^^^ (b ^^^ c) = (c ^^^ d) ^^^ (b ^^^ c) := by rw [h]
  rw [Nat.xor_assoc, ← Nat.xor_assoc b b c, Nat.xor_self, Nat.zero_xor] at this
  rw [this, Nat.xor_comm c d, Nat.xor_comm b c, Nat.xor_assoc, ← Nat.xor_assoc c c b, Nat.xor_self, Nat.zero_xor, Nat.xor_comm]

theorem xor_cancel {a b c : Nat} (h : a ^^^ b = a ^^^ c) : b = c := by
  have : a ^^^ (a ^^^ b) = a ^^^ (a ^^^ c) := by rw [h]
  rwa [← Nat.xor_assoc, ← Nat.xor_assoc, Nat.xor_self, Nat.zero_xor, Nat.zero_xor] at this
theorem xor_eq_nought {a b : Nat} (h : a ^^^ b = 0) : a = b := (xor_cancel (h.trans (Nat.xor_self a).symm)).symm

theorem IsDiv.once {a b q r q' r' : List Nat} (hb : Bs b) (h : IsDiv a b q r) (k : IsDiv a b q' r') : q = q' ∧ r = r' := by
  have e : ∀ i, cf (pmul (padd q q') b) i = cf r i ^^^ cf r' i := fun i => by
    rw [padd_pmul h.bq k.bq hb i, cf_padd]
    have h1 := h.eq i
    have h2 := k.eq i
    rw [cf_padd] at h1 h2
    exact xor_move (h1.trans h2.symm)
  have hq : trim (padd q q') = [] := by
    by_cases h0 : trim (padd q q') = []
    · exact h0
    · have hl := List.length_pos_iff.2 h0
      have hlt := h.lt
      have klt := k.lt
      have := pmul_trim_ne (h.bq.padd k.bq) hb (m := (trim (padd q q')).length - 1) (n := (trim b).length - 1) (by omega) (by omega)
      rw [e, cf_ge (p := r) (by omega), cf_ge (p := r') (by omega)] at this
      exact absurd rfl this
  have eq : Eqv q q' := fun i => by
    have := cf_trim (padd q q') i
    rw [hq, cf_nil, cf_padd] at this
    exact xor_eq_nought this.symm
  have q1 : q = q' := by rw [← h.tq, ← k.tq]; exact trim_congr eq
  refine ⟨q1, ?_⟩
  rw [← h.tr, ← k.tr]
  refine trim_congr (fun i => ?_)
  have h1 := h.eq i
  have h2 := k.eq i
  rw [cf_padd] at h1 h2
  rw [← q1] at h2
  exact xor_cancel (h1.trans h2.symm)

/-- One step of a division. -/
theorem div_step {a d q r q' r' : List Nat} {k c : Nat} (hd : Bs d) (hq : Bs q) (hc : c < 256) (h : Eqv (padd (pmul q d) r) a) (h0 : cf q k = 0) (h1 : ∀ i, cf q' i = if i = k then c else cf q i)
    (h2 : ∀ i, cf r' i = cf r i ^^^ (if k ≤ i then gmul c (cf d (i - k)) else 0)) : Eqv (padd (pmul q' d) r') a := by
  have one : Bs (sh k [c]) := Bs.sh (Bs.cons hc Bs.nil)
  have e1 : Eqv q' (padd q (sh k [c])) := fun i => by
    rw [h1, cf_padd, cf_sh]
    by_cases hi : i = k
    · subst hi; simp [h0]
    · rw [if_neg hi]
      split
      · simp
      · obtain ⟨j, hj⟩ : ∃ j, i - k = j + 1 := ⟨i - k - 1, by omega⟩
        rw [hj]; simp
  have e2 : ∀ k, Eqv (pmul (sh k [c]) d) (sh k (sc c d)) := by
    intro k
    induction k with
    | zero => intro i; simp only [sh, List.replicate_zero, List.nil_append]; rw [cf_pmul_cons, cf_sc]; cases i <;> simp [pmul]
    | succ k ih =>
      intro i
      rw [show sh (k + 1) [c] = 0 :: sh k [c] from rfl, show sh (k + 1) (sc c d) = 0 :: sh k (sc c d) from rfl, pmul_shift hd i]
      cases i with
      | zero => rfl
      | succ i => exact ih i
  intro i
  have bq' : Bs q' := (hq.padd one).eqv e1.symm
  rw [cf_padd, pmul_left bq' hd e1 i, padd_pmul hq one hd i, cf_padd, e2 k i, cf_sh, cf_sc, h2, ← h i, cf_padd]
  by_cases hi : k ≤ i
  · rw [if_neg (by omega), if_pos hi, xor_four, Nat.xor_self, Nat.xor_zero]
  · rw [if_pos (by omega), if_neg hi]; simp

end Go.Proofs.YtjdikhelabibnabGreat
