/-
  What the texts of this seat share, without the program: what a call leaves as it was ('Kp'), bytes in memory, a reader's state, numbers as bytes.
-/
import Derived.WalkKit
import Derived.ProofKit
import Derived.Below
import Derived.OneCell
import Derived.OwnWalk
import Derived.Deep.QuietTactic
import Derived.BigQuiet
import Derived.Laws.BitsLemmas
import Derived.Laws.Bits64b
import Derived.OpenShut
namespace Go.Proofs.YtjdikhelabibnabGreat
open Go.RowKit

/-- All blocks but those of S, and whatever is new, are as they were. -/
structure Kp (S : List Nat) (w w' : World) : Prop where
  os : w'.os = w.os
  tape : w'.tape = w.tape
  output : w'.output = w.output
  size : w.heap.size ≤ w'.heap.size
  block : ∀ k, k < w.heap.size → k ∉ S → w'.heap[k]? = w.heap[k]?

theorem Kp.refl (S : List Nat) (w : World) : Kp S w w := ⟨rfl, rfl, rfl, Nat.le_refl _, fun _ _ _ => rfl⟩

theorem Kp.trans {S S' : List Nat} {a b c : World} (h : Kp S a b) (k : Kp S' b c) (hs : ∀ x ∈ S', x ∈ S ∨ a.heap.size ≤ x) : Kp S a c :=
  ⟨k.os.trans h.os, k.tape.trans h.tape, k.output.trans h.output, Nat.le_trans h.size k.size,
   fun i hi hn => (k.block i (Nat.lt_of_lt_of_le hi h.size) (fun hm => by rcases hs i hm with h1 | h1; exact hn h1; omega)).trans (h.block i hi hn)⟩

theorem Kp.mono {S S' : List Nat} {a b : World} (h : Kp S a b) (hs : ∀ x ∈ S, x ∈ S' ∨ a.heap.size ≤ x) : Kp S' a b :=
  (Kp.refl S' a).trans h hs

theorem Kp.alloc {S : List Nat} {a w : World} (h : Kp S a w) (o : Obj) : Kp S a (w.alloc o) :=
  h.trans (S' := []) ⟨rfl, rfl, rfl, by simp, fun k hk _ => Below.heap_alloc _ _ _ hk⟩ (by simp)

theorem Kp.drew {S : List Nat} {a w : World} (h : Kp S a w) : Kp S a w.drew := ⟨h.os, h.tape, h.output, h.size, h.block⟩

theorem Kp.drewN {S : List Nat} {a w : World} (h : Kp S a w) (n : Nat) : Kp S a (w.drewN n) := ⟨h.os, h.tape, h.output, h.size, h.block⟩

theorem Kp.setCell {S : List Nat} {a w : World} (h : Kp S a w) (p : Addr) (u : Value) (hp : p.block ∈ S ∨ a.heap.size ≤ p.block) : Kp S a (w.setCell p u) :=
  h.trans (S' := [p.block]) ⟨rfl, rfl, rfl, by simp [World.setCell], fun k _ hn => Below.heap_setCell _ _ _ _ (by simpa using hn)⟩ (by simpa using hp)

theorem Kp.grown {S : List Nat} {a w w' : World} {row : Option Nat} (h : Kp S a w) (hg : w.grownBy w' row) (hr : ∀ k, row = some k → k ∈ S ∨ a.heap.size ≤ k) : Kp S a w' :=
  h.trans (S' := row.toList) ⟨hg.os, hg.tape, hg.output, hg.size, fun k hk hn => hg.block k hk (fun e => hn (by simp [← e]))⟩
    (fun x hx => hr x (by simpa using hx))

theorem Kp.ofBelow {a w w' : World} {S : List Nat} (h : Kp S a w) (k : Below w.heap.size w w') : Kp S a w' :=
  h.trans (S' := []) ⟨k.os, k.tape, k.output, k.size, fun i hi _ => k.block i hi⟩ (by simp)

theorem Kp.below {w w' : World} (h : Kp [] w w') : Below w.heap.size w w' :=
  ⟨h.os, h.tape, h.output, h.size, fun k hk => h.block k hk (by simp)⟩

theorem Kp.cell {S : List Nat} {w w' : World} (h : Kp S w w') {p : Addr} {v : Value} (hc : w.cell? p = some v) (hn : p.block ∉ S) : w'.cell? p = some v :=
  (World.cell?_of_block (h.block p.block (block_lt_of_cell hc) hn)).trans hc

theorem Kp.heap {S : List Nat} {w w' : World} (h : Kp S w w') {k : Nat} {o : Obj} (hc : w.heap[k]? = some o) (hn : k ∉ S) : w'.heap[k]? = some o :=
  (h.block k (lt_of_block hc) hn).trans hc

theorem Kp.owns {S : List Nat} {w w' : World} (h : Kp S w w') {base : Nat} {e : TypeId} {size : Nat} {v : Value} {n : Nat} {xs : List Value} (ho : w.ownsRow base e size v n xs)
    (hn : ∀ k, v.ownBlock = some k → k ∉ S) : w'.ownsRow base e size v n xs := by
  refine ⟨ho.1, ?_⟩
  rcases ho.2 with hx | ⟨g, cap, cur, rfl, hb, hgg, rest⟩
  · exact .inl hx
  · exact .inr ⟨g, cap, cur, rfl, hb, h.heap hgg (hn g rfl), rest⟩

/-- The bytes zs lie at address ao, in block g. -/
def Row (w : World) (ao : Option Addr) (g : Nat) (zs : List Int) : Prop :=
  zs = [] ∨ ∃ o, ao = some ⟨g, o, none⟩ ∧ ∀ j, j < zs.length → w.cell? ⟨g, o + j, none⟩ = some (.int .u8 (zs.getD j 0))

theorem Row.keep {S : List Nat} {w w' : World} (h : Kp S w w') {ao : Option Addr} {g : Nat} {zs : List Int} (hr : Row w ao g zs) (hn : g ∉ S) : Row w' ao g zs := by
  rcases hr with h0 | ⟨o, rfl, hc⟩
  · exact .inl h0
  · exact .inr ⟨o, rfl, fun j hj => h.cell (hc j hj) hn⟩

/-- Each number is a byte. -/
def Byt (zs : List Int) : Prop := ∀ z ∈ zs, 0 ≤ z ∧ z ≤ 255

theorem Byt.getD {zs : List Int} (h : Byt zs) (j : Nat) : 0 ≤ zs.getD j 0 ∧ zs.getD j 0 ≤ 255 := by
  rw [List.getD_eq_getElem?_getD]
  by_cases hj : j < zs.length
  · rw [List.getElem?_eq_getElem hj]
    exact h _ (List.getElem_mem hj)
  · rw [List.getElem?_eq_none (by omega)]
    simp

theorem row_in {w : World} {x : Addr} {len cap : Nat} {zs : List Int} (h1 : len ≤ cap) (h3 : zs.length = cap) (h4 : ∀ i, i < zs.length → w.cell? (x.add i) = some (.int .u8 (zs.getD i 0)))
    (h5 : ∀ n ∈ zs, (Lit.int .u8 n).wf = true) : ∃ g, (zs.take len).length = len ∧ Row w (some x) g (zs.take len) ∧ Byt (zs.take len) := by
  have hl : (zs.take len).length = len := by simp; omega
  have hb : Byt (zs.take len) := fun z hz => bounds_u8 (h5 z (List.mem_of_mem_take hz))
  by_cases h0 : 0 < zs.length
  · obtain ⟨b, off, rfl, hc⟩ := ints_at h4 h0
    refine ⟨b, hl, .inr ⟨off, rfl, fun j hj => ?_⟩, hb⟩
    rw [hl] at hj
    rw [hc j (by omega)]
    simp [List.getD_eq_getElem?_getD, hj]
  · have hz : zs = [] := List.eq_nil_of_length_eq_zero (by omega)
    subst hz
    exact ⟨0, hl, .inl (by simp), hb⟩

/-- The numbers zs lie at address ao. -/
def IRow (w : World) (ao : Option Addr) (g : Nat) (zs : List Int) : Prop :=
  zs = [] ∨ ∃ o, ao = some ⟨g, o, none⟩ ∧ ∀ j, j < zs.length → w.cell? ⟨g, o + j, none⟩ = some (.int .i64 (zs.getD j 0))

theorem IRow.keep {S : List Nat} {w w' : World} (h : Kp S w w') {ao : Option Addr} {g : Nat} {zs : List Int} (hr : IRow w ao g zs) (hn : g ∉ S) : IRow w' ao g zs := by
  rcases hr with h0 | ⟨o, rfl, hc⟩
  · exact .inl h0
  · exact .inr ⟨o, rfl, fun j hj => h.cell (hc j hj) hn⟩

theorem irow_in {w : World} {x : Addr} {len cap : Nat} {zs : List Int} (h1 : len ≤ cap) (h3 : zs.length = cap) (h4 : ∀ i, i < zs.length → w.cell? (x.add i) = some (.int .i64 (zs.getD i 0)))
    (h5 : ∀ n ∈ zs, (Lit.int .i64 n).wf = true) : ∃ g, (zs.take len).length = len ∧ IRow w (some x) g (zs.take len) ∧ ∀ n ∈ zs.take len, -9223372036854775808 ≤ n ∧ n ≤ 9223372036854775807 := by
  have hl : (zs.take len).length = len := by simp; omega
  have hb : ∀ n ∈ zs.take len, -9223372036854775808 ≤ n ∧ n ≤ 9223372036854775807 := fun z hz => bounds_i64 (h5 z (List.mem_of_mem_take hz))
  by_cases h0 : 0 < zs.length
  · obtain ⟨b, off, rfl, hc⟩ := ints_at h4 h0
    refine ⟨b, hl, .inr ⟨off, rfl, fun j hj => ?_⟩, hb⟩
    rw [hl] at hj
    rw [hc j (by omega)]
    simp [List.getD_eq_getElem?_getD, hj]
  · have hz : zs = [] := List.eq_nil_of_length_eq_zero (by omega)
    subst hz
    exact ⟨0, hl, .inl (by simp), hb⟩

/-- A reader in block R: its error is e, the bytes zs (in block g) are left. -/
def Rd (T : TypeId) (w : World) (R g : Nat) (zs : List Int) (e : Int) : Prop :=
  g ≠ R ∧ ∃ ao cap, w.heap[R]? = some (.cells #[.slice ao zs.length cap, .int .i64 e] T (0, 0)) ∧ zs.length ≤ cap ∧ cap ≤ maxLen ∧ Row w ao g zs

theorem Rd.keep {T : TypeId} {S : List Nat} {w w' : World} {R g : Nat} {zs : List Int} {e : Int} (hr : Rd T w R g zs e) (h : Kp S w w') (h1 : R ∉ S) (h2 : g ∉ S) : Rd T w' R g zs e := by
  obtain ⟨hne, ao, cap, hb, hl, hm, hrow⟩ := hr
  exact ⟨hne, ao, cap, h.heap hb h1, hl, hm, hrow.keep h h2⟩

theorem cell_of_two0 {w : World} {b : Nat} {v u : Value} {t : TypeId} (h : w.heap[b]? = some (.cells #[v, u] t (0, 0))) : w.cell? ⟨b, 0, none⟩ = some v := by simp [World.cell?, h]
theorem cell_of_two1 {w : World} {b : Nat} {v u : Value} {t : TypeId} (h : w.heap[b]? = some (.cells #[v, u] t (0, 0))) : w.cell? ⟨b, 1, none⟩ = some u := by simp [World.cell?, h]
theorem free_of_two {w : World} {b j : Nat} {cs : Array Value} {t : TypeId} (h : w.heap[b]? = some (.cells cs t (0, 0))) : w.frozen? ⟨b, j, none⟩ = false := by simp [World.frozen?, h]
theorem two_set0 {w : World} {b : Nat} {v u x : Value} {t : TypeId} (h : w.heap[b]? = some (.cells #[v, u] t (0, 0))) : (w.setCell ⟨b, 0, none⟩ x).heap[b]? = some (.cells #[x, u] t (0, 0)) := by
  rw [heap_setCell_same w b 0 _ t x h]; rfl
theorem two_set1 {w : World} {b : Nat} {v u x : Value} {t : TypeId} (h : w.heap[b]? = some (.cells #[v, u] t (0, 0))) : (w.setCell ⟨b, 1, none⟩ x).heap[b]? = some (.cells #[v, x] t (0, 0)) := by
  rw [heap_setCell_same w b 1 _ t x h]; rfl

theorem row_of_owns {w : World} {base : Nat} {e : TypeId} {g n cap : Nat} {zs : List Int} (h : w.ownsRow base e 1 (.slice (some ⟨g, 0, none⟩) n cap) n (zs.map (Value.int .u8))) : Row w (some ⟨g, 0, none⟩) g zs := by
  have hl := h.1
  simp only [List.length_map, Nat.mul_one] at hl
  refine .inr ⟨0, rfl, fun j hj => ?_⟩
  rw [Nat.zero_add, h.cellAt j (by omega)]
  simp [List.getD_eq_getElem?_getD, hj]

theorem len_of_owns {w : World} {base : Nat} {e : TypeId} {v : Value} {n : Nat} {zs : List Int} (h : w.ownsRow base e 1 v n (zs.map (Value.int .u8))) : zs.length = n := by
  have hl := h.1
  simpa using hl

/-- A number out of its bytes, the lowest first. -/
def le : List Int → Int
  | [] => 0
  | b :: r => b + 256 * le r

section
variable {P : Program} (w : World)
/-- Bytes from wherever they lie, nowhere too, go behind what the call owns. -/
theorem run_append_row (base : Nat) (t ty e : TypeId) (i : TypeInfo) (ht : P.underlying t = some (.slice e)) (hi : P.info? e = some i) (hz : i.zero = some (.int .u8 0)) (hsize : i.size = 1) (hby : i.bytes = 1)
    (v : Value) (n : Nat) (xs : List Value) (hown : w.ownsRow base e 1 v n xs) (ao : Option Addr) (g m c : Nat) (zs : List Int) (hl : zs.length = m) (hrow : Row w ao g zs) (hnil : ao = none → m = 0 ∧ c = 0)
    (hb : n + m ≤ 1000000) (hbase : base ≤ w.heap.size) :
    ∃ v' w', (Builtin.append_ #[t, t] ty #[v, .slice ao m c]).run P w = .ok v' w' ∧ w'.ownsRow base e 1 v' (n + m) (xs ++ zs.map (Value.int .u8)) ∧ w.grownBy w' v.ownBlock ∧ (v' = .slice none 0 0 ↔ v = .slice none 0 0 ∧ m = 0) := by
  cases ao with
  | none =>
    obtain ⟨rfl, rfl⟩ := hnil rfl
    have hz0 : zs = [] := List.eq_nil_of_length_eq_zero hl
    subst hz0
    exact ⟨v, w, run_append_owned_none (P := P) w base t ty e i 1 ht hi v n xs hown, by simpa using hown, World.grownBy.refl _ _, by simp⟩
  | some ad =>
    refine run_append_own (P := P) w base t ty e i (.int .u8 0) 1 1 ht hi hz hsize hby rfl (by decide) v n xs hown ad m c (zs.map (Value.int .u8)) (by simp [hl]) ?_ (ints_oneCell _ _) (by unfold maxLen; omega) (by omega) hbase
    intro j u hu
    obtain ⟨hj, hu⟩ := List.getElem?_eq_some_iff.1 hu
    simp only [List.length_map] at hj
    rcases hrow with rfl | ⟨o, ho, hc⟩
    · simp at hj
    · cases ho
      rw [Addr.add_lit, hc j hj]
      simp [← hu, List.getD_eq_getElem?_getD, hj]

theorem wpList_append_row {ops : Array Oper} {rest : List Oper} {o : Oper} {a : Act} {Q : Exit → Act → World → Prop} (hgd : o.guard = none) (s x : Operand) (t : TypeId)
    (ho : o.op = .call { callee := .builtin .append, args := #[s, x], argTypes := #[t, t] })
    (base : Nat) (e : TypeId) (i : TypeInfo) (ht : P.underlying t = some (.slice e)) (hi : P.info? e = some i) (hz : i.zero = some (.int .u8 0)) (hsize : i.size = 1) (hby : i.bytes = 1)
    (v : Value) (n : Nat) (xs : List Value) (hs : a.eval s = v) (hown : w.ownsRow base e 1 v n xs) (ao : Option Addr) (g m c : Nat) (zs : List Int) (hx : a.eval x = .slice ao m c) (hl : zs.length = m) (hrow : Row w ao g zs)
    (hnil : ao = none → m = 0 ∧ c = 0) (hb : n + m ≤ 1000000) (hbase : base ≤ w.heap.size)
    (h : ∀ v' w', w'.ownsRow base e 1 v' (n + m) (xs ++ zs.map (Value.int .u8)) → w.grownBy w' v.ownBlock → (v' = .slice none 0 0 ↔ v = .slice none 0 0 ∧ m = 0) → wpList P ops Q rest (a.put o.dst v') w') : wpList P ops Q (o :: rest) a w := by
  refine wpList_plain hgd fun K hK => ?_
  obtain ⟨v', w', hr, h2, h3, h4⟩ := run_append_row (P := P) w base t o.type e i ht hi hz hsize hby v n xs hown ao g m c zs hl hrow hnil hb hbase
  unfold Oper.wp
  simp [execOp, ho, resolve, invoke, builtin, hs, hx, hr, Result.andThen]
  exact hK _ _ (h v' w' h2 h3 h4)
end

theorem owns_shape {w : World} {base : Nat} {e : TypeId} {v : Value} {n : Nat} {xs : List Value} (h : w.ownsRow base e 1 v n xs) (hv : v ≠ .slice none 0 0) : ∃ g cap, v = .slice (some ⟨g, 0, none⟩) n cap ∧ base ≤ g ∧ g < w.heap.size := by
  rcases h.2 with ⟨h', _⟩ | ⟨g, cap, cur, rfl, hb, hg, _⟩
  · exact absurd h' hv
  · exact ⟨g, cap, rfl, hb, lt_of_block hg⟩

/-- What a number of s bytes reads as; what is left; the error behind it. -/
def rdV (s : Nat) (zs : List Int) : Int := if s ≤ zs.length then wrap64 (le (zs.take s)) else 0
def rdZ (s : Nat) (zs : List Int) (e : Int) : List Int := if s ≤ zs.length then zs.drop s else if e = 0 then [] else zs
def rdE (s : Nat) (zs : List Int) (e : Int) : Int := if s ≤ zs.length then e else if e = 0 then 3 else e

/-- So many of a number's bytes, the lowest first. -/
def by8 : Nat → Int → List Int
  | 0, _ => []
  | n + 1, v => v % 256 :: by8 n (v / 256)

theorem by8_length (n : Nat) (v : Int) : (by8 n v).length = n := by
  induction n generalizing v with
  | zero => rfl
  | succ n ih => simp [by8, ih]

theorem by8_byt (n : Nat) (v : Int) : Byt (by8 n v) := by
  induction n generalizing v with
  | zero => intro z hz; simp [by8] at hz
  | succ n ih =>
    intro z hz
    simp only [by8, List.mem_cons] at hz
    rcases hz with rfl | hz
    · omega
    · exact ih _ z hz

theorem by8_snoc (n : Nat) (v : Int) : by8 (n + 1) v = by8 n v ++ [v / 256 ^ n % 256] := by
  induction n generalizing v with
  | zero => simp [by8]
  | succ n ih =>
    rw [by8, ih]
    have e : v / 256 / 256 ^ n = v / 256 ^ (n + 1) := by
      rw [Int.ediv_ediv_of_nonneg (by omega), Int.pow_succ, Int.mul_comm]
    rw [e]
    simp [by8]

theorem le_by8 (n : Nat) (v : Int) : le (by8 n v) = v % 256 ^ n := by
  induction n generalizing v with
  | zero => simp [by8, le, Int.emod_one]
  | succ n ih =>
    rw [by8, le, ih]
    have hp : (0 : Int) < 256 ^ n := Int.pow_pos (by omega)
    have e1 : (256 : Int) ^ (n + 1) = 256 * 256 ^ n := by rw [Int.pow_succ, Int.mul_comm]
    rw [e1]
    generalize (256 : Int) ^ n = p at *
    have h1 : v = 256 * (v / 256) + v % 256 := by omega
    have h2 := Int.emod_add_mul_ediv (v / 256) p
    have h3 := Int.emod_nonneg (v / 256) (show p ≠ 0 by omega)
    have h4 := Int.emod_lt_of_pos (v / 256) hp
    have h5 : v = (v % 256 + 256 * (v / 256 % p)) + 256 * p * (v / 256 / p) := by
      rw [Int.mul_assoc]; omega
    have h6 : (v % 256 + 256 * (v / 256 % p) + 256 * p * (v / 256 / p)) % (256 * p) = v % 256 + 256 * (v / 256 % p) := by
      rw [Int.add_mul_emod_self_left]
      exact Int.emod_eq_of_lt (by omega) (by omega)
    rw [← h5] at h6
    exact h6.symm

theorem le_snoc (zs : List Int) (b : Int) : le (zs ++ [b]) = le zs + b * 256 ^ zs.length := by
  induction zs with
  | nil => simp [le]
  | cons x r ih =>
    simp only [List.cons_append, le, ih, List.length_cons, Int.pow_succ]
    rw [Int.mul_add, ← Int.add_assoc]
    congr 1
    rw [Int.mul_left_comm, Int.mul_comm 256 (256 ^ r.length)]

theorem le_bound (zs : List Int) (h : Byt zs) : 0 ≤ le zs ∧ le zs < 256 ^ zs.length := by
  induction zs with
  | nil => simp [le]
  | cons x r ih =>
    have h1 := ih (fun z hz => h z (List.mem_cons_of_mem _ hz))
    have h2 := h x (List.mem_cons_self)
    simp only [le, List.length_cons, Int.pow_succ]
    omega

theorem take_snoc (zs : List Int) (k : Nat) (h : k < zs.length) : zs.take (k + 1) = zs.take k ++ [zs.getD k 0] := by
  rw [List.take_succ_eq_append_getElem h, List.getD_eq_getElem?_getD, List.getElem?_eq_getElem h]
  rfl

theorem drop_getD (zs : List Int) (k j : Nat) : (zs.drop k).getD j 0 = zs.getD (k + j) 0 := by
  simp [List.getD_eq_getElem?_getD, List.getElem?_drop]

/-- One byte more, by exclusive places. -/
theorem or_step (V b : Int) (k : Nat) (hk : k < 8) (h0 : 0 ≤ V) (h1 : V < 256 ^ k) (hb0 : 0 ≤ b) (hb1 : b ≤ 255) :
    bits BinOp.or IntKind.u64 V (IntKind.u64.wrap (b * 2 ^ (8 * k))) = V + b * 256 ^ k := by
  obtain ⟨v, rfl⟩ := Int.eq_ofNat_of_zero_le h0
  obtain ⟨c, rfl⟩ := Int.eq_ofNat_of_zero_le hb0
  have e2 : (2 : Nat) ^ (8 * k) = 256 ^ k := by rw [Nat.pow_mul]
  have hv : v < 256 ^ k := by have : ((v : Nat) : Int) < ((256 ^ k : Nat) : Int) := by simpa using h1
                              omega
  have hc : c ≤ 255 := by omega
  have hp : (256 : Nat) ^ k ≤ 256 ^ 7 := Nat.pow_le_pow_right (by omega) (by omega)
  have hm : c * 256 ^ k ≤ 255 * 256 ^ 7 := Nat.mul_le_mul hc hp
  have h7 : (256 : Nat) ^ 7 = 72057594037927936 := by decide
  have ew : IntKind.u64.wrap (((c : Nat) : Int) * 2 ^ (8 * k)) = ((2 ^ (8 * k) * c : Nat) : Int) := by
    rw [IntWalk.u64_in _ ⟨?_, ?_⟩]
    · simp [Int.mul_comm]
    · exact Int.mul_nonneg (by omega) (Int.pow_nonneg (by omega))
    · have : (((c * 2 ^ (8 * k) : Nat)) : Int) ≤ 18446744073709551615 := by rw [e2]; omega
      simpa using this
  rw [ew, bits_or_u64_nat v (2 ^ (8 * k) * c) (by omega) (by rw [e2, Nat.mul_comm]; omega), Nat.or_comm, ← Nat.two_pow_add_eq_or_of_lt (by rw [e2]; exact hv), e2]
  simp [Int.mul_comm, Int.add_comm]

end Go.Proofs.YtjdikhelabibnabGreat
