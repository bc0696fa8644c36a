/-
  
-/
import Derived.WalkKit
import Derived.ProofKit
import Derived.Below
import Derived.OneCell
import Derived.OwnWalk
import Derived.Deep.QuietTactic
import Derived.BigQuiet
import Derived.Laws.BitsLemmas
import Derived.Laws.Bits64b
import Derived.OpenShut
namespace Go.Proofs.YtjdikhelabibnaaGreat
open Go.RowKit
structure Kp (S : List Nat) (w w' : World) : Prop where
 os : w'.os = w.os
 tape : w'.tape = w.tape
 output : w'.output = w.output
 size : w.heap.size ≤ w'.heap.size
 block : ∀ k, k < w.heap.size → k ∉ S → w'.heap[k]? = w.heap[k]?
theorem Kp.refl (S : List Nat) (w : World) : Kp S w w := ⟨rfl, rfl, rfl, Nat.le_refl _, fun _ _ _ => rfl⟩
theorem Kp.trans {S S' : List Nat} {a b c : World} (h : Kp S a b) (k : Kp S' b c) (hs : ∀ x ∈ S', x ∈ S ∨ a.heap.size ≤ x) : Kp S a c :=
  ⟨k.os.trans h.os, k.tape.trans h.tape, k.output.trans h.output, Nat.le_trans h.size k.size,
   fun i hi hn => (k.block i (Nat.lt_of_lt_of_le hi h.size) (fun hm => by rcases hs i hm with h1 | h1; exact hn h1; omega)).trans (h.block i hi hn)⟩
theorem Kp.mono {S S' : List Nat} {a b : World} (h : Kp S a b) (hs : ∀ x ∈ S, x ∈ S' ∨ a.heap.size ≤ x) : Kp S' a b :=
 (Kp.refl S' a).trans h hs
theorem Kp.alloc {S : List Nat} {a w : World} (h : Kp S a w) (o : Obj) : Kp S a (w.alloc o) :=
 h.trans (S' := []) ⟨rfl, rfl, rfl, by simp, fun k hk _ => Below.heap_alloc _ _ _ hk⟩ (by simp)
theorem Kp.drew {S : List Nat} {a w : World} (h : Kp S a w) : Kp S a w.drew := ⟨h.os, h.tape, h.output, h.size, h.block⟩
theorem Kp.drewN {S : List Nat} {a w : World} (h : Kp S a w) (n : Nat) : Kp S a (w.drewN n) := ⟨h.os, h.tape, h.output, h.size, h.block⟩
theorem Kp.setCell {S : List Nat} {a w : World} (h : Kp S a w) (p : Addr) (u : Value) (hp : p.block ∈ S ∨ a.heap.size ≤ p.block) : Kp S a (w.setCell p u) :=
 h.trans (S' := [p.block]) ⟨rfl, rfl, rfl, by simp [World.setCell], fun k _ hn => Below.heap_setCell _ _ _ _ (by simpa using hn)⟩ (by simpa using hp)
theorem Kp.grown {S : List Nat} {a w w' : World} {row : Option Nat} (h : Kp S a w) (hg : w.grownBy w' row) (hr : ∀ k, row = some k → k ∈ S ∨ a.heap.size ≤ k) : Kp S a w' :=
 h.trans (S' := row.toList) ⟨hg.os, hg.tape, hg.output, hg.size, fun k hk hn => hg.block k hk (fun e => hn (by simp [← e]))⟩
  (fun x hx => hr x (by simpa using hx))
theorem Kp.ofBelow {a w w' : World} {S : List Nat} (h : Kp S a w) (k : Below w.heap.size w w') : Kp S a w' :=
 h.trans (S' := []) ⟨k.os, k.tape, k.output, k.size, fun i hi _ => k.block i hi⟩ (by simp)
theorem Kp.below {w w' : World} (h : Kp [] w w') : Below w.heap.size w w' :=
 ⟨h.os, h.tape, h.output, h.size, fun k hk => h.block k hk (by simp)⟩
theorem Kp.cell {S : List Nat} {w w' : World} (h : Kp S w w') {p : Addr} {v : Value} (hc : w.cell? p = some v) (hn : p.block ∉ S) : w'.cell? p = some v :=
 (World.cell?_of_block (h.block p.block (block_lt_of_cell hc) hn)).trans hc
theorem Kp.heap {S : List Nat} {w w' : World} (h : Kp S w w') {k : Nat} {o : Obj} (hc : w.heap[k]? = some o) (hn : k ∉ S) : w'.heap[k]? = some o :=
 (h.block k (lt_of_block hc) hn).trans hc
theorem Kp.owns {S : List Nat} {w w' : World} (h : Kp S w w') {base : Nat} {e : TypeId} {size : Nat} {v : Value} {n : Nat} {xs : List Value} (ho : w.ownsRow base e size v n xs)
  (hn : ∀ k, v.ownBlock = some k → k ∉ S) : w'.ownsRow base e size v n xs := by
 refine ⟨ho.1, ?_⟩
 rcases ho.2 with hx | ⟨g, cap, cur, rfl, hb, hgg, rest⟩
 ·exact .inl hx
 exact .inr ⟨g, cap, cur, rfl, hb, h.heap hgg (hn g rfl), rest⟩
def Row (w : World) (ao : Option Addr) (g : Nat) (zs : List Int) : Prop :=
 zs = [] ∨ ∃ o, ao = some ⟨g, o, none⟩ ∧ ∀ j, j < zs.length → w.cell? ⟨g, o + j, none⟩ = some (.int .u8 (zs.getD j 0))
theorem Row.keep {S : List Nat} {w w' : World} (h : Kp S w w') {ao : Option Addr} {g : Nat} {zs : List Int} (hr : Row w ao g zs) (hn : g ∉ S) : Row w' ao g zs := by
 rcases hr with h0 | ⟨o, rfl, hc⟩
 ·exact .inl h0
 exact .inr ⟨o, rfl, fun j hj => h.cell (hc j hj) hn⟩
def Byt (zs : List Int) : Prop := ∀ z ∈ zs, 0 ≤ z ∧ z ≤ 255
theorem Byt.getD {zs : List Int} (h : Byt zs) (j : Nat) : 0 ≤ zs.getD j 0 ∧ zs.getD j 0 ≤ 255 := by
 rw [List.getD_eq_getElem?_getD]
 by_cases hj : j < zs.length
 ·rw [List.getElem?_eq_getElem hj]
  exact h _ (List.getElem_mem hj)
 rw [List.getElem?_eq_none (by omega)]
 simp
theorem row_in {w : World} {x : Addr} {len cap : Nat} {zs : List Int} (h1 : len ≤ cap) (h3 : zs.length = cap) (h4 : ∀ i, i < zs.length → w.cell? (x.add i) = some (.int .u8 (zs.getD i 0)))
  (h5 : ∀ n ∈ zs, (Lit.int .u8 n).wf = true) : ∃ g, (zs.take len).length = len ∧ Row w (some x) g (zs.take len) ∧ Byt (zs.take len) := by
 have hl : (zs.take len).length = len := by simp; omega
 have hb : Byt (zs.take len) := fun z hz => bounds_u8 (h5 z (List.mem_of_mem_take hz))
 by_cases h0 : 0 < zs.length
 ·obtain ⟨b, off, rfl, hc⟩ := ints_at h4 h0
  refine ⟨b, hl, .inr ⟨off, rfl, fun j hj => ?_⟩, hb⟩
  rw [hl] at hj
  rw [hc j (by omega)]
  simp [List.getD_eq_getElem?_getD, hj]
 have hz : zs = [] := List.eq_nil_of_length_eq_zero (by omega)
 subst hz
 exact ⟨0, hl, .inl (by simp), hb⟩
def IRow (w : World) (ao : Option Addr) (g : Nat) (zs : List Int) : Prop :=
 zs = [] ∨ ∃ o, ao = some ⟨g, o, none⟩ ∧ ∀ j, j < zs.length → w.cell? ⟨g, o + j, none⟩ = some (.int .i64 (zs.getD j 0))
theorem IRow.keep {S : List Nat} {w w' : World} (h : Kp S w w') {ao : Option Addr} {g : Nat} {zs : List Int} (hr : IRow w ao g zs) (hn : g ∉ S) : IRow w' ao g zs := by
 rcases hr with h0 | ⟨o, rfl, hc⟩
 ·exact .inl h0
 exact .inr ⟨o, rfl, fun j hj => h.cell (hc j hj) hn⟩
theorem irow_in {w : World} {x : Addr} {len cap : Nat} {zs : List Int} (h1 : len ≤ cap) (h3 : zs.length = cap) (h4 : ∀ i, i < zs.length → w.cell? (x.add i) = some (.int .i64 (zs.getD i 0)))
  (h5 : ∀ n ∈ zs, (Lit.int .i64 n).wf = true) : ∃ g, (zs.take len).length = len ∧ IRow w (some x) g (zs.take len) ∧ ∀ n ∈ zs.take len, -9223372036854775808 ≤ n ∧ n ≤ 9223372036854775807 := by
 have hl : (zs.take len).length = len := by simp; omega
 have hb : ∀ n ∈ zs.take len, -9223372036854775808 ≤ n ∧ n ≤ 9223372036854775807 := fun z hz => bounds_i64 (h5 z (List.mem_of_mem_take hz))
 by_cases h0 : 0 < zs.length
 ·obtain ⟨b, off, rfl, hc⟩ := ints_at h4 h0
  refine ⟨b, hl, .inr ⟨off, rfl, fun j hj => ?_⟩, hb⟩
  rw [hl] at hj
  rw [hc j (by omega)]
  simp [List.getD_eq_getElem?_getD, hj]
 have hz : zs = [] := List.eq_nil_of_length_eq_zero (by omega)
 subst hz
 exact ⟨0, hl, .inl (by simp), hb⟩
def Rd (T : TypeId) (w : World) (R g : Nat) (zs : List Int) (e : Int) : Prop :=
 g ≠ R ∧ ∃ ao cap, w.heap[R]? = some (.cells #[.slice ao zs.length cap, .int .i64 e] T (0, 0)) ∧ zs.length ≤ cap ∧ cap ≤ maxLen ∧ Row w ao g zs
theorem Rd.keep {T : TypeId} {S : List Nat} {w w' : World} {R g : Nat} {zs : List Int} {e : Int} (hr : Rd T w R g zs e) (h : Kp S w w') (h1 : R ∉ S) (h2 : g ∉ S) : Rd T w' R g zs e := by
 obtain ⟨hne, ao, cap, hb, hl, hm, hrow⟩ := hr
 exact ⟨hne, ao, cap, h.heap hb h1, hl, hm, hrow.keep h h2⟩
theorem cell_of_two0 {w : World} {b : Nat} {v u : Value} {t : TypeId} (h : w.heap[b]? = some (.cells #[v, u] t (0, 0))) : w.cell? ⟨b, 0, none⟩ = some v := by simp [World.cell?, h]
theorem cell_of_two1 {w : World} {b : Nat} {v u : Value} {t : TypeId} (h : w.heap[b]? = some (.cells #[v, u] t (0, 0))) : w.cell? ⟨b, 1, none⟩ = some u := by simp [World.cell?, h]
theorem free_of_two {w : World} {b j : Nat} {cs : Array Value} {t : TypeId} (h : w.heap[b]? = some (.cells cs t (0, 0))) : w.frozen? ⟨b, j, none⟩ = false := by simp [World.frozen?, h]
theorem two_set0 {w : World} {b : Nat} {v u x : Value} {t : TypeId} (h : w.heap[b]? = some (.cells #[v, u] t (0, 0))) : (w.setCell ⟨b, 0, none⟩ x).heap[b]? = some (.cells #[x, u] t (0, 0)) := by
 rw [heap_setCell_same w b 0 _ t x h]; rfl
theorem two_set1 {w : World} {b : Nat} {v u x : Value} {t : TypeId} (h : w.heap[b]? = some (.cells #[v, u] t (0, 0))) : (w.setCell ⟨b, 1, none⟩ x).heap[b]? = some (.cells #[v, x] t (0, 0)) := by
 rw [heap_setCell_same w b 1 _ t x h]; rfl
theorem row_of_owns {w : World} {base : Nat} {e : TypeId} {g n cap : Nat} {zs : List Int} (h : w.ownsRow base e 1 (.slice (some ⟨g, 0, none⟩) n cap) n (zs.map (Value.int .u8))) : Row w (some ⟨g, 0, none⟩) g zs := by
 have hl := h.1
 simp only [List.length_map, Nat.mul_one] at hl
 refine .inr ⟨0, rfl, fun j hj => ?_⟩
 rw [Nat.zero_add, h.cellAt j (by omega)]
 simp [List.getD_eq_getElem?_getD, hj]
theorem len_of_owns {w : World} {base : Nat} {e : TypeId} {v : Value} {n : Nat} {zs : List Int} (h : w.ownsRow base e 1 v n (zs.map (Value.int .u8))) : zs.length = n := by
 have hl := h.1
 simpa using hl
def le : List Int → Int
 | [] => 0
 | b :: r => b + 256 * le r
section
variable {P : Program} (w : World)
theorem run_append_row (base : Nat) (t ty e : TypeId) (i : TypeInfo) (ht : P.underlying t = some (.slice e)) (hi : P.info? e = some i) (hz : i.zero = some (.int .u8 0)) (hsize : i.size = 1) (hby : i.bytes = 1)
  (v : Value) (n : Nat) (xs : List Value) (hown : w.ownsRow base e 1 v n xs) (ao : Option Addr) (g m c : Nat) (zs : List Int) (hl : zs.length = m) (hrow : Row w ao g zs) (hnil : ao = none → m = 0 ∧ c = 0)
  (hb : n + m ≤ 1000000) (hbase : base ≤ w.heap.size) :
  ∃ v' w', (Builtin.append_ #[t, t] ty #[v, .slice ao m c]).run P w = .ok v' w' ∧ w'.ownsRow base e 1 v' (n + m) (xs ++ zs.map (Value.int .u8)) ∧ w.grownBy w' v.ownBlock ∧ (v' = .slice none 0 0 ↔ v = .slice none 0 0 ∧ m = 0) := by
 cases ao with
 | none =>
  obtain ⟨rfl, rfl⟩ := hnil rfl
  have hz0 : zs = [] := List.eq_nil_of_length_eq_zero hl
  subst hz0
  exact ⟨v, w, run_append_owned_none (P := P) w base t ty e i 1 ht hi v n xs hown, by simpa using hown, World.grownBy.refl _ _, by simp⟩
 | some ad =>
  refine run_append_own (P := P) w base t ty e i (.int .u8 0) 1 1 ht hi hz hsize hby rfl (by decide) v n xs hown ad m c (zs.map (Value.int .u8)) (by simp [hl]) ?_ (ints_oneCell _ _) (by unfold maxLen; omega) (by omega) hbase
  intro j u hu
  obtain ⟨hj, hu⟩ := List.getElem?_eq_some_iff.1 hu
  simp only [List.length_map] at hj
  rcases hrow with rfl | ⟨o, ho, hc⟩
  ·simp at hj
  cases ho
  rw [Addr.add_lit, hc j hj]
  simp [← hu, List.getD_eq_getElem?_getD, hj]
theorem wpList_append_row {ops : Array Oper} {rest : List Oper} {o : Oper} {a : Act} {Q : Exit → Act → World → Prop} (hgd : o.guard = none) (s x : Operand) (t : TypeId)
  (ho : o.op = .call { callee := .builtin .append, args := #[s, x], argTypes := #[t, t] })
  (base : Nat) (e : TypeId) (i : TypeInfo) (ht : P.underlying t = some (.slice e)) (hi : P.info? e = some i) (hz : i.zero = some (.int .u8 0)) (hsize : i.size = 1) (hby : i.bytes = 1)
  (v : Value) (n : Nat) (xs : List Value) (hs : a.eval s = v) (hown : w.ownsRow base e 1 v n xs) (ao : Option Addr) (g m c : Nat) (zs : List Int) (hx : a.eval x = .slice ao m c) (hl : zs.length = m) (hrow : Row w ao g zs)
  (hnil : ao = none → m = 0 ∧ c = 0) (hb : n + m ≤ 1000000) (hbase : base ≤ w.heap.size)
  (h : ∀ v' w', w'.ownsRow base e 1 v' (n + m) (xs ++ zs.map (Value.int .u8)) → w.grownBy w' v.ownBlock → (v' = .slice none 0 0 ↔ v = .slice none 0 0 ∧ m = 0) → wpList P ops Q rest (a.put o.dst v') w') : wpList P ops Q (o :: rest) a w := by
 refine wpList_plain hgd fun K hK => ?_
 obtain ⟨v', w', hr, h2, h3, h4⟩ := run_append_row (P := P) w base t o.type e i ht hi hz hsize hby v n xs hown ao g m c zs hl hrow hnil hb hbase
 unfold Oper.wp
 simp [execOp, ho, resolve, invoke, builtin, hs, hx, hr, Result.andThen]
 exact hK _ _ (h v' w' h2 h3 h4)
end
theorem owns_shape {w : World} {base : Nat} {e : TypeId} {v : Value} {n : Nat} {xs : List Value} (h : w.ownsRow base e 1 v n xs) (hv : v ≠ .slice none 0 0) : ∃ g cap, v = .slice (some ⟨g, 0, none⟩) n cap ∧ base ≤ g ∧ g < w.heap.size := by
 rcases h.2 with ⟨h', _⟩ | ⟨g, cap, cur, rfl, hb, hg, _⟩
 ·exact absurd h' hv
 exact ⟨g, cap, rfl, hb, lt_of_block hg⟩
def rdV (s : Nat) (zs : List Int) : Int := if s ≤ zs.length then wrap64 (le (zs.take s)) else 0
def rdZ (s : Nat) (zs : List Int) (e : Int) : List Int := if s ≤ zs.length then zs.drop s else if e = 0 then [] else zs
def rdE (s : Nat) (zs : List Int) (e : Int) : Int := if s ≤ zs.length then e else if e = 0 then 3 else e
def by8 : Nat → Int → List Int
 | 0, _ => []
 | n + 1, v => v % 256 :: by8 n (v / 256)
theorem by8_length (n : Nat) (v : Int) : (by8 n v).length = n := by
 induction n generalizing v with
 | zero => rfl
 | succ n ih => simp [by8, ih]
theorem by8_snoc (n : Nat) (v : Int) : by8 (n + 1) v = by8 n v ++ [v / 256 ^ n % 256] := by
 induction n generalizing v with
 | zero => simp [by8]
 | succ n ih =>
  rw [by8, ih]
  have e : v / 256 / 256 ^ n = v / 256 ^ (n + 1) := by
   rw [Int.ediv_ediv_of_nonneg (by omega), Int.pow_succ, Int.mul_comm]
  rw [e]
  simp [by8]
theorem le_snoc (zs : List Int) (b : Int) : le (zs ++ [b]) = le zs + b * 256 ^ zs.length := by
 induction zs with
 | nil => simp [le]
 | cons x r ih =>
  simp only [List.cons_append, le, ih, List.length_cons, Int.pow_succ]
  rw [Int.mul_add, ← Int.add_assoc]
  congr 1
  rw [Int.mul_left_comm, Int.mul_comm 256 (256 ^ r.length)]
theorem le_bound (zs : List Int) (h : Byt zs) : 0 ≤ le zs ∧ le zs < 256 ^ zs.length := by
 induction zs with
 | nil => simp [le]
 | cons x r ih =>
  have h1 := ih (fun z hz => h z (List.mem_cons_of_mem _ hz))
  have h2 := h x (List.mem_cons_self)
  simp only [le, List.length_cons, Int.pow_succ]
  omega
theorem take_snoc (zs : List Int) (k : Nat) (h : k < zs.length) : zs.take (k + 1) = zs.take k ++ [zs.getD k 0] := by
 rw [List.take_succ_eq_append_getElem h, List.getD_eq_getElem?_getD, List.getElem?_eq_getElem h]
 rfl
theorem drop_getD (zs : List Int) (k j : Nat) : (zs.drop k).getD j 0 = zs.getD (k + j) 0 := by
 simp [List.getD_eq_getElem?_getD, List.getElem?_drop]
theorem or_step (V b : Int) (k : Nat) (hk : k < 8) (h0 : 0 ≤ V) (h1 : V < 256 ^ k) (hb0 : 0 ≤ b) (hb1 : b ≤ 255) :
    bits BinOp.or IntKind.u64 V (IntKind.u64.wrap (b * 2 ^ (8 * k))) = V + b * 256 ^ k := by
  obtain ⟨v, rfl⟩ := Int.eq_ofNat_of_zero_le h0
  obtain ⟨c, rfl⟩ := Int.eq_ofNat_of_zero_le hb0
  have e2 : (2 : Nat) ^ (8 * k) = 256 ^ k := by rw [Nat.pow_mul]
  have hv : v < 256 ^ k := by have : ((v : Nat) : Int) < ((256 ^ k : Nat) : Int) := by simpa using h1
                              omega
  have hc : c ≤ 255 := by omega
  have hp : (256 : Nat) ^ k ≤ 256 ^ 7 := Nat.pow_le_pow_right (by omega) (by omega)
  have hm : c * 256 ^ k ≤ 255 * 256 ^ 7 := Nat.mul_le_mul hc hp
  have h7 : (256 : Nat) ^ 7 = 72057594037927936 := by decide
  have ew : IntKind.u64.wrap (((c : Nat) : Int) * 2 ^ (8 * k)) = ((2 ^ (8 * k) * c : Nat) : Int) := by
    rw [IntWalk.u64_in _ ⟨?_, ?_⟩]
    · simp [Int.mul_comm]
    · exact Int.mul_nonneg (by omega) (Int.pow_nonneg (by omega))
    have : (((c * 2 ^ (8 * k) : Nat)) : Int) ≤ 18446744073709551615 := by rw [e2]; omega
    simpa using this
  rw [ew, bits_or_u64_nat v (2 ^ (8 * k) * c) (by omega) (by rw [e2, Nat.mul_comm]; omega), Nat.or_comm, ← Nat.two_pow_add_eq_or_of_lt (by rw [e2]; exact hv), e2]
  simp [Int.mul_comm, Int.add_comm]
end Go.Proofs.YtjdikhelabibnaaGreat

namespace Go.Proofs.YtjdikhelabibnaaGreat
def dbl (x : Nat) : Nat := if 2 * x ≤ 255 then 2 * x else (2 * x) ^^^ 285
def mulF : Nat → Nat → Nat → Nat
 | 0, _, _ => 0
 | k + 1, x, y => (if y % 2 = 1 then x else 0) ^^^ mulF k (dbl x) (y / 2)
def gmul (a b : Nat) : Nat := mulF 8 a b
theorem xor_lt {a b : Nat} (ha : a < 256) (hb : b < 256) : a ^^^ b < 256 := Nat.xor_lt_two_pow (n := 8) ha hb
theorem dbl_lt {x : Nat} (h : x < 256) : dbl x < 256 := by
 have : ∀ x : Fin 256, dbl x.val < 256 := by decide +kernel
 exact this ⟨x, h⟩
theorem dbl_eq (x : Nat) (h : x < 256) : dbl x = (2 * x) ^^^ (if x.testBit 7 then 285 else 0) := by
 have : ∀ x : Fin 256, dbl x.val = (2 * x.val) ^^^ (if x.val.testBit 7 then 285 else 0) := by decide +kernel
 exact this ⟨x, h⟩
theorem two_xor (a b : Nat) : 2 * (a ^^^ b) = (2 * a) ^^^ (2 * b) := by
 have h := Nat.shiftLeft_xor_distrib (a := a) (b := b) (i := 1)
 simpa [Nat.shiftLeft_eq, Nat.mul_comm] using h
theorem dbl_xor {a b : Nat} (ha : a < 256) (hb : b < 256) : dbl (a ^^^ b) = dbl a ^^^ dbl b := by
 rw [dbl_eq _ (xor_lt ha hb), dbl_eq _ ha, dbl_eq _ hb, two_xor, Nat.testBit_xor]
 have e : ∀ p q r s : Nat, (p ^^^ q) ^^^ (r ^^^ s) = (p ^^^ r) ^^^ (q ^^^ s) := by
  intro p q r s
  rw [Nat.xor_assoc, Nat.xor_assoc, ← Nat.xor_assoc q r s, Nat.xor_comm q r, Nat.xor_assoc r q s]
 rw [e]
 cases a.testBit 7 <;> cases b.testBit 7 <;> simp
theorem mulF_lt (k : Nat) {x : Nat} (y : Nat) (h : x < 256) : mulF k x y < 256 := by
 induction k generalizing x y with
 | zero => simp [mulF]
 | succ k ih =>
  rw [mulF]
  refine xor_lt ?_ (ih _ (dbl_lt h))
  split
  ·exact h
  omega
theorem gmul_lt {a b : Nat} (ha : a < 256) : gmul a b < 256 := mulF_lt 8 b ha
theorem mulF_zero (k x : Nat) : mulF k x 0 = 0 := by
 induction k generalizing x with
 | zero => rfl
 | succ k ih => simp [mulF, ih]
theorem mulF_dbl (k : Nat) {x : Nat} (y : Nat) (h : x < 256) : mulF k (dbl x) y = dbl (mulF k x y) := by
 induction k generalizing x y with
 | zero => simp [mulF, dbl]
 | succ k ih =>
  rw [mulF, mulF, ih _ (dbl_lt h), dbl_xor (by split <;> omega) (mulF_lt _ _ (dbl_lt h))]
  split
  ·rfl
  rfl
theorem mulF_xor (k : Nat) {x : Nat} (y z : Nat) : mulF k x (y ^^^ z) = mulF k x y ^^^ mulF k x z := by
 induction k generalizing x y z with
 | zero => simp [mulF]
 | succ k ih =>
  rw [mulF, mulF, mulF, Nat.xor_div_two, ih]
  have e : ∀ p q r s : Nat, (p ^^^ q) ^^^ (r ^^^ s) = (p ^^^ r) ^^^ (q ^^^ s) := by
   intro p q r s
   rw [Nat.xor_assoc, Nat.xor_assoc, ← Nat.xor_assoc q r s, Nat.xor_comm q r, Nat.xor_assoc r q s]
  rw [e]
  congr 1
  have hp : (y ^^^ z) % 2 = (y % 2 + z % 2) % 2 := by
   have := @Nat.xor_mod_two_eq_one y z
   omega
  rcases Nat.mod_two_eq_zero_or_one y with h1 | h1 <;> rcases Nat.mod_two_eq_zero_or_one z with h2 | h2 <;> simp [hp, h1, h2]
theorem gmul_xor (a b c : Nat) : gmul a (b ^^^ c) = gmul a b ^^^ gmul a c := mulF_xor 8 b c
theorem one_gmul {b : Nat} (h : b < 256) : gmul 1 b = b := by
 have : ∀ x : Fin 256, gmul 1 x.val = x.val := by decide +kernel
 exact this ⟨b, h⟩
theorem gmul_zero (a : Nat) : gmul a 0 = 0 := mulF_zero 8 a
theorem zero_gmul {b : Nat} (h : b < 256) : gmul 0 b = 0 := by
 have : ∀ x : Fin 256, gmul 0 x.val = 0 := by decide +kernel
 exact this ⟨b, h⟩
def E : Nat → Nat
 | 0 => 1
 | n + 1 => dbl (E n)
theorem E_lt (n : Nat) : E n < 256 := by
 induction n with
 | zero => simp [E]
 | succ n ih => exact dbl_lt ih
theorem E_255 : E 255 = 1 := by decide +kernel
theorem E_add (n : Nat) : E (n + 255) = E n := by
 induction n with
 | zero => rw [Nat.zero_add, E_255]; rfl
 | succ n ih => rw [Nat.add_right_comm, E, ih, E]
theorem E_mod (n : Nat) : E (n % 255) = E n := by
 have h : ∀ k m, E (m + 255 * k) = E m := by
  intro k
  induction k with
  | zero => intro m; rfl
  | succ k ih => intro m; rw [Nat.mul_succ, ← Nat.add_assoc, E_add, ih]
 have := h (n / 255) (n % 255)
 rw [Nat.mod_add_div] at this
 exact this.symm
theorem gmul_E (i j : Nat) : gmul (E i) (E j) = E (i + j) := by
 induction i with
 | zero => rw [Nat.zero_add]; exact one_gmul (E_lt j)
 | succ i ih => rw [E, gmul, mulF_dbl _ _ (E_lt i), ← gmul, ih, Nat.add_right_comm, E]
def lgF : Nat → Nat → Nat → Nat → Nat
 | 0, _, _, _ => 0
 | k + 1, x, n, a => if x = a then n else lgF k (dbl x) (n + 1) a
def L (a : Nat) : Nat := lgF 255 1 0 a
theorem E_L {a : Nat} (h0 : 0 < a) (h : a < 256) : E (L a) = a ∧ L a < 255 := by
 have : ∀ x : Fin 256, 0 < x.val → E (L x.val) = x.val ∧ L x.val < 255 := by decide +kernel
 exact this ⟨a, h⟩ h0
theorem L_E {n : Nat} (h : n < 255) : L (E n) = n := by
 have : ∀ x : Fin 255, L (E x.val) = x.val := by decide +kernel
 exact this ⟨n, h⟩
theorem E_ne (n : Nat) : 0 < E n := by
 have : ∀ x : Fin 255, 0 < E x.val := by decide +kernel
 rw [← E_mod]
 exact this ⟨n % 255, Nat.mod_lt _ (by omega)⟩
theorem L_E_mod (n : Nat) : L (E n) = n % 255 := by
 rw [← E_mod, L_E (Nat.mod_lt _ (by omega))]
def X (n : Int) : Nat := E (n % 255).toNat
theorem X_lt (n : Int) : X n < 256 := E_lt _
theorem X_ne (n : Int) : 0 < X n := E_ne _
theorem X_nat (n : Nat) : X n = E n := by
 unfold X
 rw [show ((n : Int) % 255).toNat = n % 255 from by omega, E_mod]
theorem X_congr {n m : Int} (h : n % 255 = m % 255) : X n = X m := by unfold X; rw [h]
theorem X_mul (n m : Int) : gmul (X n) (X m) = X (n + m) := by
 have h : gmul (X n) (X m) = E ((n % 255).toNat + (m % 255).toNat) := gmul_E _ _
 rw [h, ← X_nat]
 exact X_congr (by omega)
theorem L_X (n : Int) : (L (X n) : Int) = n % 255 := by
 unfold X
 rw [L_E_mod]
 omega
theorem X_L {a : Nat} (h0 : 0 < a) (h : a < 256) : X (L a) = a := by rw [X_nat]; exact (E_L h0 h).1
theorem of_X {a : Nat} (h : a < 256) : a = 0 ∨ ∃ n : Int, a = X n := by
 by_cases h0 : a = 0
 ·exact .inl h0
 exact .inr ⟨L a, (X_L (by omega) h).symm⟩
theorem gmul_comm {a b : Nat} (ha : a < 256) (hb : b < 256) : gmul a b = gmul b a := by
 rcases of_X ha with rfl | ⟨n, rfl⟩
 ·rw [zero_gmul hb, gmul_zero]
 rcases of_X hb with rfl | ⟨m, rfl⟩
 ·rw [zero_gmul ha, gmul_zero]
 rw [X_mul, X_mul, Int.add_comm]
theorem gmul_assoc {a b c : Nat} (ha : a < 256) (hb : b < 256) (hc : c < 256) : gmul (gmul a b) c = gmul a (gmul b c) := by
 rcases of_X ha with rfl | ⟨n, rfl⟩
 ·rw [zero_gmul hb, zero_gmul hc, zero_gmul (gmul_lt hb)]
 rcases of_X hb with rfl | ⟨m, rfl⟩
 ·rw [gmul_zero, zero_gmul hc, gmul_zero]
 rcases of_X hc with rfl | ⟨k, rfl⟩
 ·rw [gmul_zero, gmul_zero, gmul_zero]
 rw [X_mul, X_mul, X_mul, X_mul, Int.add_assoc]
theorem gmul_one {a : Nat} (h : a < 256) : gmul a 1 = a := by rw [gmul_comm h (by omega), one_gmul h]
def pw (a : Nat) (n : Int) : Nat := if n = 0 then 1 else if a = 0 then 0 else X (L a * n)
def lg (a : Nat) : Int := if a = 0 then -1 else L a
theorem pw_lt (a : Nat) (n : Int) : pw a n < 256 := by
 unfold pw
 split
 ·omega
 split
 ·omega
 exact X_lt _
theorem pw_X (n m : Int) : pw (X n) m = X (n * m) := by
 unfold pw
 have := X_ne n
 by_cases h : m = 0
 ·rw [if_pos h, h, Int.mul_zero]; rfl
 rw [if_neg h, if_neg (by omega), L_X]
 exact X_congr (by rw [Int.mul_emod, Int.emod_emod_of_dvd n (by omega), ← Int.mul_emod])
theorem pw_zero {n : Int} (h : n ≠ 0) : pw 0 n = 0 := by unfold pw; rw [if_neg h, if_pos rfl]
theorem pw_nought (a : Nat) : pw a 0 = 1 := by unfold pw; rw [if_pos rfl]
theorem X_one : X 1 = 2 := by decide +kernel
theorem X_zero : X 0 = 1 := by decide +kernel
theorem pw_two (n : Int) : pw 2 n = X n := by rw [← X_one, pw_X, Int.one_mul]
def picks (st : Nat → Nat) : Nat → Nat → Nat → List Nat
 | 0, _, _ => []
 | k + 1, x, y => (if y % 2 = 1 then [x] else []) ++ picks st k (st x) (y / 2)
theorem picks_nought (st : Nat → Nat) (k x : Nat) : picks st k x 0 = [] := by
 induction k generalizing x with
 | zero => rfl
 | succ k ih => simp [picks, ih]
theorem sum_picks (k x y s : Nat) : (picks dbl k x y).foldl (· ^^^ ·) s = s ^^^ mulF k x y := by
 induction k generalizing x y s with
 | zero => simp [picks, mulF]
 | succ k ih =>
  rw [picks, mulF, List.foldl_append, ih]
  split <;> simp [Nat.xor_assoc]
theorem mul_picks (a b : Nat) : (picks dbl 8 a b).foldl (· ^^^ ·) 0 = gmul a b := by rw [sum_picks, Nat.zero_xor]; rfl
def sqr (x : Nat) : Nat := gmul x x
theorem sqr_X (n : Int) : sqr (X n) = X (n + n) := X_mul n n
theorem prod_picks (k : Nat) (i : Int) (y : Nat) (hy : y < 2 ^ k) (s : Int) : (picks sqr k (X i) y).foldl gmul (X s) = X (s + i * y) := by
 induction k generalizing i y s with
 | zero =>
  have : y = 0 := by simpa using hy
  subst this
  simp [picks]
 | succ k ih =>
  have h2 : y / 2 < 2 ^ k := by rw [Nat.pow_succ] at hy; omega
  have e : (y : Int) = 2 * ((y / 2 : Nat) : Int) + ((y % 2 : Nat) : Int) := by omega
  have e2 : (i + i) * ((y / 2 : Nat) : Int) = i * (2 * ((y / 2 : Nat) : Int)) := by rw [← Int.two_mul, Int.mul_comm 2 i, Int.mul_assoc]
  rw [picks, List.foldl_append, sqr_X]
  by_cases h : y % 2 = 1
  ·rw [if_pos h, List.foldl_cons, List.foldl_nil, X_mul, ih _ _ h2]
   rw [h] at e
   rw [e, e2, Int.mul_add, Int.natCast_one, Int.mul_one, Int.add_assoc, Int.add_comm i]
  rw [if_neg h, List.foldl_nil, ih _ _ h2]
  rw [show y % 2 = 0 from by omega] at e
  rw [e, e2, Int.natCast_zero, Int.add_zero]
theorem pow_picks {a : Nat} (h0 : 0 < a) (h : a < 256) (n : Int) : (picks sqr 8 a (n % 255).toNat).foldl gmul 1 = X (L a * n) := by
 have e := X_L h0 h
 have := prod_picks 8 (L a) (n % 255).toNat (by omega) 0
 rw [e, X_zero] at this
 rw [this]
 refine X_congr ?_
 rw [show (((n % 255).toNat : Nat) : Int) = n % 255 from by omega, Int.zero_add, Int.mul_emod, Int.emod_emod_of_dvd n (by omega), ← Int.mul_emod]
end Go.Proofs.YtjdikhelabibnaaGreat

namespace Go.Proofs.YtjdikhelabibnaaGreat
def cf : List Nat → Nat → Nat
 | [], _ => 0
 | x :: _, 0 => x
 | _ :: p, i + 1 => cf p i
@[simp] theorem cf_nil (i : Nat) : cf [] i = 0 := rfl
@[simp] theorem cf_zero (x : Nat) (p : List Nat) : cf (x :: p) 0 = x := rfl
@[simp] theorem cf_succ (x : Nat) (p : List Nat) (i : Nat) : cf (x :: p) (i + 1) = cf p i := rfl
theorem cf_ge {p : List Nat} {i : Nat} (h : p.length ≤ i) : cf p i = 0 := by
 induction p generalizing i with
 | nil => rfl
 | cons x p ih =>
  cases i with
  | zero => simp at h
  | succ i => exact ih (by simpa using h)
theorem cf_get {p : List Nat} {i : Nat} (h : i < p.length) : p[i]? = some (cf p i) := by
 induction p generalizing i with
 | nil => simp at h
 | cons x p ih =>
  cases i with
  | zero => rfl
  | succ i => simpa using ih (by simpa using h)
theorem cf_getD (p : List Nat) (i : Nat) : p.getD i 0 = cf p i := by
 by_cases h : i < p.length
 ·rw [List.getD_eq_getElem?_getD, cf_get h]; rfl
 rw [cf_ge (by omega), List.getD_eq_getElem?_getD, List.getElem?_eq_none (by omega)]; rfl
def Eqv (p q : List Nat) : Prop := ∀ i, cf p i = cf q i
theorem eq_of_cf {p q : List Nat} (hl : p.length = q.length) (h : Eqv p q) : p = q := by
 apply List.ext_getElem?
 intro i
 by_cases hi : i < p.length
 ·rw [cf_get hi, cf_get (by omega), h i]
 rw [List.getElem?_eq_none (by omega), List.getElem?_eq_none (by omega)]
def Bs (p : List Nat) : Prop := ∀ i, cf p i < 256
theorem Bs.of {p : List Nat} (h : ∀ x ∈ p, x < 256) : Bs p := by
 intro i
 by_cases hi : i < p.length
 ·have := cf_get hi
  exact h _ (List.mem_of_getElem? this)
 rw [cf_ge (by omega)]; omega
theorem Bs.nil : Bs [] := fun i => by rw [cf_nil]; omega
theorem cf_take (p : List Nat) (e i : Nat) : cf (p.take e) i = if i < e then cf p i else 0 := by
 induction p generalizing e i with
 | nil => simp
 | cons x p ih =>
  cases e with
  | zero => simp
  | succ e =>
   cases i with
   | zero => simp
   | succ i => simp [ih]
theorem cf_drop (p : List Nat) (e i : Nat) : cf (p.drop e) i = cf p (e + i) := by
 induction p generalizing e with
 | nil => simp
 | cons x p ih =>
  cases e with
  | zero => simp
  | succ e => rw [List.drop_succ_cons, ih, Nat.add_right_comm, cf_succ]
theorem cf_set (p : List Nat) (k v i : Nat) (h : k < p.length) : cf (p.set k v) i = if i = k then v else cf p i := by
 induction p generalizing k i with
 | nil => simp at h
 | cons x p ih =>
  cases k with
  | zero => cases i <;> simp
  | succ k =>
   cases i with
   | zero => simp
   | succ i => simpa using ih k i (by simpa using h)
theorem cf_replicate (n i : Nat) : cf (List.replicate n 0) i = 0 := by
 induction n generalizing i with
 | zero => rfl
 | succ n ih =>
  cases i with
  | zero => rfl
  | succ i => exact ih i
def sc (x : Nat) (p : List Nat) : List Nat := p.map (gmul x)
theorem xor_swap (a b c : Nat) : a ^^^ (b ^^^ c) = b ^^^ (a ^^^ c) := by rw [← Nat.xor_assoc, Nat.xor_comm a b, Nat.xor_assoc]
theorem xor_four (a b c d : Nat) : (a ^^^ b) ^^^ (c ^^^ d) = (a ^^^ c) ^^^ (b ^^^ d) := by
 rw [Nat.xor_assoc, Nat.xor_assoc, xor_swap b c d]
theorem xor_gmul {a b c : Nat} (ha : a < 256) (hb : b < 256) (hc : c < 256) : gmul (a ^^^ b) c = gmul a c ^^^ gmul b c := by
 rw [gmul_comm (xor_lt ha hb) hc, gmul_xor, gmul_comm hc ha, gmul_comm hc hb]
theorem gmul_ne {a b : Nat} (ha : a < 256) (hb : b < 256) (h0 : a ≠ 0) (h1 : b ≠ 0) : gmul a b ≠ 0 := by
 rcases of_X ha with rfl | ⟨n, rfl⟩
 ·exact absurd rfl h0
 rcases of_X hb with rfl | ⟨m, rfl⟩
 ·exact absurd rfl h1
 rw [X_mul]
 have := X_ne (n + m)
 omega
theorem gmul_inv {a : Nat} (ha : a < 256) (h0 : a ≠ 0) : gmul a (pw a (-1)) = 1 := by
 rcases of_X ha with rfl | ⟨n, rfl⟩
 ·exact absurd rfl h0
 rw [pw_X, X_mul, ← X_zero]
 exact X_congr (by omega)
def ev (p : List Nat) (x : Nat) : Nat := match p with
 | [] => 0
 | c :: p => gmul (ev p x) x ^^^ c
end Go.Proofs.YtjdikhelabibnaaGreat

namespace Go.Proofs.YtjdikhelabibnaaGreat
theorem cf_zeros (n i : Nat) : cf (List.replicate n 0) i = 0 := cf_replicate n i
theorem Bs.zeros (n : Nat) : Bs (List.replicate n 0) := fun i => by rw [cf_zeros]; omega
end Go.Proofs.YtjdikhelabibnaaGreat
