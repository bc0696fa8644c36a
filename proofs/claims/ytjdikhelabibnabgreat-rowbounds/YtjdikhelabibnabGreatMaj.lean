/-
  page.joined: of two pieces, what is made of each, one behind the other.
  Ints of any kind that a call owns; appended to, also in a region that draws its order.
  Rows in memory that a call makes: cells of one, places; geometries (out of V7s, V7a, V7e, U7a, U7b, U7d, S7c, S7e, H7m).
-/
import Derived.Test.YtjdikhelabibnabGreatMai
import Derived.RangeFuncBox
import Derived.OwnWalkIn
import Derived.Test.YtjdikhelabibnabGreatMah
namespace Go.Proofs.YtjdikhelabibnabGreat
open Go.RowKit Go.Shelf
attribute [local go_sem] Oper.semAt_some

theorem boxed_own {β : Type} (B : Nat) (t : TypeId) (u : Value) : Own (fun (_ : β) W => Boxed W B t u) := fun _ X _ _ h hg hr => h.kept hg (fun e => by
  obtain ⟨o, ho, hc⟩ := hr B e.symm
  rw [show X.heap[B]? = _ from h] at ho
  cases ho
  cases hc)
theorem Arg.piece {w : World} {g o n c k m : Nat} {s : List Nat} (h : Arg w (.slice (some ⟨g, o, none⟩) n c) g s) (hk : k + m ≤ n) : Arg w (.slice (some ⟨g, o + k, none⟩) m m) g ((s.drop k).take m) := by
  obtain ⟨⟨ao, c', h1, h2, h3, h4, h5⟩, hb⟩ := h
  cases h1
  have hl : ((s.drop k).take m).length = m := by rw [List.length_take, List.length_drop]; omega
  refine ⟨⟨some ⟨g, o + k, none⟩, m, by rw [hl], by omega, by omega, (fun h => by cases h), row_sub (s := s) (k := k) (fun j hj => ?_) h5⟩, fun i => ?_⟩
  · rw [hl] at hj
    refine ⟨by omega, ?_⟩
    rw [← cf_getD, ← cf_getD, List.getD_eq_getElem?_getD, List.getD_eq_getElem?_getD, List.getElem?_take, if_pos hj, List.getElem?_drop]
  · rw [← cf_getD, List.getD_eq_getElem?_getD, List.getElem?_take]
    split
    · rw [List.getElem?_drop, ← List.getD_eq_getElem?_getD, cf_getD]; exact hb _
    · simp
theorem results_cells2 {P : Program} {fn : Func} {p q : Tmp} {t u : TypeId} (h : fn.results = #[.cell p t, .cell q u]) (tmps : Array Value) (w : World) (a b : Addr) (x y : Value) (hp : tmps.getD p undef = .pointer (some a)) (hq : tmps.getD q undef = .pointer (some b)) (hx : (loadVar t a).run P w = .ok x w) (hy : (loadVar u b).run P w = .ok y w) :
    (results fn tmps).run P w = .ok (.tuple #[x, y]) w := by
  rw [Array.getD_eq_getD_getElem?] at hp hq
  simp only [results, h]
  simp [Result.andThen, hp, hq, asAddr, hx, hy]
theorem load_sl (w : World) (ad : Addr) (x : Value) (hc : w.cell? ad = some x) : (loadVar 33 ad).run Tryz.prog w = .ok x w := by
  have hu := Tryz.underlying33
  simp [loadVar, isAgg, run_underlying hu, run_load, hc]
theorem load_bl (w : World) (ad : Addr) (x : Value) (hc : w.cell? ad = some x) : (loadVar 4 ad).run Tryz.prog w = .ok x w := by
  have hu := Tryz.underlying4
  simp [loadVar, isAgg, run_underlying hu, run_load, hc]

theorem owns_below {w w' : World} {base n size : Nat} {e : TypeId} {v : Value} {xs : List Value} (h : w.ownsRow base e size v n xs) (k : Below w.heap.size w w') : w'.ownsRow base e size v n xs :=
  h.kept (row := none) ⟨k.os, k.tape, k.output, k.size, fun j hj _ => k.block j hj⟩ (Classical.em _)
theorem Boxed.below {w w' : World} {B : Nat} {t : TypeId} {v : Value} (h : Boxed w B t v) (k : Below w.heap.size w w') : Boxed w' B t v := (k.block _ h.lt).trans h
theorem Boxed.app {W w1 : World} {n₀ B : Nat} {t e : TypeId} {v v' : Value} {k m : Nat} {xs ys : List Value}
    (hv : Boxed W B t v) (hte : t ≠ e) (hrow : W.ownsRow n₀ e 1 v k xs) (hn₀ : n₀ ≤ W.heap.size) (hown' : w1.ownsRow n₀ e 1 v' m ys) (hgrow : W.grownBy w1 v.ownBlock) :
    Boxed w1 B t v ∧ Boxed (w1.setCell ⟨B, 0, none⟩ v') B t v' ∧ (w1.setCell ⟨B, 0, none⟩ v').ownsRow n₀ e 1 v' m ys ∧ KeepsOthers W (w1.setCell ⟨B, 0, none⟩ v') ∧ W.heap.size ≤ (w1.setCell ⟨B, 0, none⟩ v').heap.size ∧
      (∀ k, k < n₀ → k ≠ B → (w1.setCell ⟨B, 0, none⟩ v').heap[k]? = W.heap[k]?) ∧ (∀ b, b ≤ n₀ → b ≤ B → Below b W (w1.setCell ⟨B, 0, none⟩ v')) := by
  have hv1 : Boxed w1 B t v := hv.kept hgrow (hv.not_row hte hrow)
  have hblk : ∀ k, k < n₀ → k ≠ B → (w1.setCell ⟨B, 0, none⟩ v').heap[k]? = W.heap[k]? := fun k hk hB => by
    refine (Below.heap_setCell _ _ _ _ (by simpa using hB)).trans (hgrow.block k (by omega) (fun e => ?_))
    have := (hrow.lt k e.symm).1
    omega
  refine ⟨hv1, hv1.set v', hown'.kept (grownBy_setCell' w1 B v') (.inr (hv1.not_row hte hown').symm), ?_, ?_, hblk, fun b hb hbB => ⟨hgrow.os, hgrow.tape, hgrow.output, ?_, fun k hk => hblk k (by omega) (by omega)⟩⟩
  · refine (KeepsOthers.of_grownBy hgrow fun j o ej hj => ?_).trans (KeepsOthers.setCell _ _ _)
    rcases hrow.2 with ⟨rfl, _⟩ | ⟨g, cap, cur, rfl, _, hgb, _⟩
    · simp [Value.ownBlock] at ej
    · obtain rfl : g = j := by simpa [Value.ownBlock] using ej
      rw [hgb] at hj; cases hj; rfl
  · simpa [World.setCell] using hgrow.size
  · simpa [World.setCell] using hgrow.size
theorem acc_le {out : Fin 2 → List Nat} {m : Nat} (h : ∀ x, (out x).length ≤ m) {pre : List (Fin 2)} {n : Nat} (hn : pre.length * m ≤ n) : (pre.flatMap out).length ≤ n := by
  refine Nat.le_trans ?_ hn
  clear hn
  induction pre with
  | nil => simp
  | cons x l ih =>
    rw [List.flatMap_cons, List.length_append, List.length_cons, Nat.add_mul]
    have := h x
    omega
theorem two_of {ys : List (Fin 2)} (h : ys.map Fin.val = [0, 1]) : ys = [0, 1] := by
  have hl : ys.length = 2 := by have := congrArg List.length h; simpa using this
  match ys, hl with
  | [a, b], _ =>
    simp at h
    simp [Fin.ext_iff, h]

end Go.Proofs.YtjdikhelabibnabGreat

namespace Go.Proofs.YtjdikhelabibnabGreat
open Go.RowKit Go.Shelf

/-- The call owns these numbers. -/
def OwnZ (base : Nat) (w : World) (v : Value) (zs : List Int) : Prop := w.ownsRow base 3 1 v zs.length (zs.map (Value.int .i64))
theorem OwnZ.nil (base : Nat) (w : World) : OwnZ base w (.slice none 0 0) [] := World.ownsRow_nil _ _ _ _
theorem OwnZ.none (w : World) : OwnZ w.heap.size (w.alloc (.cells #[] 3)) (.slice (some ⟨w.heap.size, 0, none⟩) 0 0) [] := own_none w 3
theorem OwnZ.snoc {base : Nat} {w : World} {v : Value} {l : List Int} {k : Int} (h : w.ownsRow base 3 1 v (l.length + 1) (l.map (Value.int .i64) ++ [.int .i64 k])) : OwnZ base w v (l ++ [k]) := by
  unfold OwnZ
  rw [List.length_append, List.map_append]
  exact h
theorem OwnZ.keep {base : Nat} {w w' : World} {v : Value} {l : List Int} (h : OwnZ base w v l) (k : ∀ b, base ≤ b → b < w.heap.size → w'.heap[b]? = w.heap[b]?) : OwnZ base w' v l := by
  refine ⟨h.1, ?_⟩
  rcases h.2 with h' | ⟨g, cap, cur, h1, h2, h3, h4⟩
  · exact .inl h'
  · exact .inr ⟨g, cap, cur, h1, h2, (k g h2 (Array.getElem?_eq_some_iff.1 h3).1).trans h3, h4⟩
theorem OwnZ.below {base : Nat} {w w' : World} {v : Value} {l : List Int} (h : OwnZ base w v l) (k : Below w.heap.size w w') : OwnZ base w' v l := h.keep (fun b _ hb => k.block b hb)
theorem OwnZ.row {base : Nat} {w : World} {v : Value} {l : List Int} (h : OwnZ base w v l) (k : Nat) (hk : v.ownBlock = some k) : base ≤ k := by
  rcases h.2 with ⟨h1, _⟩ | ⟨g, cap, cur, h1, h2, _⟩
  · rw [h1] at hk; cases hk
  · rw [h1] at hk; cases hk; exact h2
theorem OwnZ.za {base : Nat} {w : World} {v : Value} {l : List Int} (h : OwnZ base w v l) (hb : ∀ z ∈ l, -9223372036854775808 ≤ z ∧ z ≤ 9223372036854775807) : ∃ ao c g, v = .slice ao l.length c ∧ ZArg w (.slice ao l.length c) g l ∧ (ao = Option.none → c = 0) := by
  rcases h.2 with ⟨h', h0⟩ | ⟨g, cap, cur, h1, h2, h3, h4, h5, h6, h7⟩
  · have hl : l = [] := List.eq_nil_of_length_eq_zero h0
    subst hl
    exact ⟨Option.none, 0, 0, h', ⟨⟨Option.none, 0, rfl, by simp, by simp, fun _ => rfl, .inl rfl⟩, hb⟩, fun _ => rfl⟩
  · refine ⟨some ⟨g, 0, Option.none⟩, cap, g, h1, ⟨⟨some ⟨g, 0, Option.none⟩, cap, rfl, h4, h5, (fun h => by cases h), .inr ⟨0, rfl, fun j hj => ?_⟩⟩, hb⟩, fun h => by cases h⟩
    have e : (cur.toList.take (l.length * 1))[j]? = (l.map (Value.int .i64))[j]? := by rw [h7]
    rw [List.getElem?_take, if_pos (by omega), Array.getElem?_toList] at e
    have h8 : cur[j]? = some (.int .i64 (l.getD j 0)) := by
      rw [e, List.getElem?_map, List.getElem?_eq_getElem hj, List.getD_eq_getElem?_getD, List.getElem?_eq_getElem hj]
      rfl
    rw [Nat.zero_add]
    simp [World.cell?, h3, h8]

theorem zarg_in {w : World} {ao : Option Addr} {g len cap : Nat} {zs : List Int} (l : zs.length = len) (r : IRow w ao g zs) (b : ∀ z ∈ zs, -9223372036854775808 ≤ z ∧ z ≤ 9223372036854775807) (c : len ≤ cap) (n : ao = none → len = 0 ∧ cap = 0) (m : cap ≤ maxLen) : ZArg w (.slice ao len cap) g zs :=
  ⟨⟨ao, cap, by rw [l], by omega, m, fun h => (n h).2, r⟩, b⟩

section
/-- Ints from wherever they lie go behind what the call owns. -/
theorem run_append_z (w : World) (base : Nat) (ty : TypeId) (v : Value) (xs zs : List Int) (hown : OwnZ base w v xs) (ao : Option Addr) (g m c : Nat) (hl : zs.length = m) (hrow : IRow w ao g zs) (hnil : ao = none → m = 0 ∧ c = 0) (hb : xs.length + m ≤ 1000000) (hbase : base ≤ w.heap.size) :
    ∃ v' w', (Builtin.append_ #[23, 23] ty #[v, .slice ao m c]).run Tryz.prog w = .ok v' w' ∧ OwnZ base w' v' (xs ++ zs) ∧ w.grownBy w' v.ownBlock := by
  obtain ⟨i0, hi, hz0, hz1, hz2⟩ := info_parts infoI
  cases ao with
  | none =>
    obtain ⟨rfl, rfl⟩ := hnil rfl
    have h0 : zs = [] := List.eq_nil_of_length_eq_zero hl
    subst h0
    exact ⟨v, w, run_append_owned_none (P := Tryz.prog) w base 23 ty 3 i0 1 Tryz.underlying23 hi v _ _ hown, by simpa using hown, World.grownBy.refl _ _⟩
  | some ad =>
    obtain ⟨v', w', h1, h2, h3, _⟩ := run_append_own (P := Tryz.prog) w base 23 ty 3 i0 (.int .i64 0) 1 8 Tryz.underlying23 hi hz0 hz1 hz2 rfl (by decide) v _ _ hown ad m c (zs.map (Value.int .i64)) (by simp [hl]) (by
      intro j u hu
      obtain ⟨hj, hu⟩ := List.getElem?_eq_some_iff.1 hu
      simp only [List.length_map] at hj
      rcases hrow with rfl | ⟨o, ho, hc⟩
      · simp at hj
      · cases ho
        rw [Addr.add_lit, hc j hj]
        simp [← hu, List.getD_eq_getElem?_getD, hj]) (ints_oneCell _ _) (by unfold maxLen; omega) (by omega) hbase
    refine ⟨v', w', h1, ?_, h3⟩
    unfold OwnZ
    rw [List.length_append, hl, List.map_append]
    exact h2

theorem wp_append_z {o : Oper} {a : Act} {w : World} {K : Act → World → Prop} {Q : Exit → Act → World → Prop} (s x : Operand) (ho : o.op = .call { callee := .builtin .append, args := #[s, x], argTypes := #[23, 23] })
    (base : Nat) (v : Value) (xs zs : List Int) (hs : a.eval s = v) (hown : OwnZ base w v xs) (ao : Option Addr) (g m c : Nat) (hx : a.eval x = .slice ao m c) (hl : zs.length = m) (hrow : IRow w ao g zs) (hnil : ao = none → m = 0 ∧ c = 0) (hb : xs.length + m ≤ 1000000) (hbase : base ≤ w.heap.size)
    (hK : ∀ v' w', OwnZ base w' v' (xs ++ zs) → w.grownBy w' v.ownBlock → K (a.put o.dst v') w') : o.wp Tryz.prog a w K Q := by
  obtain ⟨v', w', hr, h2, h3⟩ := run_append_z w base o.type v xs zs hown ao g m c hl hrow hnil hb hbase
  unfold Oper.wp
  simp [execOp, ho, resolve, invoke, builtin, hs, hx, hr, Result.andThen]
  exact hK _ _ h2 h3

theorem wp_append_b {o : Oper} {a : Act} {w : World} {K : Act → World → Prop} {Q : Exit → Act → World → Prop} (s x : Operand) (ho : o.op = .call { callee := .builtin .append, args := #[s, x], argTypes := #[33, 33] })
    (base : Nat) (v : Value) (n : Nat) (xs : List Value) (zs : List Int) (hs : a.eval s = v) (hown : w.ownsRow base 5 1 v n xs) (ao : Option Addr) (g m c : Nat) (hx : a.eval x = .slice ao m c) (hl : zs.length = m) (hrow : Row w ao g zs) (hnil : ao = none → m = 0 ∧ c = 0) (hb : n + m ≤ 1000000) (hbase : base ≤ w.heap.size)
    (hK : ∀ v' w', w'.ownsRow base 5 1 v' (n + m) (xs ++ zs.map (Value.int .u8)) → w.grownBy w' v.ownBlock → K (a.put o.dst v') w') : o.wp Tryz.prog a w K Q := by
  obtain ⟨i0, hi, hz0, hz1, hz2⟩ := info_parts infoE
  obtain ⟨v', w', hr, h2, h3, _⟩ := run_append_row (P := Tryz.prog) w base 33 o.type 5 i0 Tryz.underlying33 hi hz0 hz1 hz2 v n xs hown ao g m c zs hl hrow hnil hb hbase
  unfold Oper.wp
  simp [execOp, ho, resolve, invoke, builtin, hs, hx, hr, Result.andThen]
  exact hK _ _ h2 h3
end

end Go.Proofs.YtjdikhelabibnabGreat

namespace Go.Proofs.YtjdikhelabibnabGreat
open Go.RowKit Go.Shelf

theorem cell_blk {w : World} {g j : Nat} {cur : Array Value} {t : TypeId} {v : Value} (h : w.heap[g]? = some (.cells cur t (0, 0))) (hc : cur[j]? = some v) : w.cell? ⟨g, j, none⟩ = some v := by simp [World.cell?, h, hc]
theorem free_blk {w : World} {g j : Nat} {cur : Array Value} {t : TypeId} (h : w.heap[g]? = some (.cells cur t (0, 0))) : w.frozen? ⟨g, j, none⟩ = false := by simp [World.frozen?, h]
/-- A geometry that may be. -/
def okG (D B P : Int) : Prop := (6 ≤ D ∧ D ≤ 8) ∧ (8 ≤ B ∧ B ≤ 12) ∧ 4 ≤ P ∧ P ≤ 8
instance (D B P : Int) : Decidable (okG D B P) := by unfold okG; infer_instance
/-- Places (die, block) in memory. -/
structure PArg (w : World) (v : Value) (g : Nat) (l : List (Int × Int)) : Prop where
  ex : ∃ ao c, v = .slice ao l.length c ∧ l.length ≤ c ∧ c ≤ maxLen ∧ (l ≠ [] → ∃ o, ao = some ⟨g, o, none⟩ ∧ ∀ i, i < l.length → w.cell? ⟨g, o + i * 2, none⟩ = some (.int .i64 (l.getD i (0, 0)).1) ∧ w.cell? ⟨g, o + i * 2 + 1, none⟩ = some (.int .i64 (l.getD i (0, 0)).2))
theorem PArg.below {w w' : World} {v : Value} {g m : Nat} {l : List (Int × Int)} (h : PArg w v g l) (k : Below m w w') (hm : l ≠ [] → g < m) : PArg w' v g l := by
  obtain ⟨ao, c, h1, h2, h3, h4⟩ := h
  refine ⟨ao, c, h1, h2, h3, fun hne => ?_⟩
  obtain ⟨o, h5, h6⟩ := h4 hne
  exact ⟨o, h5, fun i hi => ⟨(k.cell (hm hne)).trans (h6 i hi).1, (k.cell (hm hne)).trans (h6 i hi).2⟩⟩
theorem PArg.nil (w : World) : PArg w (.slice none 0 0) 0 [] := ⟨none, 0, rfl, by simp, by simp, fun h => absurd rfl h⟩
theorem PArg.lt {w : World} {v : Value} {g : Nat} {l : List (Int × Int)} (h : PArg w v g l) (hne : l ≠ []) : g < w.heap.size := by
  obtain ⟨ao, c, h1, h2, h3, h4⟩ := h
  obtain ⟨o, h5, h6⟩ := h4 hne
  exact block_lt_of_cell (h6 0 (List.length_pos_iff.2 hne)).1
/-- All these blocks are there. -/
def okB (D B : Int) (l : List (Int × Int)) : Prop := ∀ p ∈ l, (0 ≤ p.1 ∧ p.1 < D) ∧ 0 ≤ p.2 ∧ p.2 < B
instance (D B : Int) (l : List (Int × Int)) : Decidable (okB D B l) := by unfold okB; infer_instance
/-- Block g bears, of type e, these cells. -/
def RowC (w : World) (g : Nat) (e : TypeId) (n : Nat) (f : Nat → Value) : Prop := ∃ cur, w.heap[g]? = some (.cells cur e (0, 0)) ∧ ∀ i, i < n → cur[i]? = some (f i)
theorem RowC.of {w w' : World} {g n : Nat} {e : TypeId} {f : Nat → Value} (h : RowC w g e n f) (k : w'.heap[g]? = w.heap[g]?) : RowC w' g e n f := by
  obtain ⟨cur, h1, h2⟩ := h
  exact ⟨cur, k.trans h1, h2⟩
theorem RowC.lt {w : World} {g n : Nat} {e : TypeId} {f : Nat → Value} (h : RowC w g e n f) : g < w.heap.size := by
  obtain ⟨cur, h1, h2⟩ := h
  exact lt_of_block h1
theorem RowC.cell {w : World} {g n : Nat} {e : TypeId} {f : Nat → Value} (h : RowC w g e n f) {i : Nat} (hi : i < n) : w.cell? ⟨g, i, none⟩ = some (f i) := by
  obtain ⟨cur, h1, h2⟩ := h
  exact cell_blk h1 (h2 i hi)
theorem RowC.free {w : World} {g n : Nat} {e : TypeId} {f : Nat → Value} (h : RowC w g e n f) (i : Nat) : w.frozen? ⟨g, i, none⟩ = false := by
  obtain ⟨cur, h1, h2⟩ := h
  exact free_blk h1
theorem RowC.below {w w' : World} {g n m : Nat} {e : TypeId} {f : Nat → Value} (h : RowC w g e n f) (k : Below m w w') (hg : g < m) : RowC w' g e n f := h.of (k.block g hg)
theorem RowC.set {w : World} {g n : Nat} {e : TypeId} {f : Nat → Value} (h : RowC w g e n f) {i : Nat} (hi : i < n) (v : Value) : RowC (w.setCell ⟨g, i, none⟩ v) g e n (fun j => if j = i then v else f j) := by
  obtain ⟨cur, h1, h2⟩ := h
  refine ⟨_, heap_setCell_same w _ _ _ _ _ h1, fun j hj => ?_⟩
  have hsz : i < cur.size := (Array.getElem?_eq_some_iff.1 (h2 i hi)).1
  rw [Array.getElem?_setIfInBounds]
  by_cases e : i = j
  · subst e; rw [if_pos rfl, if_pos hsz]; simp
  · have e' : ¬ j = i := fun x => e x.symm
    rw [if_neg e]; simp only [if_neg e']; exact h2 j hj
theorem RowC.other {w : World} {g g' n i : Nat} {e : TypeId} {f : Nat → Value} (h : RowC w g e n f) (hne : g ≠ g') (v : Value) : RowC (w.setCell ⟨g', i, none⟩ v) g e n f := h.of (Below.heap_setCell _ _ _ _ hne)
/-- It is of another type, so it is another block. -/
theorem RowC.ne {w : World} {g g' n n' : Nat} {e e' : TypeId} {f f' : Nat → Value} (h : RowC w g e n f) (h' : RowC w g' e' n' f') (he : e ≠ e') : g ≠ g' := fun x => by
  subst x
  obtain ⟨c1, h1, _⟩ := h
  obtain ⟨c2, h2, _⟩ := h'
  rw [h1] at h2
  cases h2
  exact he rfl
/-- A row of one-cell values that is being made. -/
def OwnC (base : Nat) (w : World) (e : TypeId) (v : Value) (n : Nat) (f : Nat → Value) : Prop := w.ownsRow base e 1 v n ((List.range n).map f)
theorem OwnC.nil (base : Nat) (w : World) (e : TypeId) (f : Nat → Value) : OwnC base w e (.slice none 0 0) 0 f := World.ownsRow_nil _ _ _ _
theorem OwnC.row {base : Nat} {w : World} {e : TypeId} {v : Value} {n : Nat} {f : Nat → Value} (h : OwnC base w e v n f) (hn : 0 < n) : ∃ g c, v = .slice (some ⟨g, 0, none⟩) n c ∧ base ≤ g ∧ n ≤ c ∧ c ≤ maxLen ∧ RowC w g e n f := by
  rcases h.2 with ⟨_, h0⟩ | ⟨g, cap, cur, h1, h2, h3, h4, h5, h6, h7⟩
  · omega
  · refine ⟨g, cap, h1, h2, h4, h5, cur, h3, fun i hi => ?_⟩
    have e : (cur.toList.take (n * 1))[i]? = ((List.range n).map f)[i]? := by rw [h7]
    rw [List.getElem?_take, if_pos (by omega), Array.getElem?_toList] at e
    rw [e, List.getElem?_map, List.getElem?_range hi]
    rfl
theorem OwnC.shape {base : Nat} {w : World} {e : TypeId} {v : Value} {n : Nat} {f : Nat → Value} (h : OwnC base w e v n f) : ∃ a c, v = .slice a n c := by
  rcases h.2 with ⟨h, h0⟩ | ⟨g, cap, cur, h1, _⟩
  · exact ⟨_, _, by rw [h, h0]⟩
  · exact ⟨_, _, h1⟩
theorem OwnC.keep {base : Nat} {w w' : World} {e : TypeId} {v : Value} {n : Nat} {f : Nat → Value} (h : OwnC base w e v n f) (k : ∀ (g : Nat) (cur : Array Value), base ≤ g → w.heap[g]? = some (.cells cur e (0, 0)) → w'.heap[g]? = w.heap[g]?) : OwnC base w' e v n f := by
  refine ⟨h.1, ?_⟩
  rcases h.2 with h' | ⟨g, cap, cur, h1, h2, h3, h4⟩
  · exact .inl h'
  · exact .inr ⟨g, cap, cur, h1, h2, (k g cur h2 h3).trans h3, h4⟩
theorem OwnC.below {base : Nat} {w w' : World} {e : TypeId} {v : Value} {n : Nat} {f : Nat → Value} (h : OwnC base w e v n f) (k : Below w.heap.size w w') : OwnC base w' e v n f := h.keep (fun g _ _ h1 => k.block g (lt_of_block h1))
theorem OwnC.mono {base b' : Nat} {w : World} {e : TypeId} {v : Value} {n : Nat} {f : Nat → Value} (h : OwnC base w e v n f) (hb : b' ≤ base) : OwnC b' w e v n f := by
  refine ⟨h.1, ?_⟩
  rcases h.2 with h' | ⟨g, cap, cur, h1, h2, h3, h4⟩
  · exact .inl h'
  · exact .inr ⟨g, cap, cur, h1, Nat.le_trans hb h2, h3, h4⟩
theorem OwnC.ownBlock {base : Nat} {w : World} {e : TypeId} {v : Value} {n : Nat} {f : Nat → Value} (h : OwnC base w e v n f) {g : Nat} (hg : v.ownBlock = some g) : base ≤ g ∧ ∃ cur, w.heap[g]? = some (.cells cur e (0, 0)) := by
  rcases h.2 with ⟨h', _⟩ | ⟨g', cap, cur, h1, h2, h3, h4⟩
  · rw [h'] at hg; cases hg
  · rw [h1] at hg
    cases hg
    exact ⟨h2, cur, h3⟩
theorem range_put (n : Nat) (f : Nat → Value) (u : Value) : (List.range n).map f ++ [u] = (List.range (n + 1)).map (fun i => if i = n then u else f i) := by
  rw [List.range_succ, List.map_append]
  congr 1
  · refine List.map_congr_left (fun i hi => ?_)
    rw [if_neg (by have := List.mem_range.1 hi; omega)]
  · simp
theorem infoL1 : (Tryz.prog.info? 23).map (fun i => (i.zero, i.size, i.bytes)) = some (some (.slice none 0 0), 1, 24) := by kernel_rfl
set_option maxRecDepth 100000 in
/-- One slice is appended to a row of slices. -/
theorem run_append_sl (w : World) (base : Nat) (t ty e : TypeId) (ht : Tryz.prog.underlying t = some (.slice e)) (hi : (Tryz.prog.info? e).map (fun i => (i.zero, i.size, i.bytes)) = some (some (.slice none 0 0), 1, 24))
    (v : Value) (n : Nat) (f : Nat → Value) (hown : OwnC base w e v n f) (g : Nat) (a : Option Addr) (l c : Nat) (hc : w.cell? ⟨g, 0, none⟩ = some (.slice a l c)) (hb : n ≤ 1000) (hbase : base ≤ w.heap.size) :
    ∃ v' w', (Builtin.append_ #[t, t] ty #[v, .slice (some ⟨g, 0, none⟩) 1 1]).run Tryz.prog w = .ok v' w' ∧ OwnC base w' e v' (n + 1) (fun i => if i = n then .slice a l c else f i) ∧ w.grownBy w' v.ownBlock := by
  obtain ⟨i0, hi0, hz0, hz1, hz2⟩ := info_parts hi
  obtain ⟨v', w', h1, h2, h3, _⟩ := run_append_own (P := Tryz.prog) w base t ty e i0 (.slice none 0 0) 1 24 ht hi0 hz0 hz1 hz2 rfl (by decide) v n _ hown ⟨g, 0, none⟩ 1 1 [.slice a l c] (by simp) (by
    intro j u hu
    have hj : j = 0 := by
      cases j with
      | zero => rfl
      | succ j => simp at hu
    subst hj
    rw [Addr.add_lit]
    simp at hu
    rw [← hu]
    exact hc) (by simp [Value.oneCell']) (by unfold maxLen; omega) (by omega) hbase
  rw [range_put] at h2
  exact ⟨v', w', h1, h2, h3⟩
theorem wp_append_run (w : World) {o : Oper} {a : Act} {K : Act → World → Prop} {Q : Exit → Act → World → Prop} (d s : Operand) (t t' : TypeId)
    (ho : o.op = .call { callee := .builtin .append, args := #[d, s], argTypes := #[t, t'] }) (v u : Value) (hd : a.eval d = v) (hs : a.eval s = u) {v' : Value} {w' : World}
    (hr : (Builtin.append_ #[t, t'] o.type #[v, u]).run Tryz.prog w = .ok v' w') (h : K (a.put o.dst v') w') : o.wp Tryz.prog a w K Q := by
  unfold Oper.wp execOp
  simp only [ho, resolve, invoke, builtin, Sem.run_bind, Sem.run_pure, Result.andThen_ok, List.map_toArray, List.map_cons, List.map_nil, hd, hs, hr]
  exact h
theorem ZArg.lt7 {w : World} {v : Value} {g : Nat} {zs : List Int} (h : ZArg w v g zs) (hs : zs ≠ []) : g < w.heap.size := by
  obtain ⟨⟨ao, c, _, _, _, _, h5⟩, _⟩ := h
  obtain ⟨o, _, h6⟩ := irow_some' h5 (List.length_pos_iff.2 hs)
  exact block_lt_of_cell (h6 0 (List.length_pos_iff.2 hs))
theorem ZArg.nil_imp {w : World} {ao : Option Addr} {n c g : Nat} {s : List Int} (h : ZArg w (.slice ao n c) g s) : s.length = n ∧ (ao = none → n = 0 ∧ c = 0) ∧ IRow w ao g s := by
  obtain ⟨⟨ao', c', h1, h2, h3, h4, h5⟩, hb⟩ := h
  cases h1
  refine ⟨rfl, fun e => ?_, h5⟩
  have := h4 e
  omega
theorem below_cell7 {m : Nat} {A B : World} (h : Below m A B) {p : Addr} {v : Value} (hc : A.cell? p = some v) (hp : p.block < m) : B.cell? p = some v := (h.cell hp).trans hc
theorem results_cell7 {P : Program} {fn : Func} {p : Tmp} {ty : TypeId} (h : fn.results = #[.cell p ty]) (tmps : Array Value) (w : World) (ad : Addr) (x : Value) (hp : tmps.getD p undef = .pointer (some ad)) (hl : (loadVar ty ad).run P w = .ok x w) :
    (results fn tmps).run P w = .ok x w := by
  rw [Array.getD_eq_getD_getElem?] at hp
  simp only [results, h]
  simp [hp, asAddr, hl]
theorem run_load_agg9 {P : Program} {o : Oper} {a : Act} {W : World} {ty : TypeId} {x : Operand} {ad : Addr} {v : Value} (ho : o.op = .load ty x) (hx : a.eval x = .pointer (some ad)) (hl : (loadVar ty ad).run P W = .ok v W) : (execOp a.eval o).run P W = .ok (.value v) W := by
  unfold execOp
  simp only [ho, hx, Instr.loadAt, Instr.sureAddr, Sem.run_bind, Sem.run_pure, Result.andThen_ok, hl]
theorem two_get7 (l : List (Int × Int)) {i : Nat} (hi : i < l.length) : (l.flatMap fun p => [Value.int .i64 p.1, Value.int .i64 p.2])[i * 2]? = some (.int .i64 (l.getD i (0, 0)).1) ∧ (l.flatMap fun p => [Value.int .i64 p.1, Value.int .i64 p.2])[i * 2 + 1]? = some (.int .i64 (l.getD i (0, 0)).2) := by
  induction l generalizing i with
  | nil => simp at hi
  | cons p l ih =>
    cases i with
    | zero => exact ⟨rfl, rfl⟩
    | succ i =>
      have := ih (i := i) (by simp at hi; omega)
      rw [List.flatMap_cons, show (i + 1) * 2 = i * 2 + 1 + 1 from by omega]
      exact this
theorem wpList_append_run {ops : Array Oper} {rest : List Oper} {o : Oper} {a : Act} {Q : Exit → Act → World → Prop} (hgd : o.guard = none) (w : World) (d s : Operand) (t t' : TypeId)
    (ho : o.op = .call { callee := .builtin .append, args := #[d, s], argTypes := #[t, t'] }) (v u : Value) (hd : a.eval d = v) (hs : a.eval s = u) {v' : Value} {w' : World}
    (hr : (Builtin.append_ #[t, t'] o.type #[v, u]).run Tryz.prog w = .ok v' w') (h : wpList Tryz.prog ops Q rest (a.put o.dst v') w') : wpList Tryz.prog ops Q (o :: rest) a w :=
  wpList_plain hgd fun _ hK => wp_append_run w d s t t' ho v u hd hs hr (hK _ _ h)
end Go.Proofs.YtjdikhelabibnabGreat
