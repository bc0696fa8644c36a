/-
  Ints of any kind that a call owns; appended to, also in a region that draws its order.
-/
import Derived.Test.YtjdikhelabibnabGreatI6
import Derived.Test.YtjdikhelabibnabGreatB6k
namespace Go.Proofs.YtjdikhelabibnabGreat
open Go.RowKit Go.Shelf

/-- The call owns these numbers. -/
def OwnZ (base : Nat) (w : World) (v : Value) (zs : List Int) : Prop := w.ownsRow base 3 1 v zs.length (zs.map (Value.int .i64))
theorem OwnZ.nil (base : Nat) (w : World) : OwnZ base w (.slice none 0 0) [] := World.ownsRow_nil _ _ _ _
theorem OwnZ.none (w : World) : OwnZ w.heap.size (w.alloc (.cells #[] 3)) (.slice (some ⟨w.heap.size, 0, none⟩) 0 0) [] := own_none w 3
theorem OwnZ.snoc {base : Nat} {w : World} {v : Value} {l : List Int} {k : Int} (h : w.ownsRow base 3 1 v (l.length + 1) (l.map (Value.int .i64) ++ [.int .i64 k])) : OwnZ base w v (l ++ [k]) := by
  unfold OwnZ
  rw [List.length_append, List.map_append]
  exact h
theorem OwnZ.keep {base : Nat} {w w' : World} {v : Value} {l : List Int} (h : OwnZ base w v l) (k : ∀ b, base ≤ b → b < w.heap.size → w'.heap[b]? = w.heap[b]?) : OwnZ base w' v l := by
  refine ⟨h.1, ?_⟩
  rcases h.2 with h' | ⟨g, cap, cur, h1, h2, h3, h4⟩
  · exact .inl h'
  · exact .inr ⟨g, cap, cur, h1, h2, (k g h2 (Array.getElem?_eq_some_iff.1 h3).1).trans h3, h4⟩
theorem OwnZ.below {base : Nat} {w w' : World} {v : Value} {l : List Int} (h : OwnZ base w v l) (k : Below w.heap.size w w') : OwnZ base w' v l := h.keep (fun b _ hb => k.block b hb)
theorem OwnZ.row {base : Nat} {w : World} {v : Value} {l : List Int} (h : OwnZ base w v l) (k : Nat) (hk : v.ownBlock = some k) : base ≤ k := by
  rcases h.2 with ⟨h1, _⟩ | ⟨g, cap, cur, h1, h2, _⟩
  · rw [h1] at hk; cases hk
  · rw [h1] at hk; cases hk; exact h2
theorem OwnZ.za {base : Nat} {w : World} {v : Value} {l : List Int} (h : OwnZ base w v l) (hb : ∀ z ∈ l, -9223372036854775808 ≤ z ∧ z ≤ 9223372036854775807) : ∃ ao c g, v = .slice ao l.length c ∧ ZArg w (.slice ao l.length c) g l ∧ (ao = Option.none → c = 0) := by
  rcases h.2 with ⟨h', h0⟩ | ⟨g, cap, cur, h1, h2, h3, h4, h5, h6, h7⟩
  · have hl : l = [] := List.eq_nil_of_length_eq_zero h0
    subst hl
    exact ⟨Option.none, 0, 0, h', ⟨⟨Option.none, 0, rfl, by simp, by simp, fun _ => rfl, .inl rfl⟩, hb⟩, fun _ => rfl⟩
  · refine ⟨some ⟨g, 0, Option.none⟩, cap, g, h1, ⟨⟨some ⟨g, 0, Option.none⟩, cap, rfl, h4, h5, (fun h => by cases h), .inr ⟨0, rfl, fun j hj => ?_⟩⟩, hb⟩, fun h => by cases h⟩
    have e : (cur.toList.take (l.length * 1))[j]? = (l.map (Value.int .i64))[j]? := by rw [h7]
    rw [List.getElem?_take, if_pos (by omega), Array.getElem?_toList] at e
    have h8 : cur[j]? = some (.int .i64 (l.getD j 0)) := by
      rw [e, List.getElem?_map, List.getElem?_eq_getElem hj, List.getD_eq_getElem?_getD, List.getElem?_eq_getElem hj]
      rfl
    rw [Nat.zero_add]
    simp [World.cell?, h3, h8]

theorem zarg_in {w : World} {ao : Option Addr} {g len cap : Nat} {zs : List Int} (l : zs.length = len) (r : IRow w ao g zs) (b : ∀ z ∈ zs, -9223372036854775808 ≤ z ∧ z ≤ 9223372036854775807) (c : len ≤ cap) (n : ao = none → len = 0 ∧ cap = 0) (m : cap ≤ maxLen) : ZArg w (.slice ao len cap) g zs :=
  ⟨⟨ao, cap, by rw [l], by omega, m, fun h => (n h).2, r⟩, b⟩

section
/-- Ints from wherever they lie go behind what the call owns. -/
theorem run_append_z (w : World) (base : Nat) (ty : TypeId) (v : Value) (xs zs : List Int) (hown : OwnZ base w v xs) (ao : Option Addr) (g m c : Nat) (hl : zs.length = m) (hrow : IRow w ao g zs) (hnil : ao = none → m = 0 ∧ c = 0) (hb : xs.length + m ≤ 1000000) (hbase : base ≤ w.heap.size) :
    ∃ v' w', (Builtin.append_ #[23, 23] ty #[v, .slice ao m c]).run Tryz.prog w = .ok v' w' ∧ OwnZ base w' v' (xs ++ zs) ∧ w.grownBy w' v.ownBlock := by
  obtain ⟨i0, hi, hz0, hz1, hz2⟩ := info_parts infoI
  cases ao with
  | none =>
    obtain ⟨rfl, rfl⟩ := hnil rfl
    have h0 : zs = [] := List.eq_nil_of_length_eq_zero hl
    subst h0
    exact ⟨v, w, run_append_owned_none (P := Tryz.prog) w base 23 ty 3 i0 1 Tryz.underlying23 hi v _ _ hown, by simpa using hown, World.grownBy.refl _ _⟩
  | some ad =>
    obtain ⟨v', w', h1, h2, h3, _⟩ := run_append_own (P := Tryz.prog) w base 23 ty 3 i0 (.int .i64 0) 1 8 Tryz.underlying23 hi hz0 hz1 hz2 rfl (by decide) v _ _ hown ad m c (zs.map (Value.int .i64)) (by simp [hl]) (by
      intro j u hu
      obtain ⟨hj, hu⟩ := List.getElem?_eq_some_iff.1 hu
      simp only [List.length_map] at hj
      rcases hrow with rfl | ⟨o, ho, hc⟩
      · simp at hj
      · cases ho
        rw [Addr.add_lit, hc j hj]
        simp [← hu, List.getD_eq_getElem?_getD, hj]) (ints_oneCell _ _) (by unfold maxLen; omega) (by omega) hbase
    refine ⟨v', w', h1, ?_, h3⟩
    unfold OwnZ
    rw [List.length_append, hl, List.map_append]
    exact h2

theorem wp_append_z {o : Oper} {a : Act} {w : World} {K : Act → World → Prop} {Q : Exit → Act → World → Prop} (s x : Operand) (ho : o.op = .call { callee := .builtin .append, args := #[s, x], argTypes := #[23, 23] })
    (base : Nat) (v : Value) (xs zs : List Int) (hs : a.eval s = v) (hown : OwnZ base w v xs) (ao : Option Addr) (g m c : Nat) (hx : a.eval x = .slice ao m c) (hl : zs.length = m) (hrow : IRow w ao g zs) (hnil : ao = none → m = 0 ∧ c = 0) (hb : xs.length + m ≤ 1000000) (hbase : base ≤ w.heap.size)
    (hK : ∀ v' w', OwnZ base w' v' (xs ++ zs) → w.grownBy w' v.ownBlock → K (a.put o.dst v') w') : o.wp Tryz.prog a w K Q := by
  obtain ⟨v', w', hr, h2, h3⟩ := run_append_z w base o.type v xs zs hown ao g m c hl hrow hnil hb hbase
  unfold Oper.wp
  simp [execOp, ho, resolve, invoke, builtin, hs, hx, hr, Result.andThen]
  exact hK _ _ h2 h3

theorem wp_append_b {o : Oper} {a : Act} {w : World} {K : Act → World → Prop} {Q : Exit → Act → World → Prop} (s x : Operand) (ho : o.op = .call { callee := .builtin .append, args := #[s, x], argTypes := #[33, 33] })
    (base : Nat) (v : Value) (n : Nat) (xs : List Value) (zs : List Int) (hs : a.eval s = v) (hown : w.ownsRow base 5 1 v n xs) (ao : Option Addr) (g m c : Nat) (hx : a.eval x = .slice ao m c) (hl : zs.length = m) (hrow : Row w ao g zs) (hnil : ao = none → m = 0 ∧ c = 0) (hb : n + m ≤ 1000000) (hbase : base ≤ w.heap.size)
    (hK : ∀ v' w', w'.ownsRow base 5 1 v' (n + m) (xs ++ zs.map (Value.int .u8)) → w.grownBy w' v.ownBlock → K (a.put o.dst v') w') : o.wp Tryz.prog a w K Q := by
  obtain ⟨i0, hi, hz0, hz1, hz2⟩ := info_parts infoE
  obtain ⟨v', w', hr, h2, h3, _⟩ := run_append_row (P := Tryz.prog) w base 33 o.type 5 i0 Tryz.underlying33 hi hz0 hz1 hz2 v n xs hown ao g m c zs hl hrow hnil hb hbase
  unfold Oper.wp
  simp [execOp, ho, resolve, invoke, builtin, hs, hx, hr, Result.andThen]
  exact hK _ _ h2 h3
end

end Go.Proofs.YtjdikhelabibnabGreat
