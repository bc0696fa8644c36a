/-
  Rows of ints in memory: of a call's own making, appended to, or handed in.
-/
import Derived.Test.YtjdikhelabibnaaGreatBa
namespace Go.Proofs.YtjdikhelabibnaaGreat
open Go.RowKit Go.Shelf

section
variable {P : Program} (w : World)
theorem run_append_int (base : Nat) (t ty e : TypeId) (i : TypeInfo) (ht : P.underlying t = some (.slice e)) (hi : P.info? e = some i) (hz : i.zero = some (.int .i64 0)) (hsize : i.size = 1) (hby : i.bytes = 8)
    (v : Value) (n : Nat) (xs : List Value) (hown : w.ownsRow base e 1 v n xs) (g : Nat) (k : Int) (hc : w.cell? ⟨g, 0, none⟩ = some (.int .i64 k)) (hb : n + 1 ≤ 1000000) (hbase : base ≤ w.heap.size) :
    ∃ v' w', (Builtin.append_ #[t, t] ty #[v, .slice (some ⟨g, 0, none⟩) 1 1]).run P w = .ok v' w' ∧ w'.ownsRow base e 1 v' (n + 1) (xs ++ [.int .i64 k]) ∧ w.grownBy w' v.ownBlock := by
  obtain ⟨v', w', h1, h2, h3, _⟩ := run_append_own (P := P) w base t ty e i (.int .i64 0) 1 8 ht hi hz hsize hby rfl (by decide) v n xs hown ⟨g, 0, none⟩ 1 1 [.int .i64 k] (by simp) (by
    intro j u hu
    obtain ⟨hj, hu⟩ := List.getElem?_eq_some_iff.1 hu
    have : j = 0 := by simpa using hj
    subst this
    rw [Addr.add_lit]
    simp at hu
    rw [← hu]
    exact hc) (ints_oneCell .i64 [k]) (by unfold maxLen; omega) (by omega) hbase
  exact ⟨v', w', h1, h2, h3⟩

theorem wpList_append_int {ops : Array Oper} {rest : List Oper} {o : Oper} {a : Act} {Q : Exit → Act → World → Prop} (hgd : o.guard = none) (s x : Operand) (t : TypeId)
    (ho : o.op = .call { callee := .builtin .append, args := #[s, x], argTypes := #[t, t] })
    (base : Nat) (e : TypeId) (i : TypeInfo) (ht : P.underlying t = some (.slice e)) (hi : P.info? e = some i) (hz : i.zero = some (.int .i64 0)) (hsize : i.size = 1) (hby : i.bytes = 8)
    (v : Value) (n : Nat) (xs : List Value) (hs : a.eval s = v) (hown : w.ownsRow base e 1 v n xs) (g : Nat) (k : Int) (hx : a.eval x = .slice (some ⟨g, 0, none⟩) 1 1) (hc : w.cell? ⟨g, 0, none⟩ = some (.int .i64 k))
    (hb : n + 1 ≤ 1000000) (hbase : base ≤ w.heap.size)
    (h : ∀ v' w', w'.ownsRow base e 1 v' (n + 1) (xs ++ [.int .i64 k]) → w.grownBy w' v.ownBlock → wpList P ops Q rest (a.put o.dst v') w') : wpList P ops Q (o :: rest) a w := by
  refine wpList_plain hgd fun K hK => ?_
  obtain ⟨v', w', hr, h2, h3⟩ := run_append_int (P := P) w base t o.type e i ht hi hz hsize hby v n xs hown g k hc hb hbase
  unfold Oper.wp
  simp [execOp, ho, resolve, invoke, builtin, hs, hx, hr, Result.andThen]
  exact hK _ _ (h v' w' h2 h3)
end

theorem infoI : (Tryz.prog.info? 3).map (fun i => (i.zero, i.size, i.bytes)) = some (some (.int .i64 0), 1, 8) := by kernel_rfl

/-- The call owns these places. -/
def OwnI (base : Nat) (w : World) (v : Value) (l : List Nat) : Prop := w.ownsRow base 3 1 v l.length ((ints l).map (Value.int .i64))

theorem OwnI.nil (base : Nat) (w : World) : OwnI base w (.slice none 0 0) [] := World.ownsRow_nil _ _ _ _

theorem OwnI.snoc {base : Nat} {w : World} {v : Value} {l : List Nat} {k : Nat} (h : w.ownsRow base 3 1 v (l.length + 1) ((ints l).map (Value.int .i64) ++ [.int .i64 (k : Int)])) : OwnI base w v (l ++ [k]) := by
  unfold OwnI
  rw [List.length_append, ints, List.map_append, List.map_append]
  exact h

theorem OwnI.keep {base : Nat} {w w' : World} {v : Value} {l : List Nat} (h : OwnI base w v l) (k : ∀ b, base ≤ b → b < w.heap.size → w'.heap[b]? = w.heap[b]?) : OwnI base w' v l := by
  refine ⟨h.1, ?_⟩
  rcases h.2 with h' | ⟨g, cap, cur, h1, h2, h3, h4⟩
  · exact .inl h'
  · exact .inr ⟨g, cap, cur, h1, h2, (k g h2 (Array.getElem?_eq_some_iff.1 h3).1).trans h3, h4⟩

theorem OwnI.shape {base : Nat} {w : World} {v : Value} {l : List Nat} (h : OwnI base w v l) : (v = .slice none 0 0 ∧ l = []) ∨ ∃ g cap, v = .slice (some ⟨g, 0, none⟩) l.length cap ∧ base ≤ g ∧ g < w.heap.size ∧ l.length ≤ cap ∧ cap ≤ maxLen ∧ ∀ j, j < l.length → w.cell? ⟨g, j, none⟩ = some (.int .i64 ((cf l j : Nat) : Int)) := by
  rcases h.2 with ⟨h', h0⟩ | ⟨g, cap, cur, h1, h2, h3, h4, h5, h6, h7⟩
  · exact .inl ⟨h', List.eq_nil_of_length_eq_zero h0⟩
  · refine .inr ⟨g, cap, h1, h2, (Array.getElem?_eq_some_iff.1 h3).1, h4, h5, fun j hj => ?_⟩
    have e : (cur.toList.take (l.length * 1))[j]? = ((ints l).map (Value.int .i64))[j]? := by rw [h7]
    rw [List.getElem?_take, if_pos (by omega), Array.getElem?_toList] at e
    have h8 : cur[j]? = some (.int .i64 ((cf l j : Nat) : Int)) := by
      rw [e, List.getElem?_map, ints, List.getElem?_map, cf_get hj]
      rfl
    simp [World.cell?, h3, h8]

theorem OwnI.arg {base : Nat} {w : World} {v : Value} {l : List Nat} (h : OwnI base w v l) : ∃ g, IArg w v g l ∧ base ≤ g := by
  rcases h.shape with ⟨rfl, rfl⟩ | ⟨g, cap, rfl, h1, h2, h3, h4, h5⟩
  · exact ⟨base, ⟨none, 0, rfl, by simp, by simp, fun _ => rfl, .inl rfl⟩, Nat.le_refl _⟩
  · refine ⟨g, ⟨some ⟨g, 0, none⟩, cap, rfl, h3, h4, (fun h => by cases h), .inr ⟨0, rfl, fun j hj => ?_⟩⟩, h1⟩
    rw [ints_len] at hj
    rw [Nat.zero_add, ints_getD]
    exact h5 j hj

theorem take_mem {ps : List Nat} {j k : Nat} (hj : j < ps.length) : k ∈ ps.take (j + 1) ↔ k ∈ ps.take j ∨ cf ps j = k := by
  have : ps.take (j + 1) = ps.take j ++ [cf ps j] := by
    rw [List.take_succ_eq_append_getElem hj]
    have := cf_get hj
    rw [List.getElem?_eq_getElem hj] at this
    simp at this
    rw [this]
  rw [this, List.mem_append, List.mem_singleton]
  exact ⟨fun h => h.imp id Eq.symm, fun h => h.imp id Eq.symm⟩

theorem ints_nodup {l : List Nat} (h : l.Nodup) : (ints l).Nodup := List.Pairwise.map _ (fun _ _ hne e => hne (by omega)) h

/-- The slice v holds the numbers zs. -/
structure ZArg (w : World) (v : Value) (g : Nat) (zs : List Int) : Prop where
  ex : ∃ ao c, v = .slice ao zs.length c ∧ zs.length ≤ c ∧ c ≤ maxLen ∧ (ao = none → c = 0) ∧ IRow w ao g zs
  bd : ∀ z ∈ zs, -9223372036854775808 ≤ z ∧ z ≤ 9223372036854775807

theorem ZArg.below {w w' : World} {v : Value} {g : Nat} {l : List Int} (h : ZArg w v g l) (k : Below w.heap.size w w') : ZArg w' v g l := by
  obtain ⟨⟨ao, c, h1, h2, h3, h4, h5⟩, hb⟩ := h
  exact ⟨⟨ao, c, h1, h2, h3, h4, h5.below k⟩, hb⟩

theorem irow_some' {w : World} {ao : Option Addr} {g : Nat} {zs : List Int} (hr : IRow w ao g zs) (hs : 0 < zs.length) : ∃ o, ao = some ⟨g, o, none⟩ ∧ ∀ j, j < zs.length → w.cell? ⟨g, o + j, none⟩ = some (.int .i64 (zs.getD j 0)) := by
  rcases hr with h | ⟨o, h, hc⟩
  · rw [h] at hs; simp at hs
  · exact ⟨o, h, hc⟩

theorem ZArg.lt {w : World} {v : Value} {g : Nat} {zs : List Int} (h : ZArg w v g zs) (hs : zs ≠ []) : g < w.heap.size := by
  obtain ⟨⟨ao, c, _, _, _, _, h5⟩, _⟩ := h
  have hl : 0 < zs.length := List.length_pos_iff.2 hs
  obtain ⟨o, _, hc⟩ := irow_some' h5 hl
  exact block_lt_of_cell (hc 0 hl)

theorem take_getD {zs : List Int} {i : Nat} (h : i < zs.length) (z : Int) : z ∈ zs.take (i + 1) ↔ z ∈ zs.take i ∨ zs.getD i 0 = z := by
  rw [take_snoc _ _ h, List.mem_append, List.mem_singleton]
  exact ⟨fun h => h.imp id Eq.symm, fun h => h.imp id Eq.symm⟩

theorem getD_mem {zs : List Int} {i : Nat} (h : i < zs.length) : zs.getD i 0 ∈ zs := by
  rw [List.getD_eq_getElem?_getD, List.getElem?_eq_getElem h]
  exact List.getElem_mem h

theorem OwnI.z {base : Nat} {w : World} {v : Value} {l : List Nat} (h : OwnI base w v l) (hb : ∀ k ∈ l, k < 1000000) : ∃ g, ZArg w v g (ints l) ∧ base ≤ g := by
  obtain ⟨g, ⟨ao, c, h1, h2, h3, h4, h5⟩, hg⟩ := h.arg
  refine ⟨g, ⟨⟨ao, c, by rw [ints_len]; exact h1, by rw [ints_len]; exact h2, h3, h4, h5⟩, fun z hz => ?_⟩, hg⟩
  obtain ⟨k, hk, rfl⟩ := List.mem_map.1 hz
  have := hb k hk
  omega
theorem OwnI.za {base : Nat} {w : World} {v : Value} {l : List Nat} (h : OwnI base w v l) (hb : ∀ k ∈ l, k < 1000000) : ∃ ao c g, v = .slice ao l.length c ∧ ZArg w (.slice ao l.length c) g (ints l) := by
  obtain ⟨g, hz, _⟩ := h.z hb
  obtain ⟨⟨ao, c, h1, h2, h3, h4, h5⟩, hbd⟩ := hz
  rw [ints_len] at h1
  exact ⟨ao, c, g, h1, by rw [← h1]; exact ⟨⟨ao, c, by rw [h1, ints_len], h2, h3, h4, h5⟩, hbd⟩⟩
theorem zarg_row {w : World} {ao : Option Addr} {n c g : Nat} {zs : List Int} (h : ZArg w (.slice ao n c) g zs) : IRow w ao g zs := by
  obtain ⟨⟨ao', c', h1, h2, h3, h4, h5⟩, hb⟩ := h
  injection h1 with e1 e2 e3
  subst e1
  exact h5
theorem OwnI.below {base : Nat} {w w' : World} {v : Value} {l : List Nat} (h : OwnI base w v l) (k : Below w.heap.size w w') : OwnI base w' v l := h.keep (fun b _ hb => k.block b hb)
theorem OwnI.mono {base b' : Nat} {w : World} {v : Value} {l : List Nat} (h : OwnI base w v l) (hb : b' ≤ base) : OwnI b' w v l := by
  refine ⟨h.1, ?_⟩
  rcases h.2 with h' | ⟨g, cap, cur, h1, h2, h3, h4⟩
  · exact .inl h'
  · exact .inr ⟨g, cap, cur, h1, Nat.le_trans hb h2, h3, h4⟩
end Go.Proofs.YtjdikhelabibnaaGreat
