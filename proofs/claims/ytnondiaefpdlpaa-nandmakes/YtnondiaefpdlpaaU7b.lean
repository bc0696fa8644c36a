/-
  The second telling of nand: rows that are made, one behind the other.
-/
import Derived.Test.YtnondiaefpdlpaaU7a
namespace Go.Proofs.Ytnondiaefpdlpaa
open Go.RowKit Go.Shelf

theorem infoBB : (Try.prog.info? 76).map (fun i => (i.zero, i.size, i.bytes)) = some (some (.slice none 0 0), 1, 24) := by kernel_rfl
theorem infoBk : (Try.prog.info? 80).map (fun i => (i.zero, i.size, i.bytes)) = some (some (.agg #[.slice none 0 0, .int .i64 0, .int .i64 0, .bool false]), 4, 48) := by kernel_rfl
theorem infoL3 : (Try.prog.info? 77).map (fun i => (i.zero, i.size, i.bytes)) = some (some (.slice none 0 0), 1, 24) := by kernel_rfl
theorem infoL2 : (Try.prog.info? 82).map (fun i => (i.zero, i.size, i.bytes)) = some (some (.slice none 0 0), 1, 24) := by kernel_rfl
theorem infoL1 : (Try.prog.info? 24).map (fun i => (i.zero, i.size, i.bytes)) = some (some (.slice none 0 0), 1, 24) := by kernel_rfl
theorem infoPB : (Try.prog.info? 38).map (fun i => (i.zero, i.size, i.bytes)) = some (some (.slice none 0 0), 1, 24) := by kernel_rfl

set_option maxRecDepth 100000 in
/-- One slice is appended to a row of slices. -/
theorem run_append_sl (w : World) (base : Nat) (t ty e : TypeId) (ht : Try.prog.underlying t = some (.slice e)) (hi : (Try.prog.info? e).map (fun i => (i.zero, i.size, i.bytes)) = some (some (.slice none 0 0), 1, 24))
    (v : Value) (n : Nat) (f : Nat → Value) (hown : OwnC base w e v n f) (g : Nat) (a : Option Addr) (l c : Nat) (hc : w.cell? ⟨g, 0, none⟩ = some (.slice a l c)) (hb : n ≤ 1000) (hbase : base ≤ w.heap.size) :
    ∃ v' w', (Builtin.append_ #[t, t] ty #[v, .slice (some ⟨g, 0, none⟩) 1 1]).run Try.prog w = .ok v' w' ∧ OwnC base w' e v' (n + 1) (fun i => if i = n then .slice a l c else f i) ∧ w.grownBy w' v.ownBlock := by
  obtain ⟨i0, hi0, hz0, hz1, hz2⟩ := info_parts hi
  obtain ⟨v', w', h1, h2, h3, _⟩ := run_append_own (P := Try.prog) w base t ty e i0 (.slice none 0 0) 1 24 ht hi0 hz0 hz1 hz2 rfl (by decide) v n _ hown ⟨g, 0, none⟩ 1 1 [.slice a l c] (by simp) (by
    intro j u hu
    have hj : j = 0 := by
      cases j with
      | zero => rfl
      | succ j => simp at hu
    subst hj
    rw [Addr.add_lit]
    simp at hu
    rw [← hu]
    exact hc) (by simp [Value.oneCell']) (by unfold maxLen; omega) (by omega) hbase
  rw [range_put] at h2
  exact ⟨v', w', h1, h2, h3⟩

/-- A block's four cells. -/
def OwnB (base : Nat) (w : World) (v : Value) (n : Nat) (f : Nat → Nat → Value) : Prop := w.ownsRow base 80 4 v n ((List.range n).flatMap fun i => [f i 0, f i 1, f i 2, f i 3])
theorem OwnB.nil (base : Nat) (w : World) (f : Nat → Nat → Value) : OwnB base w (.slice none 0 0) 0 f := World.ownsRow_nil _ _ _ _
theorem flat_get (n : Nat) (f : Nat → Nat → Value) {i j : Nat} (hi : i < n) (hj : j < 4) : ((List.range n).flatMap fun i => [f i 0, f i 1, f i 2, f i 3])[i * 4 + j]? = some (f i j) := by
  induction n with
  | zero => omega
  | succ n ih =>
    have hl : ((List.range n).flatMap fun i => [f i 0, f i 1, f i 2, f i 3]).length = n * 4 := by
      clear ih hi
      induction n with
      | zero => rfl
      | succ n ih => rw [List.range_succ, List.flatMap_append, List.length_append, ih]; simp; omega
    rw [List.range_succ, List.flatMap_append]
    by_cases e : i < n
    · rw [List.getElem?_append_left (by rw [hl]; omega)]; exact ih e
    · have e2 : i = n := by omega
      subst e2
      rw [List.getElem?_append_right (by rw [hl]; omega), hl, show i * 4 + j - i * 4 = j from by omega]
      match j, hj with
      | 0, _ => simp
      | 1, _ => simp
      | 2, _ => simp
      | 3, _ => simp
/-- Block g bears n blocks' states. -/
def RowB (w : World) (g n : Nat) (f : Nat → Nat → Value) : Prop := ∃ cur, w.heap[g]? = some (.cells cur 80 (0, 0)) ∧ ∀ i, i < n → ∀ j, j < 4 → cur[i * 4 + j]? = some (f i j)
theorem RowB.of {w w' : World} {g n : Nat} {f : Nat → Nat → Value} (h : RowB w g n f) (k : w'.heap[g]? = w.heap[g]?) : RowB w' g n f := by
  obtain ⟨cur, h1, h2⟩ := h
  exact ⟨cur, k.trans h1, h2⟩
theorem RowB.lt {w : World} {g n : Nat} {f : Nat → Nat → Value} (h : RowB w g n f) : g < w.heap.size := by
  obtain ⟨cur, h1, h2⟩ := h
  exact lt_of_block h1
theorem OwnB.row {base : Nat} {w : World} {v : Value} {n : Nat} {f : Nat → Nat → Value} (h : OwnB base w v n f) (hn : 0 < n) : ∃ g c, v = .slice (some ⟨g, 0, none⟩) n c ∧ base ≤ g ∧ n ≤ c ∧ c ≤ maxLen ∧ RowB w g n f := by
  rcases h.2 with ⟨_, h0⟩ | ⟨g, cap, cur, h1, h2, h3, h4, h5, h6, h7⟩
  · omega
  · refine ⟨g, cap, h1, h2, h4, h5, cur, h3, fun i hi j hj => ?_⟩
    have e : (cur.toList.take (n * 4))[i * 4 + j]? = ((List.range n).flatMap fun i => [f i 0, f i 1, f i 2, f i 3])[i * 4 + j]? := by rw [h7]
    rw [List.getElem?_take, if_pos (by omega), Array.getElem?_toList, flat_get n f hi hj] at e
    exact e
theorem OwnB.shape {base : Nat} {w : World} {v : Value} {n : Nat} {f : Nat → Nat → Value} (h : OwnB base w v n f) : ∃ a c, v = .slice a n c := by
  rcases h.2 with ⟨h, h0⟩ | ⟨g, cap, cur, h1, _⟩
  · exact ⟨_, _, by rw [h, h0]⟩
  · exact ⟨_, _, h1⟩
theorem OwnB.keep {base : Nat} {w w' : World} {v : Value} {n : Nat} {f : Nat → Nat → Value} (h : OwnB base w v n f) (k : ∀ (g : Nat) (cur : Array Value), base ≤ g → w.heap[g]? = some (.cells cur 80 (0, 0)) → w'.heap[g]? = w.heap[g]?) : OwnB base w' v n f := by
  refine ⟨h.1, ?_⟩
  rcases h.2 with h' | ⟨g, cap, cur, h1, h2, h3, h4⟩
  · exact .inl h'
  · exact .inr ⟨g, cap, cur, h1, h2, (k g cur h2 h3).trans h3, h4⟩
theorem OwnB.below {base : Nat} {w w' : World} {v : Value} {n : Nat} {f : Nat → Nat → Value} (h : OwnB base w v n f) (k : Below w.heap.size w w') : OwnB base w' v n f := h.keep (fun g _ _ h1 => k.block g (lt_of_block h1))
theorem OwnB.ownBlock {base : Nat} {w : World} {v : Value} {n : Nat} {f : Nat → Nat → Value} (h : OwnB base w v n f) {g : Nat} (hg : v.ownBlock = some g) : base ≤ g ∧ ∃ cur, w.heap[g]? = some (.cells cur 80 (0, 0)) := by
  rcases h.2 with ⟨h', _⟩ | ⟨g', cap, cur, h1, h2, h3, h4⟩
  · rw [h'] at hg; cases hg
  · rw [h1] at hg
    cases hg
    exact ⟨h2, cur, h3⟩
set_option maxRecDepth 100000 in
theorem run_append_bk (w : World) (base : Nat) (ty : TypeId) (v : Value) (n : Nat) (f : Nat → Nat → Value) (hown : OwnB base w v n f) (g : Nat) (h4 : Nat → Value) (hc : ∀ j, j < 4 → w.cell? ⟨g, j, none⟩ = some (h4 j)) (h1c : ∀ j, j < 4 → (h4 j).oneCell' = true) (hb : n ≤ 1000) (hbase : base ≤ w.heap.size) :
    ∃ v' w', (Builtin.append_ #[76, 76] ty #[v, .slice (some ⟨g, 0, none⟩) 1 1]).run Try.prog w = .ok v' w' ∧ OwnB base w' v' (n + 1) (fun i => if i = n then h4 else f i) ∧ w.grownBy w' v.ownBlock := by
  obtain ⟨i0, hi0, hz0, hz1, hz2⟩ := info_parts infoBk
  obtain ⟨v', w', h1, h2, h3, _⟩ := run_append_own (P := Try.prog) w base 76 ty 80 i0 (.agg #[.slice none 0 0, .int .i64 0, .int .i64 0, .bool false]) 4 48 Try.underlying76 hi0 hz0 hz1 hz2 rfl (by decide) v n _ hown ⟨g, 0, none⟩ 1 1 [h4 0, h4 1, h4 2, h4 3] (by simp) (by
    intro j u hu
    rw [Addr.add_lit, Nat.zero_add]
    match j, hu with
    | 0, hu => simp at hu; rw [← hu]; exact hc 0 (by omega)
    | 1, hu => simp at hu; rw [← hu]; exact hc 1 (by omega)
    | 2, hu => simp at hu; rw [← hu]; exact hc 2 (by omega)
    | 3, hu => simp at hu; rw [← hu]; exact hc 3 (by omega)
    | j + 4, hu => simp at hu) (by
    intro u hu
    simp at hu
    rcases hu with rfl | rfl | rfl | rfl
    · exact h1c 0 (by omega)
    · exact h1c 1 (by omega)
    · exact h1c 2 (by omega)
    · exact h1c 3 (by omega)) (by unfold maxLen; omega) (by omega) hbase
  refine ⟨v', w', h1, ?_, h3⟩
  have e : ((List.range n).flatMap fun i => [f i 0, f i 1, f i 2, f i 3]) ++ [h4 0, h4 1, h4 2, h4 3] = (List.range (n + 1)).flatMap fun i => [(fun i => if i = n then h4 else f i) i 0, (fun i => if i = n then h4 else f i) i 1, (fun i => if i = n then h4 else f i) i 2, (fun i => if i = n then h4 else f i) i 3] := by
    rw [List.range_succ, List.flatMap_append]
    congr 1
    · rw [List.flatMap_def, List.flatMap_def]
      congr 1
      refine List.map_congr_left (fun i hi => ?_)
      have : i ≠ n := by have := List.mem_range.1 hi; omega
      simp [this]
    · simp
  rw [e] at h2
  exact h2

end Go.Proofs.Ytnondiaefpdlpaa
