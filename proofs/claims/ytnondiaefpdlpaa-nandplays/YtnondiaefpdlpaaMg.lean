/-
  The second telling of nand (ramekinref7): rows in memory; ones, Check.
  The second telling of nand: rows that are made, one behind the other.
-/
import Derived.Test.YtnondiaefpdlpaaMf
namespace Go.Proofs.Ytnondiaefpdlpaa
open Go.RowKit Go.Shelf

/-- Block g bears, of type e, these cells. -/
def RowC (w : World) (g : Nat) (e : TypeId) (n : Nat) (f : Nat → Value) : Prop := ∃ cur, w.heap[g]? = some (.cells cur e (0, 0)) ∧ ∀ i, i < n → cur[i]? = some (f i)
theorem RowC.of {w w' : World} {g n : Nat} {e : TypeId} {f : Nat → Value} (h : RowC w g e n f) (k : w'.heap[g]? = w.heap[g]?) : RowC w' g e n f := by
  obtain ⟨cur, h1, h2⟩ := h
  exact ⟨cur, k.trans h1, h2⟩
theorem RowC.lt {w : World} {g n : Nat} {e : TypeId} {f : Nat → Value} (h : RowC w g e n f) : g < w.heap.size := by
  obtain ⟨cur, h1, h2⟩ := h
  exact lt_of_block h1
theorem RowC.cell {w : World} {g n : Nat} {e : TypeId} {f : Nat → Value} (h : RowC w g e n f) {i : Nat} (hi : i < n) : w.cell? ⟨g, i, none⟩ = some (f i) := by
  obtain ⟨cur, h1, h2⟩ := h
  exact cell_blk h1 (h2 i hi)
theorem RowC.free {w : World} {g n : Nat} {e : TypeId} {f : Nat → Value} (h : RowC w g e n f) (i : Nat) : w.frozen? ⟨g, i, none⟩ = false := by
  obtain ⟨cur, h1, h2⟩ := h
  exact free_blk h1
theorem RowC.below {w w' : World} {g n m : Nat} {e : TypeId} {f : Nat → Value} (h : RowC w g e n f) (k : Below m w w') (hg : g < m) : RowC w' g e n f := h.of (k.block g hg)
theorem RowC.set {w : World} {g n : Nat} {e : TypeId} {f : Nat → Value} (h : RowC w g e n f) {i : Nat} (hi : i < n) (v : Value) : RowC (w.setCell ⟨g, i, none⟩ v) g e n (fun j => if j = i then v else f j) := by
  obtain ⟨cur, h1, h2⟩ := h
  refine ⟨_, heap_setCell_same w _ _ _ _ _ h1, fun j hj => ?_⟩
  have hsz : i < cur.size := (Array.getElem?_eq_some_iff.1 (h2 i hi)).1
  rw [Array.getElem?_setIfInBounds]
  by_cases e : i = j
  · subst e; rw [if_pos rfl, if_pos hsz]; simp
  · have e' : ¬ j = i := fun x => e x.symm
    rw [if_neg e]; simp only [if_neg e']; exact h2 j hj
theorem RowC.other {w : World} {g g' n i : Nat} {e : TypeId} {f : Nat → Value} (h : RowC w g e n f) (hne : g ≠ g') (v : Value) : RowC (w.setCell ⟨g', i, none⟩ v) g e n f := h.of (Below.heap_setCell _ _ _ _ hne)
/-- It is of another type, so it is another block. -/
theorem RowC.ne {w : World} {g g' n n' : Nat} {e e' : TypeId} {f f' : Nat → Value} (h : RowC w g e n f) (h' : RowC w g' e' n' f') (he : e ≠ e') : g ≠ g' := fun x => by
  subst x
  obtain ⟨c1, h1, _⟩ := h
  obtain ⟨c2, h2, _⟩ := h'
  rw [h1] at h2
  cases h2
  exact he rfl

/-- A row of one-cell values that is being made. -/
def OwnC (base : Nat) (w : World) (e : TypeId) (v : Value) (n : Nat) (f : Nat → Value) : Prop := w.ownsRow base e 1 v n ((List.range n).map f)
theorem OwnC.nil (base : Nat) (w : World) (e : TypeId) (f : Nat → Value) : OwnC base w e (.slice none 0 0) 0 f := World.ownsRow_nil _ _ _ _
theorem OwnC.row {base : Nat} {w : World} {e : TypeId} {v : Value} {n : Nat} {f : Nat → Value} (h : OwnC base w e v n f) (hn : 0 < n) : ∃ g c, v = .slice (some ⟨g, 0, none⟩) n c ∧ base ≤ g ∧ n ≤ c ∧ c ≤ maxLen ∧ RowC w g e n f := by
  rcases h.2 with ⟨_, h0⟩ | ⟨g, cap, cur, h1, h2, h3, h4, h5, h6, h7⟩
  · omega
  · refine ⟨g, cap, h1, h2, h4, h5, cur, h3, fun i hi => ?_⟩
    have e : (cur.toList.take (n * 1))[i]? = ((List.range n).map f)[i]? := by rw [h7]
    rw [List.getElem?_take, if_pos (by omega), Array.getElem?_toList] at e
    rw [e, List.getElem?_map, List.getElem?_range hi]
    rfl
theorem OwnC.shape {base : Nat} {w : World} {e : TypeId} {v : Value} {n : Nat} {f : Nat → Value} (h : OwnC base w e v n f) : ∃ a c, v = .slice a n c := by
  rcases h.2 with ⟨h, h0⟩ | ⟨g, cap, cur, h1, _⟩
  · exact ⟨_, _, by rw [h, h0]⟩
  · exact ⟨_, _, h1⟩
theorem OwnC.keep {base : Nat} {w w' : World} {e : TypeId} {v : Value} {n : Nat} {f : Nat → Value} (h : OwnC base w e v n f) (k : ∀ (g : Nat) (cur : Array Value), base ≤ g → w.heap[g]? = some (.cells cur e (0, 0)) → w'.heap[g]? = w.heap[g]?) : OwnC base w' e v n f := by
  refine ⟨h.1, ?_⟩
  rcases h.2 with h' | ⟨g, cap, cur, h1, h2, h3, h4⟩
  · exact .inl h'
  · exact .inr ⟨g, cap, cur, h1, h2, (k g cur h2 h3).trans h3, h4⟩
theorem OwnC.below {base : Nat} {w w' : World} {e : TypeId} {v : Value} {n : Nat} {f : Nat → Value} (h : OwnC base w e v n f) (k : Below w.heap.size w w') : OwnC base w' e v n f := h.keep (fun g _ _ h1 => k.block g (lt_of_block h1))
theorem OwnC.mono {base b' : Nat} {w : World} {e : TypeId} {v : Value} {n : Nat} {f : Nat → Value} (h : OwnC base w e v n f) (hb : b' ≤ base) : OwnC b' w e v n f := by
  refine ⟨h.1, ?_⟩
  rcases h.2 with h' | ⟨g, cap, cur, h1, h2, h3, h4⟩
  · exact .inl h'
  · exact .inr ⟨g, cap, cur, h1, Nat.le_trans hb h2, h3, h4⟩
theorem OwnC.ownBlock {base : Nat} {w : World} {e : TypeId} {v : Value} {n : Nat} {f : Nat → Value} (h : OwnC base w e v n f) {g : Nat} (hg : v.ownBlock = some g) : base ≤ g ∧ ∃ cur, w.heap[g]? = some (.cells cur e (0, 0)) := by
  rcases h.2 with ⟨h', _⟩ | ⟨g', cap, cur, h1, h2, h3, h4⟩
  · rw [h'] at hg; cases hg
  · rw [h1] at hg
    cases hg
    exact ⟨h2, cur, h3⟩
theorem range_put (n : Nat) (f : Nat → Value) (u : Value) : (List.range n).map f ++ [u] = (List.range (n + 1)).map (fun i => if i = n then u else f i) := by
  rw [List.range_succ, List.map_append]
  congr 1
  · refine List.map_congr_left (fun i hi => ?_)
    rw [if_neg (by have := List.mem_range.1 hi; omega)]
  · simp

set_option maxRecDepth 100000 in
set_option maxHeartbeats 4000000 in
theorem rones_any (w : World) : Calls Try.prog 36 #[] w fun e w' => ∃ v, e = .returned v ∧ Fr w.heap.size w' v ones60 ∧ Below w.heap.size w w' := by
  have hmk : ∀ w : World, (Instr.makeSlice 38 (.int .i64 60) (.int .i64 60)).run Try.prog w = .ok (.slice (some ⟨w.heap.size, 0, none⟩) 60 60) (w.alloc (.cells (List.replicate 60 (Value.int .u8 0)).toArray 5)) := run_zeros 60 (by omega)
  have hzb := blk_zeros 60 w
  have hal : Below w.heap.size w (w.alloc (.cells (List.replicate 60 (Value.int .u8 0)).toArray 5)) := (Below.refl _ _).alloc (Nat.le_refl _) _
  have HK1 := hide hal
  obtain ⟨z60, hz60⟩ : ∃ z, (List.replicate 60 (Value.int .u8 0)).toArray = z := ⟨_, rfl⟩
  rw [hz60] at HK1 hzb
  simp only [hz60] at hmk
  have HZ : Hid (Filled (w.alloc (.cells z60 5)) w.heap.size 0) := by
    refine ⟨z60, World.alloc_heap_new w _, ?_, fun j hj => by omega⟩
    rw [← hz60]; simp
  clear hz60 hal hzb
  go_enter Try.func36, Try.ntmps36
  go_wp2_with fail
  go_loopw [2] (fun p wr => ∃ i : Nat, p = .int .i64 i ∧ i ≤ 60 ∧ Hid (Filled wr w.heap.size i) ∧ Hid (Below w.heap.size w wr)) (fun p _ => 60 - (intOf p).toNat)
  case atStart => exact ⟨0, rfl, by omega, HZ, HK1⟩
  case round =>
    obtain ⟨i, rfl, hi, HB, HK⟩ := hrel
    by_cases hlt : i < 60
    · have hi1 : (i : Int) < 60 := by omega
      obtain ⟨cur, h1, h2, h3⟩ := unhide HB
      obtain ⟨cx, hcx⟩ : ∃ cx, cur[i]? = some cx := ⟨_, Array.getElem?_eq_getElem (by omega)⟩
      have hcb := cell_blk h1 hcx
      have hfb := free_blk (j := i) h1
      have HB2 : Hid (Filled (wr.setCell ⟨w.heap.size, i, none⟩ (.int .u8 255)) w.heap.size (i + 1)) := by
        refine ⟨_, heap_setCell_same wr _ _ _ _ _ h1, by simp; exact h2, fun j hj => ?_⟩
        rw [Array.getElem?_setIfInBounds]
        by_cases e : i = j
        · subst e; rw [if_pos rfl, if_pos (by omega)]
        · rw [if_neg e]; exact h3 j (by omega)
      have HK2 := hide ((unhide HK).setCell (p := ⟨w.heap.size, i, none⟩) (Nat.le_refl _) (.int .u8 255))
      clear h1 h2 h3 hcx
      go_wp2_with fail
      go_roundw
      case rel => exact ⟨i + 1, by go_num, by omega, HB2, HK2⟩
      case measure => simp [intOf]; omega
    · obtain rfl : i = 60 := by omega
      go_wp2_with fail
      go_ret
      refine ⟨_, rfl, .inr ⟨w.heap.size, 60, by rw [ones60_len]; rfl, by rw [ones60_len]; omega, by unfold maxLen; omega, ?_, Nat.le_refl _⟩, unhide HK⟩
      obtain ⟨cur, h1, h2, h3⟩ := unhide HB
      exact ⟨cur, h1, fun j hj => by
        rw [ones60_len] at hj
        have e : cf ones60 j = 255 := cf_rep 255 hj
        rw [h3 j hj, e]; rfl⟩

set_option maxRecDepth 100000 in
set_option maxHeartbeats 4000000 in
theorem check_any (D B P : Int) (w : World) : Calls Try.prog 35 #[.agg #[.int .i64 D, .int .i64 B, .int .i64 P]] w fun e w' => e = .returned (.bool (decide (okG D B P))) ∧ Below w.heap.size w w' := by
  obtain ⟨W, hW⟩ : ∃ W, w.alloc (.cells #[.int .i64 D, .int .i64 B, .int .i64 P] 23) = W := ⟨_, rfl⟩
  have hn : W.heap[w.heap.size]? = some (.cells #[.int .i64 D, .int .i64 B, .int .i64 P] 23 (0, 0)) := by rw [← hW]; exact World.alloc_heap_new w _
  have c0 : W.cell? ⟨w.heap.size, 0, none⟩ = some (.int .i64 D) := cell_blk hn rfl
  have c1 : W.cell? ⟨w.heap.size, 1, none⟩ = some (.int .i64 B) := cell_blk hn rfl
  have c2 : W.cell? ⟨w.heap.size, 2, none⟩ = some (.int .i64 P) := cell_blk hn rfl
  have HB : Hid (Below w.heap.size w W) := by rw [← hW]; exact (Below.refl _ _).alloc (Nat.le_refl _) _
  clear hn
  by_cases h1 : 6 ≤ D
  · by_cases h2 : D ≤ 8
    · by_cases h3 : 8 ≤ B
      · by_cases h4 : B ≤ 12
        · by_cases h5 : 4 ≤ P
          · by_cases h6 : P ≤ 8
            · rw [decide_eq_true (show okG D B P from ⟨⟨h1, h2⟩, ⟨h3, h4⟩, h5, h6⟩)]
              go_enter Try.func35, Try.ntmps35
              go_wp2_with fail
              go_ret
              exact ⟨rfl, unhide HB⟩
            · rw [decide_eq_false (show ¬ okG D B P from fun h => h6 h.2.2.2)]
              have h6' : 8 < P := by omega
              go_enter Try.func35, Try.ntmps35
              go_wp2_with fail
              go_ret
              exact ⟨rfl, unhide HB⟩
          · rw [decide_eq_false (show ¬ okG D B P from fun h => h5 h.2.2.1)]
            have h6' : P < 4 := by omega
            go_enter Try.func35, Try.ntmps35
            go_wp2_with fail
            go_ret
            exact ⟨rfl, unhide HB⟩
        · rw [decide_eq_false (show ¬ okG D B P from fun h => h4 h.2.1.2)]
          have h6' : 12 < B := by omega
          go_enter Try.func35, Try.ntmps35
          go_wp2_with fail
          go_ret
          exact ⟨rfl, unhide HB⟩
      · rw [decide_eq_false (show ¬ okG D B P from fun h => h3 h.2.1.1)]
        have h6' : B < 8 := by omega
        go_enter Try.func35, Try.ntmps35
        go_wp2_with fail
        go_ret
        exact ⟨rfl, unhide HB⟩
    · rw [decide_eq_false (show ¬ okG D B P from fun h => h2 h.1.2)]
      have h6' : 8 < D := by omega
      go_enter Try.func35, Try.ntmps35
      go_wp2_with fail
      go_ret
      exact ⟨rfl, unhide HB⟩
  · rw [decide_eq_false (show ¬ okG D B P from fun h => h1 h.1.1)]
    have h6' : D < 6 := by omega
    go_enter Try.func35, Try.ntmps35
    go_wp2_with fail
    go_ret
    exact ⟨rfl, unhide HB⟩

end Go.Proofs.Ytnondiaefpdlpaa

namespace Go.Proofs.Ytnondiaefpdlpaa
open Go.RowKit Go.Shelf

theorem infoBB : (Try.prog.info? 76).map (fun i => (i.zero, i.size, i.bytes)) = some (some (.slice none 0 0), 1, 24) := by kernel_rfl
theorem infoBk : (Try.prog.info? 80).map (fun i => (i.zero, i.size, i.bytes)) = some (some (.agg #[.slice none 0 0, .int .i64 0, .int .i64 0, .bool false]), 4, 48) := by kernel_rfl
theorem infoL3 : (Try.prog.info? 77).map (fun i => (i.zero, i.size, i.bytes)) = some (some (.slice none 0 0), 1, 24) := by kernel_rfl
theorem infoL2 : (Try.prog.info? 82).map (fun i => (i.zero, i.size, i.bytes)) = some (some (.slice none 0 0), 1, 24) := by kernel_rfl
theorem infoL1 : (Try.prog.info? 24).map (fun i => (i.zero, i.size, i.bytes)) = some (some (.slice none 0 0), 1, 24) := by kernel_rfl
theorem infoPB : (Try.prog.info? 38).map (fun i => (i.zero, i.size, i.bytes)) = some (some (.slice none 0 0), 1, 24) := by kernel_rfl

set_option maxRecDepth 100000 in
/-- One slice is appended to a row of slices. -/
theorem run_append_sl (w : World) (base : Nat) (t ty e : TypeId) (ht : Try.prog.underlying t = some (.slice e)) (hi : (Try.prog.info? e).map (fun i => (i.zero, i.size, i.bytes)) = some (some (.slice none 0 0), 1, 24))
    (v : Value) (n : Nat) (f : Nat → Value) (hown : OwnC base w e v n f) (g : Nat) (a : Option Addr) (l c : Nat) (hc : w.cell? ⟨g, 0, none⟩ = some (.slice a l c)) (hb : n ≤ 1000) (hbase : base ≤ w.heap.size) :
    ∃ v' w', (Builtin.append_ #[t, t] ty #[v, .slice (some ⟨g, 0, none⟩) 1 1]).run Try.prog w = .ok v' w' ∧ OwnC base w' e v' (n + 1) (fun i => if i = n then .slice a l c else f i) ∧ w.grownBy w' v.ownBlock := by
  obtain ⟨i0, hi0, hz0, hz1, hz2⟩ := info_parts hi
  obtain ⟨v', w', h1, h2, h3, _⟩ := run_append_own (P := Try.prog) w base t ty e i0 (.slice none 0 0) 1 24 ht hi0 hz0 hz1 hz2 rfl (by decide) v n _ hown ⟨g, 0, none⟩ 1 1 [.slice a l c] (by simp) (by
    intro j u hu
    have hj : j = 0 := by
      cases j with
      | zero => rfl
      | succ j => simp at hu
    subst hj
    rw [Addr.add_lit]
    simp at hu
    rw [← hu]
    exact hc) (by simp [Value.oneCell']) (by unfold maxLen; omega) (by omega) hbase
  rw [range_put] at h2
  exact ⟨v', w', h1, h2, h3⟩

/-- A block's four cells. -/
def OwnB (base : Nat) (w : World) (v : Value) (n : Nat) (f : Nat → Nat → Value) : Prop := w.ownsRow base 80 4 v n ((List.range n).flatMap fun i => [f i 0, f i 1, f i 2, f i 3])
theorem OwnB.nil (base : Nat) (w : World) (f : Nat → Nat → Value) : OwnB base w (.slice none 0 0) 0 f := World.ownsRow_nil _ _ _ _
theorem flat_get (n : Nat) (f : Nat → Nat → Value) {i j : Nat} (hi : i < n) (hj : j < 4) : ((List.range n).flatMap fun i => [f i 0, f i 1, f i 2, f i 3])[i * 4 + j]? = some (f i j) := by
  induction n with
  | zero => omega
  | succ n ih =>
    have hl : ((List.range n).flatMap fun i => [f i 0, f i 1, f i 2, f i 3]).length = n * 4 := by
      clear ih hi
      induction n with
      | zero => rfl
      | succ n ih => rw [List.range_succ, List.flatMap_append, List.length_append, ih]; simp; omega
    rw [List.range_succ, List.flatMap_append]
    by_cases e : i < n
    · rw [List.getElem?_append_left (by rw [hl]; omega)]; exact ih e
    · have e2 : i = n := by omega
      subst e2
      rw [List.getElem?_append_right (by rw [hl]; omega), hl, show i * 4 + j - i * 4 = j from by omega]
      match j, hj with
      | 0, _ => simp
      | 1, _ => simp
      | 2, _ => simp
      | 3, _ => simp
/-- Block g bears n blocks' states. -/
def RowB (w : World) (g n : Nat) (f : Nat → Nat → Value) : Prop := ∃ cur, w.heap[g]? = some (.cells cur 80 (0, 0)) ∧ ∀ i, i < n → ∀ j, j < 4 → cur[i * 4 + j]? = some (f i j)
theorem RowB.of {w w' : World} {g n : Nat} {f : Nat → Nat → Value} (h : RowB w g n f) (k : w'.heap[g]? = w.heap[g]?) : RowB w' g n f := by
  obtain ⟨cur, h1, h2⟩ := h
  exact ⟨cur, k.trans h1, h2⟩
theorem RowB.lt {w : World} {g n : Nat} {f : Nat → Nat → Value} (h : RowB w g n f) : g < w.heap.size := by
  obtain ⟨cur, h1, h2⟩ := h
  exact lt_of_block h1
theorem OwnB.row {base : Nat} {w : World} {v : Value} {n : Nat} {f : Nat → Nat → Value} (h : OwnB base w v n f) (hn : 0 < n) : ∃ g c, v = .slice (some ⟨g, 0, none⟩) n c ∧ base ≤ g ∧ n ≤ c ∧ c ≤ maxLen ∧ RowB w g n f := by
  rcases h.2 with ⟨_, h0⟩ | ⟨g, cap, cur, h1, h2, h3, h4, h5, h6, h7⟩
  · omega
  · refine ⟨g, cap, h1, h2, h4, h5, cur, h3, fun i hi j hj => ?_⟩
    have e : (cur.toList.take (n * 4))[i * 4 + j]? = ((List.range n).flatMap fun i => [f i 0, f i 1, f i 2, f i 3])[i * 4 + j]? := by rw [h7]
    rw [List.getElem?_take, if_pos (by omega), Array.getElem?_toList, flat_get n f hi hj] at e
    exact e
theorem OwnB.shape {base : Nat} {w : World} {v : Value} {n : Nat} {f : Nat → Nat → Value} (h : OwnB base w v n f) : ∃ a c, v = .slice a n c := by
  rcases h.2 with ⟨h, h0⟩ | ⟨g, cap, cur, h1, _⟩
  · exact ⟨_, _, by rw [h, h0]⟩
  · exact ⟨_, _, h1⟩
theorem OwnB.keep {base : Nat} {w w' : World} {v : Value} {n : Nat} {f : Nat → Nat → Value} (h : OwnB base w v n f) (k : ∀ (g : Nat) (cur : Array Value), base ≤ g → w.heap[g]? = some (.cells cur 80 (0, 0)) → w'.heap[g]? = w.heap[g]?) : OwnB base w' v n f := by
  refine ⟨h.1, ?_⟩
  rcases h.2 with h' | ⟨g, cap, cur, h1, h2, h3, h4⟩
  · exact .inl h'
  · exact .inr ⟨g, cap, cur, h1, h2, (k g cur h2 h3).trans h3, h4⟩
theorem OwnB.below {base : Nat} {w w' : World} {v : Value} {n : Nat} {f : Nat → Nat → Value} (h : OwnB base w v n f) (k : Below w.heap.size w w') : OwnB base w' v n f := h.keep (fun g _ _ h1 => k.block g (lt_of_block h1))
theorem OwnB.ownBlock {base : Nat} {w : World} {v : Value} {n : Nat} {f : Nat → Nat → Value} (h : OwnB base w v n f) {g : Nat} (hg : v.ownBlock = some g) : base ≤ g ∧ ∃ cur, w.heap[g]? = some (.cells cur 80 (0, 0)) := by
  rcases h.2 with ⟨h', _⟩ | ⟨g', cap, cur, h1, h2, h3, h4⟩
  · rw [h'] at hg; cases hg
  · rw [h1] at hg
    cases hg
    exact ⟨h2, cur, h3⟩
set_option maxRecDepth 100000 in
theorem run_append_bk (w : World) (base : Nat) (ty : TypeId) (v : Value) (n : Nat) (f : Nat → Nat → Value) (hown : OwnB base w v n f) (g : Nat) (h4 : Nat → Value) (hc : ∀ j, j < 4 → w.cell? ⟨g, j, none⟩ = some (h4 j)) (h1c : ∀ j, j < 4 → (h4 j).oneCell' = true) (hb : n ≤ 1000) (hbase : base ≤ w.heap.size) :
    ∃ v' w', (Builtin.append_ #[76, 76] ty #[v, .slice (some ⟨g, 0, none⟩) 1 1]).run Try.prog w = .ok v' w' ∧ OwnB base w' v' (n + 1) (fun i => if i = n then h4 else f i) ∧ w.grownBy w' v.ownBlock := by
  obtain ⟨i0, hi0, hz0, hz1, hz2⟩ := info_parts infoBk
  obtain ⟨v', w', h1, h2, h3, _⟩ := run_append_own (P := Try.prog) w base 76 ty 80 i0 (.agg #[.slice none 0 0, .int .i64 0, .int .i64 0, .bool false]) 4 48 Try.underlying76 hi0 hz0 hz1 hz2 rfl (by decide) v n _ hown ⟨g, 0, none⟩ 1 1 [h4 0, h4 1, h4 2, h4 3] (by simp) (by
    intro j u hu
    rw [Addr.add_lit, Nat.zero_add]
    match j, hu with
    | 0, hu => simp at hu; rw [← hu]; exact hc 0 (by omega)
    | 1, hu => simp at hu; rw [← hu]; exact hc 1 (by omega)
    | 2, hu => simp at hu; rw [← hu]; exact hc 2 (by omega)
    | 3, hu => simp at hu; rw [← hu]; exact hc 3 (by omega)
    | j + 4, hu => simp at hu) (by
    intro u hu
    simp at hu
    rcases hu with rfl | rfl | rfl | rfl
    · exact h1c 0 (by omega)
    · exact h1c 1 (by omega)
    · exact h1c 2 (by omega)
    · exact h1c 3 (by omega)) (by unfold maxLen; omega) (by omega) hbase
  refine ⟨v', w', h1, ?_, h3⟩
  have e : ((List.range n).flatMap fun i => [f i 0, f i 1, f i 2, f i 3]) ++ [h4 0, h4 1, h4 2, h4 3] = (List.range (n + 1)).flatMap fun i => [(fun i => if i = n then h4 else f i) i 0, (fun i => if i = n then h4 else f i) i 1, (fun i => if i = n then h4 else f i) i 2, (fun i => if i = n then h4 else f i) i 3] := by
    rw [List.range_succ, List.flatMap_append]
    congr 1
    · rw [List.flatMap_def, List.flatMap_def]
      congr 1
      refine List.map_congr_left (fun i hi => ?_)
      have : i ≠ n := by have := List.mem_range.1 hi; omega
      simp [this]
    · simp
  rw [e] at h2
  exact h2

end Go.Proofs.Ytnondiaefpdlpaa
