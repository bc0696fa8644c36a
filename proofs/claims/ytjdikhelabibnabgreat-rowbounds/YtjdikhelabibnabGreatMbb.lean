/-
  Ahead of stage 11: rows of great items (slots, pages) in memory: as they are handed in, as a call makes them.
  row: what is asked of numbers, slots, pages; a head on a die.
-/
import Derived.Test.YtjdikhelabibnabGreatMav
import Derived.Test.YtjdikhelabibnabGreatMaj
import Derived.Test.YtjdikhelabibnabGreatMaw
import Derived.Test.YtjdikhelabibnabGreatMay
namespace Go.Proofs.YtjdikhelabibnabGreat
open Go Go.RowKit Go.Shelf

theorem csets_get (vs : List Value) : ∀ (cs : Array Value) (o j : Nat), o + vs.length ≤ cs.size → (csets cs o vs)[j]? = if o ≤ j ∧ j < o + vs.length then vs[j - o]? else cs[j]? := by
  induction vs with
  | nil => intro cs o j _; rw [if_neg (by simp only [List.length_nil]; omega)]; rfl
  | cons v vs ih =>
    intro cs o j h
    simp only [List.length_cons] at h ⊢
    rw [csets, ih _ _ _ (by rw [Array.size_setIfInBounds]; omega)]
    by_cases h1 : o + 1 ≤ j ∧ j < o + 1 + vs.length
    · rw [if_pos h1, if_pos (by omega), show j - o = (j - (o + 1)) + 1 from by omega, List.getElem?_cons_succ]
    · rw [if_neg h1, Array.getElem?_setIfInBounds]
      by_cases h2 : o = j
      · subst h2
        rw [if_pos rfl, if_pos (by omega), if_pos (by omega), Nat.sub_self]
        rfl
      · rw [if_neg h2, if_neg (by omega)]
theorem setCells_row (g : Nat) (t : TypeId) (fr : Nat × Nat) (vs : List Value) : ∀ (cur : Array Value) (o : Nat) (w : World), w.heap[g]? = some (.cells cur t fr) → w.setCells g o vs = w.setRow g (csets cur o vs) := by
  induction vs with
  | nil => intro cur o w h; exact (setRow_self w g cur t fr h).symm
  | cons v vs ih =>
    intro cur o w h
    rw [World.setCells, setCell_eq_setRow w g o cur t fr v h, ih _ _ _ (setRow_heap w g cur _ t fr h), setRow_setRow]
    rfl

theorem heap_setCells_ne {g k : Nat} (h : k ≠ g) (vs : List Value) : ∀ (o : Nat) (w : World), (w.setCells g o vs).heap[k]? = w.heap[k]? := by
  induction vs with
  | nil => intro o w; rfl
  | cons v vs ih => intro o w; rw [World.setCells, ih]; exact Below.heap_setCell _ _ _ _ (fun e => h e)
theorem flatMap_eq {α β : Type} {l : List α} {f g : α → List β} (h : ∀ x ∈ l, f x = g x) : l.flatMap f = l.flatMap g := by
  induction l with
  | nil => rfl
  | cons a l ih => rw [List.flatMap_cons, List.flatMap_cons, h a (List.mem_cons_self ..), ih (fun x hx => h x (List.mem_cons_of_mem _ hx))]

/-- Block g bears, of type e, n items of m cells each. -/
def RowM (w : World) (g : Nat) (e : TypeId) (m n : Nat) (f : Nat → List Value) : Prop := ∃ cur, w.heap[g]? = some (.cells cur e (0, 0)) ∧ n * m ≤ cur.size ∧ ∀ i, i < n → (f i).length = m ∧ ∀ j v, (f i)[j]? = some v → cur[i * m + j]? = some v
theorem RowM.of {w w' : World} {g m n : Nat} {e : TypeId} {f : Nat → List Value} (h : RowM w g e m n f) (k : w'.heap[g]? = w.heap[g]?) : RowM w' g e m n f := by
  obtain ⟨cur, h1, h2⟩ := h
  exact ⟨cur, k.trans h1, h2⟩
theorem RowM.lt {w : World} {g m n : Nat} {e : TypeId} {f : Nat → List Value} (h : RowM w g e m n f) : g < w.heap.size := by
  obtain ⟨cur, h1, h2⟩ := h
  exact (Array.getElem?_eq_some_iff.1 h1).1
theorem RowM.below {w w' : World} {g m n k : Nat} {e : TypeId} {f : Nat → List Value} (h : RowM w g e m n f) (b : Below k w w') (hg : g < k) : RowM w' g e m n f := h.of (b.block g hg)
theorem RowM.range {w : World} {g m n : Nat} {e : TypeId} {f : Nat → List Value} (h : RowM w g e m n f) {i : Nat} (hi : i < n) : w.rangeAt g (i * m) (f i) := by
  obtain ⟨cur, h1, h2, h3⟩ := h
  intro j v hv
  exact cell_blk h1 ((h3 i hi).2 j v hv)
theorem RowM.cell {w : World} {g m n : Nat} {e : TypeId} {f : Nat → List Value} (h : RowM w g e m n f) {i j : Nat} (hi : i < n) {v : Value} (hv : (f i)[j]? = some v) : w.cell? ⟨g, i * m + j, none⟩ = some v := h.range hi j v hv
theorem RowM.free {w : World} {g m n : Nat} {e : TypeId} {f : Nat → List Value} (h : RowM w g e m n f) (i : Nat) : w.frozen? ⟨g, i, none⟩ = false := by
  obtain ⟨cur, h1, _⟩ := h
  exact free_blk h1
theorem RowM.there {w : World} {g m n : Nat} {e : TypeId} {f : Nat → List Value} (h : RowM w g e m n f) {i : Nat} (hi : i < n) : w.there g (i * m) m := fun j hj => by
  refine ⟨?_, h.free _⟩
  obtain ⟨cur, h1, h2, h3⟩ := h
  obtain ⟨h4, h5⟩ := h3 i hi
  have := h5 j ((f i)[j]'(by omega)) (List.getElem?_eq_getElem (by omega))
  rw [cell_blk h1 this]
  rfl
theorem RowM.at_lt {m n i : Nat} (hi : i < n) {j : Nat} (hj : j < m) : i * m + j < n * m := by
  have := Nat.mul_le_mul_right m (show i + 1 ≤ n from hi)
  rw [Nat.add_mul, Nat.one_mul] at this
  omega
theorem RowM.ne_at {m i i' j j' : Nat} (hj : j < m) (hj' : j' < m) (h : i ≠ i') : i * m + j ≠ i' * m + j' := by
  intro e
  rcases Nat.lt_or_gt_of_ne h with h | h
  · have := RowM.at_lt (n := i') h hj
    omega
  · have := RowM.at_lt (n := i) h hj'
    omega
/-- A whole item is stored. -/
theorem RowM.put {w : World} {g m n : Nat} {e : TypeId} {f : Nat → List Value} (h : RowM w g e m n f) {i : Nat} (hi : i < n) (vs : List Value) (hv : vs.length = m) : RowM (w.setCells g (i * m) vs) g e m n (fun k => if k = i then vs else f k) := by
  obtain ⟨cur, h1, h2, h3⟩ := h
  have hsz : i * m + vs.length ≤ cur.size := by
    rcases Nat.eq_zero_or_pos m with h0 | h0
    · subst h0; omega
    · have := RowM.at_lt hi (show m - 1 < m from by omega); omega
  refine ⟨csets cur (i * m) vs, ?_, by rw [csets_size]; exact h2, fun k hk => ?_⟩
  · rw [setCells_row g e (0, 0) vs cur (i * m) w h1]
    exact setRow_heap w g cur _ e (0, 0) h1
  · by_cases e1 : k = i
    · subst e1
      simp only [if_true]
      refine ⟨hv, fun j v hj => ?_⟩
      have hjl : j < m := by rw [← hv]; exact (List.getElem?_eq_some_iff.1 hj).1
      rw [csets_get vs cur _ _ hsz, if_pos (by omega), show k * m + j - k * m = j from by omega]
      exact hj
    · simp only [if_neg e1]
      refine ⟨(h3 k hk).1, fun j v hj => ?_⟩
      have hjl : j < m := by rw [← (h3 k hk).1]; exact (List.getElem?_eq_some_iff.1 hj).1
      rw [csets_get vs cur _ _ hsz, if_neg ?_]
      · exact (h3 k hk).2 j v hj
      · rintro ⟨h4, h5⟩
        have := RowM.ne_at (m := m) (i := k) (i' := i) (j := j) (j' := k * m + j - i * m) hjl (by omega) e1
        omega
/-- One cell of an item is stored. -/
theorem RowM.set1 {w : World} {g m n : Nat} {e : TypeId} {f : Nat → List Value} (h : RowM w g e m n f) {i j : Nat} (hi : i < n) (hj : j < m) (v : Value) : RowM (w.setCell ⟨g, i * m + j, none⟩ v) g e m n (fun k => if k = i then (f k).set j v else f k) := by
  obtain ⟨cur, h1, h2, h3⟩ := h
  have hlt := RowM.at_lt hi hj
  refine ⟨cur.setIfInBounds (i * m + j) v, ?_, by rw [Array.size_setIfInBounds]; exact h2, fun k hk => ?_⟩
  · rw [setCell_eq_setRow w g _ cur e (0, 0) v h1]
    exact setRow_heap w g cur _ e (0, 0) h1
  · obtain ⟨h4, h5⟩ := h3 k hk
    by_cases e1 : k = i
    · subst e1
      simp only [if_true]
      refine ⟨by rw [List.length_set]; exact h4, fun j' v' hj' => ?_⟩
      have hjl : j' < m := by
        obtain ⟨h9, _⟩ := List.getElem?_eq_some_iff.1 hj'
        rw [List.length_set] at h9
        omega
      rw [List.getElem?_set] at hj'
      rw [Array.getElem?_setIfInBounds]
      by_cases e2 : j = j'
      · subst e2
        rw [if_pos rfl, if_pos (by omega)] at hj'
        rw [if_pos rfl, if_pos (by omega)]
        exact hj'
      · rw [if_neg e2] at hj'
        rw [if_neg (by omega)]
        exact h5 j' v' hj'
    · simp only [if_neg e1]
      refine ⟨h4, fun j' v' hj' => ?_⟩
      have hjl : j' < m := by rw [← h4]; exact (List.getElem?_eq_some_iff.1 hj').1
      rw [Array.getElem?_setIfInBounds, if_neg (fun e3 => RowM.ne_at hjl hj e1 e3.symm)]
      exact h5 j' v' hj'
theorem RowM.other {w : World} {g g' m n o : Nat} {e : TypeId} {f : Nat → List Value} (h : RowM w g e m n f) (hne : g ≠ g') (vs : List Value) : RowM (w.setCells g' o vs) g e m n f := h.of (heap_setCells_ne hne vs o w)
theorem RowM.other1 {w : World} {g g' m n o : Nat} {e : TypeId} {f : Nat → List Value} (h : RowM w g e m n f) (hne : g ≠ g') (v : Value) : RowM (w.setCell ⟨g', o, none⟩ v) g e m n f := h.of (Below.heap_setCell _ _ _ _ (fun e => hne e))
theorem RowM.congr {w : World} {g m n : Nat} {e : TypeId} {f f' : Nat → List Value} (h : RowM w g e m n f) (he : ∀ i, i < n → f' i = f i) : RowM w g e m n f' := by
  obtain ⟨cur, h1, h2, h3⟩ := h
  exact ⟨cur, h1, h2, fun i hi => by rw [he i hi]; exact h3 i hi⟩

theorem flatM_len {n m : Nat} {f : Nat → List Value} (h : ∀ i, i < n → (f i).length = m) : ((List.range n).flatMap f).length = n * m := by
  induction n with
  | zero => simp
  | succ n ih => rw [List.range_succ, List.flatMap_append, List.length_append, ih (fun i hi => h i (by omega))]; simp [h n (by omega), Nat.add_mul]
theorem flatM_get {n m : Nat} {f : Nat → List Value} (h : ∀ i, i < n → (f i).length = m) {i j : Nat} (hi : i < n) (hj : j < m) : ((List.range n).flatMap f)[i * m + j]? = (f i)[j]? := by
  induction n with
  | zero => omega
  | succ n ih =>
    have hl := flatM_len (f := f) (m := m) (n := n) (fun i hi => h i (by omega))
    rw [List.range_succ, List.flatMap_append]
    by_cases e : i < n
    · rw [List.getElem?_append_left (by rw [hl]; exact RowM.at_lt e hj)]
      exact ih (fun i hi => h i (by omega)) e
    · have : i = n := by omega
      subst this
      rw [List.getElem?_append_right (by rw [hl]; omega), hl, show i * m + j - i * m = j from by omega]
      simp

/-- A row of such items that a call makes. -/
structure OwnM (base : Nat) (w : World) (e : TypeId) (m : Nat) (v : Value) (n : Nat) (f : Nat → List Value) : Prop where
  own : w.ownsRow base e m v n ((List.range n).flatMap f)
  len : ∀ i, i < n → (f i).length = m
theorem OwnM.nil (base : Nat) (w : World) (e : TypeId) (m : Nat) (f : Nat → List Value) : OwnM base w e m (.slice none 0 0) 0 f := ⟨⟨by simp, .inl ⟨rfl, rfl⟩⟩, fun i hi => by omega⟩
theorem OwnM.row {base : Nat} {w : World} {e : TypeId} {m : Nat} {v : Value} {n : Nat} {f : Nat → List Value} (h : OwnM base w e m v n f) (hn : 0 < n) : ∃ g c, v = .slice (some ⟨g, 0, none⟩) n c ∧ base ≤ g ∧ n ≤ c ∧ c ≤ maxLen ∧ RowM w g e m n f := by
  rcases h.own.2 with ⟨h', h0⟩ | ⟨g, cap, cur, h1, h2, h3, h4, h5, h6, h7⟩
  · omega
  · refine ⟨g, cap, h1, h2, h4, h5, cur, h3, by rw [h6]; exact Nat.mul_le_mul_right m h4, fun i hi => ⟨h.len i hi, fun j v hv => ?_⟩⟩
    have hj : j < m := by rw [← h.len i hi]; exact (List.getElem?_eq_some_iff.1 hv).1
    have e1 : (cur.toList.take (n * m))[i * m + j]? = some v := by rw [h7, flatM_get h.len hi hj]; exact hv
    rw [List.getElem?_take, if_pos (RowM.at_lt hi hj), Array.getElem?_toList] at e1
    exact e1
theorem OwnM.shape {base : Nat} {w : World} {e : TypeId} {m : Nat} {v : Value} {n : Nat} {f : Nat → List Value} (h : OwnM base w e m v n f) : ∃ a c, v = .slice a n c ∧ n ≤ c ∧ c ≤ maxLen := by
  rcases h.own.2 with ⟨h', h0⟩ | ⟨g, cap, cur, h1, h2, h3, h4, h5, h6, h7⟩
  · exact ⟨_, 0, by rw [h', h0], by omega, by unfold maxLen; omega⟩
  · exact ⟨_, cap, h1, h4, h5⟩
theorem OwnM.keep {base : Nat} {w w' : World} {e : TypeId} {m : Nat} {v : Value} {n : Nat} {f : Nat → List Value} (h : OwnM base w e m v n f) (k : ∀ (g : Nat) (cur : Array Value), base ≤ g → w.heap[g]? = some (.cells cur e (0, 0)) → w'.heap[g]? = w.heap[g]?) : OwnM base w' e m v n f := by
  refine ⟨⟨h.own.1, ?_⟩, h.len⟩
  rcases h.own.2 with ⟨h', h0⟩ | ⟨g, cap, cur, h1, h2, h3, h4, h5, h6, h7⟩
  · exact .inl ⟨h', h0⟩
  · exact .inr ⟨g, cap, cur, h1, h2, (k g cur h2 h3).trans h3, h4, h5, h6, h7⟩
theorem OwnM.below {base : Nat} {w w' : World} {e : TypeId} {m : Nat} {v : Value} {n : Nat} {f : Nat → List Value} (h : OwnM base w e m v n f) (k : Below w.heap.size w w') : OwnM base w' e m v n f :=
  h.keep (fun g _ _ hg => k.block g (Array.getElem?_eq_some_iff.1 hg).1)
theorem OwnM.mono {base b' : Nat} {w : World} {e : TypeId} {m : Nat} {v : Value} {n : Nat} {f : Nat → List Value} (h : OwnM base w e m v n f) (hb : b' ≤ base) : OwnM b' w e m v n f := by
  refine ⟨⟨h.own.1, ?_⟩, h.len⟩
  rcases h.own.2 with ⟨h', h0⟩ | ⟨g, cap, cur, h1, h2, h3⟩
  · exact .inl ⟨h', h0⟩
  · exact .inr ⟨g, cap, cur, h1, by omega, h3⟩
theorem OwnM.ownBlock {base : Nat} {w : World} {e : TypeId} {m : Nat} {v : Value} {n : Nat} {f : Nat → List Value} (h : OwnM base w e m v n f) {g : Nat} (hg : v.ownBlock = some g) : base ≤ g ∧ ∃ cur, w.heap[g]? = some (.cells cur e (0, 0)) := by
  rcases h.own.2 with ⟨h', h0⟩ | ⟨g', cap, cur, h1, h2, h3, h4, h5, h6, h7⟩
  · rw [h'] at hg; cases hg
  · rw [h1] at hg; cases hg; exact ⟨h2, cur, h3⟩
theorem OwnM.congr {base : Nat} {w : World} {e : TypeId} {m : Nat} {v : Value} {n : Nat} {f f' : Nat → List Value} (h : OwnM base w e m v n f) (he : ∀ i, i < n → f' i = f i) : OwnM base w e m v n f' := by
  have : (List.range n).flatMap f' = (List.range n).flatMap f := flatMap_eq (fun i hi => he i (List.mem_range.1 hi))
  exact ⟨by rw [this]; exact h.own, fun i hi => by rw [he i hi]; exact h.len i hi⟩
set_option maxRecDepth 100000 in
/-- One item is appended. -/
theorem run_append_m (w : World) (base : Nat) (t ty e : TypeId) (i : TypeInfo) (z : Value) (m bytes : Nat) (ht : Tryz.prog.underlying t = some (.slice e)) (hi : Tryz.prog.info? e = some i) (hz : i.zero = some z) (hs : i.size = m) (hby : i.bytes = bytes) (hzs : z.cells.size = m) (hm : 0 < m) (hbb : bytes ≤ 1000)
    (v : Value) (n : Nat) (f : Nat → List Value) (hown : OwnM base w e m v n f) (g o : Nat) (vs : List Value) (hc : w.rangeAt g o vs) (hv : vs.length = m) (h1 : ∀ u ∈ vs, u.oneCell' = true) (hb : n ≤ 100000) (hbase : base ≤ w.heap.size) :
    ∃ v' w', (Builtin.append_ #[t, t] ty #[v, .slice (some ⟨g, o, none⟩) 1 1]).run Tryz.prog w = .ok v' w' ∧ OwnM base w' e m v' (n + 1) (fun k => if k = n then vs else f k) ∧ w.grownBy w' v.ownBlock := by
  obtain ⟨v', w', h1, h2, h3, _⟩ := run_append_own (P := Tryz.prog) w base t ty e i z m bytes ht hi hz hs hby hzs hm v _ _ hown.own ⟨g, o, none⟩ 1 1 vs (by rw [hv, Nat.one_mul]) (fun j u hu => by rw [Addr.add_lit]; exact hc j u hu) h1 (by unfold maxLen; omega) (by
    have := Nat.mul_le_mul (show n + 1 ≤ 100001 from by omega) hbb
    omega) hbase
  refine ⟨v', w', h1, ⟨?_, fun k hk => ?_⟩, h3⟩
  · have : (List.range (n + 1)).flatMap (fun k => if k = n then vs else f k) = (List.range n).flatMap f ++ vs := by
      rw [List.range_succ, List.flatMap_append]
      congr 1
      · exact flatMap_eq (fun i hi => by rw [if_neg (Nat.ne_of_lt (List.mem_range.1 hi))])
      · simp
    rw [this]
    exact h2
  · by_cases e : k = n
    · simp only [if_pos e]; exact hv
    · simp only [if_neg e]; exact hown.len k (by omega)

/-- A slot. -/
structure EV where
  k : Int
  l : Int
  s : Int
  d : List Nat
def EV.cs (e : EV) : List Value := (entA e.k e.l e.s e.d).toList
structure EV.Ok (e : EV) : Prop where
  len : e.d.length = 16
  bs : ∀ j, cf e.d j < 256
def zEV : EV := ⟨0, 0, 0, zer16⟩
theorem zEV_ok : zEV.Ok := ⟨rfl, fun j => by
  unfold zEV zer16
  rw [← cf_getD, List.getD_eq_getElem?_getD, List.getElem?_replicate]
  split <;> simp⟩
theorem EV.cs_len {e : EV} (h : e.Ok) : e.cs.length = 19 := by have := entA_size (k := e.k) (l := e.l) (s := e.s) h.len; simpa [EV.cs] using this
theorem EV.cs_one (e : EV) : ∀ u ∈ e.cs, u.oneCell' = true := fun u hu => (Array.all_eq_true_iff_forall_mem.1 (entA_one e.k e.l e.s e.d)) u (by simpa [EV.cs] using hu)
/-- Slots in memory. -/
structure EArg (w : World) (v : Value) (g : Nat) (l : List EV) : Prop where
  ex : ∃ ao c, v = .slice ao l.length c ∧ l.length ≤ c ∧ c ≤ maxLen ∧ (ao = none → c = 0) ∧ (l ≠ [] → ∃ o, ao = some ⟨g, o, none⟩ ∧ ∀ i, i < l.length → w.rangeAt g (o + i * 19) (l.getD i zEV).cs)
  ok : ∀ e ∈ l, e.Ok
theorem EArg.nil (w : World) : EArg w (.slice none 0 0) 0 [] := ⟨⟨none, 0, rfl, by simp, by simp, fun _ => rfl, fun h => absurd rfl h⟩, by simp⟩
theorem EArg.get_ok {w : World} {v : Value} {g : Nat} {l : List EV} (h : EArg w v g l) (i : Nat) : (l.getD i zEV).Ok := by
  by_cases hi : i < l.length
  · rw [List.getD_eq_getElem?_getD, List.getElem?_eq_getElem hi]; exact h.ok _ (List.getElem_mem hi)
  · rw [List.getD_eq_getElem?_getD, List.getElem?_eq_none (by omega)]; exact zEV_ok
theorem EArg.lt {w : World} {v : Value} {g : Nat} {l : List EV} (h : EArg w v g l) (hne : l ≠ []) : g < w.heap.size := by
  obtain ⟨ao, c, -, -, -, -, hr⟩ := h.ex
  obtain ⟨o, -, h2⟩ := hr hne
  have hl : 0 < l.length := List.length_pos_iff.2 hne
  have := h2 0 hl 0 (.int .i64 (l.getD 0 zEV).k) (by unfold EV.cs; rw [Array.getElem?_toList]; exact entA_0 _ _ _ _)
  exact block_lt_of_cell this
theorem EArg.of {w w' : World} {v : Value} {g : Nat} {l : List EV} (h : EArg w v g l) (k : l ≠ [] → w'.heap[g]? = w.heap[g]?) : EArg w' v g l := by
  refine ⟨?_, h.ok⟩
  obtain ⟨ao, c, h1, h2, h3, h4, hr⟩ := h.ex
  refine ⟨ao, c, h1, h2, h3, h4, fun hne => ?_⟩
  obtain ⟨o, h5, h6⟩ := hr hne
  exact ⟨o, h5, fun i hi j v hv => (World.cell?_of_block (k hne)).trans (h6 i hi j v hv)⟩
theorem EArg.below {w w' : World} {v : Value} {g : Nat} {l : List EV} (h : EArg w v g l) (k : Below w.heap.size w w') : EArg w' v g l := h.of (fun hne => k.block g (h.lt hne))
theorem EArg.kq {S : List Nat} {n : Nat} {w w' : World} {v : Value} {g : Nat} {l : List EV} (h : EArg w v g l) (k : Kq S n w w') (hg : l ≠ [] → g < n ∧ g ∉ S) : EArg w' v g l := h.of (fun hne => k.block g (hg hne).1 (hg hne).2)
/-- A slot that lies there is loaded whole. -/
theorem load_ev {w : World} {g o : Nat} {e : EV} (h : w.rangeAt g o e.cs) (ho : e.Ok) : (loadVar 46 ⟨g, o, none⟩).run Tryz.prog w = .ok (.agg (entA e.k e.l e.s e.d)) w := by
  have := run_loadVar_mid (P := Tryz.prog) w g o 46 e.cs _ h Tryz.underlying46 (by rfl) (by rw [sizeTE, EV.cs_len ho])
  simpa [EV.cs] using this
def OwnE (base : Nat) (w : World) (v : Value) (l : List EV) : Prop := OwnM base w 46 19 v l.length (fun i => (l.getD i zEV).cs) ∧ ∀ e ∈ l, e.Ok
theorem OwnE.nil (base : Nat) (w : World) : OwnE base w (.slice none 0 0) [] := ⟨OwnM.nil _ _ _ _ _, by simp⟩
theorem OwnE.below {base : Nat} {w w' : World} {v : Value} {l : List EV} (h : OwnE base w v l) (k : Below w.heap.size w w') : OwnE base w' v l := ⟨h.1.below k, h.2⟩
theorem OwnE.mono {base b' : Nat} {w : World} {v : Value} {l : List EV} (h : OwnE base w v l) (hb : b' ≤ base) : OwnE b' w v l := ⟨h.1.mono hb, h.2⟩
theorem OwnE.keep {base : Nat} {w w' : World} {v : Value} {l : List EV} (h : OwnE base w v l) (k : ∀ g, base ≤ g → g < w.heap.size → w'.heap[g]? = w.heap[g]?) : OwnE base w' v l := ⟨h.1.keep (fun g _ hg h1 => k g hg (Array.getElem?_eq_some_iff.1 h1).1), h.2⟩
theorem OwnE.arg {base : Nat} {w : World} {v : Value} {l : List EV} (h : OwnE base w v l) : ∃ g, EArg w v g l ∧ (l ≠ [] → base ≤ g) := by
  rcases Nat.eq_zero_or_pos l.length with h0 | h0
  · have : l = [] := List.eq_nil_of_length_eq_zero h0
    subst this
    rcases h.1.own.2 with ⟨h', -⟩ | ⟨g, cap, cur, h1, h2, h3, h4, h5, -⟩
    · rw [h']; exact ⟨0, EArg.nil w, fun h => absurd rfl h⟩
    · rw [h1]; exact ⟨g, ⟨⟨_, cap, rfl, h4, h5, (fun h => by cases h), fun h => absurd rfl h⟩, by simp⟩, fun h => absurd rfl h⟩
  · obtain ⟨g, c, h1, h2, h3, h4, h5⟩ := h.1.row h0
    rw [h1]
    exact ⟨g, ⟨⟨_, c, rfl, h3, h4, (fun h => by cases h), fun _ => ⟨0, rfl, fun i hi => by rw [Nat.zero_add]; exact h5.range hi⟩⟩, h.2⟩, fun _ => h2⟩
theorem infoTE : (Tryz.prog.info? 46).map (fun i => (i.zero, i.size, i.bytes)) = some (some (.agg (entA 0 0 0 zer16)), 19, 40) := by kernel_rfl
theorem getD_put {α : Type} (l : List α) (x z : α) (i : Nat) (hi : i < (l ++ [x]).length) : (l ++ [x]).getD i z = if i = l.length then x else l.getD i z := by
  simp only [List.length_append, List.length_cons, List.length_nil] at hi
  by_cases e : i = l.length
  · subst e
    rw [if_pos rfl, List.getD_eq_getElem?_getD, List.getElem?_append_right (Nat.le_refl _)]
    simp
  · rw [if_neg e, List.getD_eq_getElem?_getD, List.getElem?_append_left (by omega), List.getD_eq_getElem?_getD]
theorem run_append_ev (w : World) (base : Nat) (ty : TypeId) (v : Value) (l : List EV) (hown : OwnE base w v l) (g o : Nat) (x : EV) (hc : w.rangeAt g o x.cs) (hx : x.Ok) (hb : l.length ≤ 100000) (hbase : base ≤ w.heap.size) :
    ∃ v' w', (Builtin.append_ #[22, 22] ty #[v, .slice (some ⟨g, o, none⟩) 1 1]).run Tryz.prog w = .ok v' w' ∧ OwnE base w' v' (l ++ [x]) ∧ w.grownBy w' v.ownBlock := by
  obtain ⟨i0, hi0, hz0, hz1, hz2⟩ := info_parts infoTE
  obtain ⟨v', w', h1, h2, h3⟩ := run_append_m w base 22 ty 46 i0 _ 19 40 Tryz.underlying22 hi0 hz0 hz1 hz2 (entA_size zer16_len) (by omega) (by omega) v l.length _ hown.1 g o x.cs hc (EV.cs_len hx) x.cs_one hb hbase
  refine ⟨v', w', h1, ⟨?_, ?_⟩, h3⟩
  · rw [List.length_append]
    refine h2.congr (fun i hi => ?_)
    rw [getD_put l x zEV i (by simpa using hi)]
    split <;> rfl
  · intro e he
    rcases List.mem_append.1 he with h | h
    · exact hown.2 e h
    · rw [List.mem_singleton.1 h]; exact hx

/-- A page. -/
structure PV where
  st : Int
  bo : Option Addr
  bc : Nat
  gb : Nat
  x : List Nat
def PV.b (p : PV) : Value := .slice p.bo p.x.length p.bc
def PV.cs (p : PV) : List Value := [.int .i64 p.st, p.b]
def zPV : PV := ⟨0, none, 0, 0, []⟩
theorem PV.cs_one (p : PV) : ∀ u ∈ p.cs, u.oneCell' = true := by
  intro u hu
  simp only [PV.cs, List.mem_cons, List.not_mem_nil, or_false] at hu
  rcases hu with rfl | rfl <;> rfl
def PV.Ok (w : World) (p : PV) : Prop := Arg w p.b p.gb p.x
theorem zPV_ok (w : World) : zPV.Ok w := ⟨⟨none, 0, rfl, by simp [zPV], by simp, fun _ => rfl, .inl rfl⟩, Bs.nil⟩
/-- Pages in memory. -/
structure PgArg (w : World) (v : Value) (g : Nat) (l : List PV) : Prop where
  ex : ∃ ao c, v = .slice ao l.length c ∧ l.length ≤ c ∧ c ≤ maxLen ∧ (ao = none → c = 0) ∧ (l ≠ [] → ∃ o, ao = some ⟨g, o, none⟩ ∧ ∀ i, i < l.length → w.rangeAt g (o + i * 2) (l.getD i zPV).cs)
  ok : ∀ p ∈ l, p.Ok w
theorem PgArg.nil (w : World) : PgArg w (.slice none 0 0) 0 [] := ⟨⟨none, 0, rfl, by simp, by simp, fun _ => rfl, fun h => absurd rfl h⟩, by simp⟩
theorem PgArg.get_ok {w : World} {v : Value} {g : Nat} {l : List PV} (h : PgArg w v g l) (i : Nat) : (l.getD i zPV).Ok w := by
  by_cases hi : i < l.length
  · rw [List.getD_eq_getElem?_getD, List.getElem?_eq_getElem hi]; exact h.ok _ (List.getElem_mem hi)
  · rw [List.getD_eq_getElem?_getD, List.getElem?_eq_none (by omega)]; exact zPV_ok w
theorem PgArg.lt {w : World} {v : Value} {g : Nat} {l : List PV} (h : PgArg w v g l) (hne : l ≠ []) : g < w.heap.size := by
  obtain ⟨ao, c, -, -, -, -, hr⟩ := h.ex
  obtain ⟨o, -, h2⟩ := hr hne
  have := h2 0 (List.length_pos_iff.2 hne) 0 _ rfl
  exact block_lt_of_cell this
theorem PgArg.below {w w' : World} {v : Value} {g : Nat} {l : List PV} (h : PgArg w v g l) (k : Below w.heap.size w w') : PgArg w' v g l := by
  refine ⟨?_, fun p hp => (h.ok p hp).below k⟩
  obtain ⟨ao, c, h1, h2, h3, h4, hr⟩ := h.ex
  refine ⟨ao, c, h1, h2, h3, h4, fun hne => ?_⟩
  obtain ⟨o, h5, h6⟩ := hr hne
  exact ⟨o, h5, fun i hi j v hv => (World.cell?_of_block (k.block g (h.lt hne))).trans (h6 i hi j v hv)⟩
theorem sizeTP : (Tryz.prog.info? 35).map (·.size) = some 2 := by kernel_rfl
theorem load_pv {w : World} {g o : Nat} {p : PV} (h : w.rangeAt g o p.cs) : (loadVar 35 ⟨g, o, none⟩).run Tryz.prog w = .ok (.agg #[.int .i64 p.st, p.b]) w :=
  run_loadVar_mid (P := Tryz.prog) w g o 35 p.cs _ h Tryz.underlying35 (by rfl) sizeTP
def OwnG (base : Nat) (w : World) (v : Value) (l : List PV) : Prop := OwnM base w 35 2 v l.length (fun i => (l.getD i zPV).cs) ∧ ∀ p ∈ l, p.Ok w
theorem OwnG.nil (base : Nat) (w : World) : OwnG base w (.slice none 0 0) [] := ⟨OwnM.nil _ _ _ _ _, by simp⟩
theorem OwnG.below {base : Nat} {w w' : World} {v : Value} {l : List PV} (h : OwnG base w v l) (k : Below w.heap.size w w') : OwnG base w' v l := ⟨h.1.below k, fun p hp => (h.2 p hp).below k⟩
theorem OwnG.mono {base b' : Nat} {w : World} {v : Value} {l : List PV} (h : OwnG base w v l) (hb : b' ≤ base) : OwnG b' w v l := ⟨h.1.mono hb, h.2⟩
theorem OwnG.arg {base : Nat} {w : World} {v : Value} {l : List PV} (h : OwnG base w v l) : ∃ g, PgArg w v g l ∧ (l ≠ [] → base ≤ g) := by
  rcases Nat.eq_zero_or_pos l.length with h0 | h0
  · have : l = [] := List.eq_nil_of_length_eq_zero h0
    subst this
    rcases h.1.own.2 with ⟨h', -⟩ | ⟨g, cap, cur, h1, h2, h3, h4, h5, -⟩
    · rw [h']; exact ⟨0, PgArg.nil w, fun h => absurd rfl h⟩
    · rw [h1]; exact ⟨g, ⟨⟨_, cap, rfl, h4, h5, (fun h => by cases h), fun h => absurd rfl h⟩, by simp⟩, fun h => absurd rfl h⟩
  · obtain ⟨g, c, h1, h2, h3, h4, h5⟩ := h.1.row h0
    rw [h1]
    exact ⟨g, ⟨⟨_, c, rfl, h3, h4, (fun h => by cases h), fun _ => ⟨0, rfl, fun i hi => by rw [Nat.zero_add]; exact h5.range hi⟩⟩, h.2⟩, fun _ => h2⟩
theorem infoTP : (Tryz.prog.info? 35).map (fun i => (i.zero, i.size, i.bytes)) = some (some (.agg #[.int .i64 0, .slice none 0 0]), 2, 32) := by kernel_rfl
theorem run_append_pv (w : World) (base : Nat) (ty : TypeId) (v : Value) (l : List PV) (hown : OwnG base w v l) (g o : Nat) (x : PV) (hc : w.rangeAt g o x.cs) (hb : l.length ≤ 100000) (hbase : base ≤ w.heap.size) :
    ∃ v' w', (Builtin.append_ #[30, 30] ty #[v, .slice (some ⟨g, o, none⟩) 1 1]).run Tryz.prog w = .ok v' w' ∧ OwnM base w' 35 2 v' (l ++ [x]).length (fun i => ((l ++ [x]).getD i zPV).cs) ∧ w.grownBy w' v.ownBlock := by
  obtain ⟨i0, hi0, hz0, hz1, hz2⟩ := info_parts infoTP
  obtain ⟨v', w', h1, h2, h3⟩ := run_append_m w base 30 ty 35 i0 _ 2 32 Tryz.underlying30 hi0 hz0 hz1 hz2 (by rfl) (by omega) (by omega) v l.length _ hown.1 g o x.cs hc rfl x.cs_one hb hbase
  refine ⟨v', w', h1, ?_, h3⟩
  rw [List.length_append]
  refine h2.congr (fun i hi => ?_)
  rw [getD_put l x zPV i (by simpa using hi)]
  split <;> rfl

end Go.Proofs.YtjdikhelabibnabGreat

namespace Go.Proofs.YtjdikhelabibnabGreat
open Go.RowKit Go.Shelf
attribute [local go_sem] Oper.semAt_some

theorem rwithin11_any (v lo hi : Int) (w : World) (r : Bool) (hr : decide (lo ≤ v ∧ v ≤ hi) = r) : Calls Tryz.prog 19 #[.int .i64 v, .int .i64 lo, .int .i64 hi] w fun e w' => e = .returned (.bool r) ∧ w' = w := by
  rcases (show v < lo ∨ (lo ≤ v ∧ v ≤ hi) ∨ (lo ≤ v ∧ hi < v) by omega) with h | ⟨h, h2⟩ | ⟨h, h2⟩
  · have e : r = false := by rw [← hr, decide_eq_false (by omega)]
    subst e
    clear hr
    go_enter Tryz.func19, Tryz.ntmps19
    go_wp2
    go_ret
    exact ⟨rfl, rfl⟩
  · have e : r = true := by rw [← hr, decide_eq_true ⟨h, h2⟩]
    subst e
    clear hr
    go_enter Tryz.func19, Tryz.ntmps19
    go_wp2
    go_ret
    exact ⟨rfl, rfl⟩
  · have e : r = false := by rw [← hr, decide_eq_false (by omega)]
    subst e
    clear hr
    go_enter Tryz.func19, Tryz.ntmps19
    go_wp2
    go_ret
    exact ⟨by show Ending.returned (.bool (decide (v ≤ hi))) = _; rw [decide_eq_false (by omega)], rfl⟩
theorem dies_any (d : Int) (w : World) (r : Bool) (hr : decide (6 ≤ d ∧ d ≤ 8) = r) : Calls Tryz.prog 18 #[.int .i64 d] w fun e w' => e = .returned (.bool r) ∧ w' = w := by
  have HR := hide hr
  clear hr
  go_enter Tryz.func18, Tryz.ntmps18
  go_wp2_with fail
  refine (rwithin11_any d 6 8 _ r (unhide HR)).mono ?_
  rintro e w1 ⟨rfl, rfl⟩
  go_wp2
  go_ret
  exact ⟨rfl, rfl⟩

theorem head_new (w : World) (a b c e : Int) : ∃ W, w.alloc (.cells #[.int .i64 a, .int .i64 b, .int .i64 c, .int .i64 e] 52) = W ∧ (W.cell? ⟨w.heap.size, 0, none⟩ = some (.int .i64 a) ∧ W.cell? ⟨w.heap.size, 1, none⟩ = some (.int .i64 b) ∧ W.cell? ⟨w.heap.size, 2, none⟩ = some (.int .i64 c) ∧ W.cell? ⟨w.heap.size, 3, none⟩ = some (.int .i64 e)) ∧ Below w.heap.size w W := by
  have hn := World.alloc_heap_new w (.cells #[.int .i64 a, .int .i64 b, .int .i64 c, .int .i64 e] 52)
  exact ⟨_, rfl, ⟨cell_blk hn rfl, cell_blk hn rfl, cell_blk hn rfl, cell_blk hn rfl⟩, (Below.refl _ _).alloc (Nat.le_refl _) _⟩
/-- A head that may be. -/
def okH (a b c : Int) : Prop := (1 ≤ a ∧ a ≤ 1099511627776) ∧ (0 ≤ b ∧ b ≤ 255) ∧ 0 ≤ c ∧ c ≤ 255
instance (a b c : Int) : Decidable (okH a b c) := by unfold okH; infer_instance
set_option maxRecDepth 100000 in
theorem headM_any (a b c e : Int) (w : World) : Calls Tryz.prog 23 #[.agg (headA a b c e)] w fun x w' => x = .returned (.bool (decide (okH a b c))) ∧ Below w.heap.size w w' := by
  unfold headA
  obtain ⟨W, hW, ⟨c0, c1, c2, c3⟩, hb⟩ := head_new w a b c e
  have HB := hide hb
  clear hb
  by_cases h1 : 1 ≤ a ∧ a ≤ 1099511627776
  · have H1 := hide (decide_eq_true h1)
    by_cases h2 : 0 ≤ b ∧ b ≤ 255
    · have H2 := hide (decide_eq_true h2)
      obtain ⟨r, hr⟩ : ∃ r, decide (0 ≤ c ∧ c ≤ 255) = r := ⟨_, rfl⟩
      have hd : decide (okH a b c) = r := by rw [← hr]; exact decide_eq_decide.2 ⟨fun h => h.2.2, fun h => ⟨h1, h2, h⟩⟩
      rw [hd]
      have H3 := hide hr
      clear h1 h2 hd hr
      go_enter Tryz.func23, Tryz.ntmps23
      go_wp2_with fail
      refine (rwithin11_any a 1 1099511627776 _ true (unhide H1)).mono ?_
      rintro x w1 ⟨rfl, rfl⟩
      go_wp2_with fail
      refine (rwithin11_any b 0 255 _ true (unhide H2)).mono ?_
      rintro x w1 ⟨rfl, rfl⟩
      go_wp2_with fail
      refine (rwithin11_any c 0 255 _ r (unhide H3)).mono ?_
      rintro x w1 ⟨rfl, rfl⟩
      go_wp2
      go_ret
      exact ⟨rfl, unhide HB⟩
    · have H2 := hide (decide_eq_false h2)
      have hd : decide (okH a b c) = false := decide_eq_false (fun h => h2 h.2.1)
      rw [hd]
      clear h1 h2 hd
      go_enter Tryz.func23, Tryz.ntmps23
      go_wp2_with fail
      refine (rwithin11_any a 1 1099511627776 _ true (unhide H1)).mono ?_
      rintro x w1 ⟨rfl, rfl⟩
      go_wp2_with fail
      refine (rwithin11_any b 0 255 _ false (unhide H2)).mono ?_
      rintro x w1 ⟨rfl, rfl⟩
      go_wp2
      go_ret
      exact ⟨rfl, unhide HB⟩
  · have H1 := hide (decide_eq_false h1)
    have hd : decide (okH a b c) = false := decide_eq_false (fun h => h1 h.1)
    rw [hd]
    clear h1 hd
    go_enter Tryz.func23, Tryz.ntmps23
    go_wp2_with fail
    refine (rwithin11_any a 1 1099511627776 _ false (unhide H1)).mono ?_
    rintro x w1 ⟨rfl, rfl⟩
    go_wp2
    go_ret
    exact ⟨rfl, unhide HB⟩
theorem load_hd {W : World} {B : Nat} {a b c e : Int} (h : W.heap[B]? = some (.cells #[.int .i64 a, .int .i64 b, .int .i64 c, .int .i64 e] 52 (0, 0))) : (loadVar 52 ⟨B, 0, none⟩).run Tryz.prog W = .ok (.agg #[.int .i64 a, .int .i64 b, .int .i64 c, .int .i64 e]) W :=
  run_loadVar_mid (P := Tryz.prog) _ B 0 52 [.int .i64 a, .int .i64 b, .int .i64 c, .int .i64 e] _ (fun j v hv => cell_blk h (by rw [Nat.zero_add]; simpa using hv)) Tryz.underlying52 (by rfl) (by kernel_rfl)
set_option maxRecDepth 100000 in
theorem on_any (a b c e d : Int) (w : World) : Calls Tryz.prog 27 #[.agg (headA a b c e), .int .i64 d] w fun x w' => x = .returned (.agg (headA a b c d)) ∧ Below w.heap.size w w' := by
  unfold headA
  go_enter Tryz.func27, Tryz.ntmps27
  go_wp2
  have hl := load_hd (World.alloc_heap_new (w.alloc (.cells #[.int .i64 a, .int .i64 b, .int .i64 c, .int .i64 d] 52)) (.cells #[.int .i64 a, .int .i64 b, .int .i64 c, .int .i64 d] 52))
  rw [World.size_alloc] at hl
  refine bodyPost_ret (results_cell7 rfl _ _ ⟨w.heap.size + 1, 0, none⟩ _ rfl hl) rfl ⟨rfl, ((Below.refl _ w).alloc (Nat.le_refl _) _).alloc (by simp) _⟩

/-- A page in a cell. -/
theorem pg_new (w : World) (st : Int) (b : Value) : ∃ W, w.alloc (.cells #[.int .i64 st, b] 35) = W ∧ (W.cell? ⟨w.heap.size, 0, none⟩ = some (.int .i64 st) ∧ W.cell? ⟨w.heap.size, 1, none⟩ = some b) ∧ (loadVar 35 ⟨w.heap.size, 0, none⟩).run Tryz.prog W = .ok (.agg #[.int .i64 st, b]) W ∧ Below w.heap.size w W := by
  have hn := World.alloc_heap_new w (.cells #[.int .i64 st, b] 35)
  refine ⟨_, rfl, ⟨cell_blk hn rfl, cell_blk hn rfl⟩, ?_, (Below.refl _ _).alloc (Nat.le_refl _) _⟩
  refine run_loadVar_mid (P := Tryz.prog) _ w.heap.size 0 35 [.int .i64 st, b] _ (fun j v hv => ?_) Tryz.underlying35 (by rfl) sizeTP
  exact cell_blk hn (by rw [Nat.zero_add]; simpa using hv)
set_option maxRecDepth 100000 in
theorem blank_any (st : Int) (b : Value) (w : World) : Calls Tryz.prog 37 #[.agg #[.int .i64 st, b]] w fun x w' => x = .returned (.bool (st == 0)) ∧ Below w.heap.size w w' := by
  obtain ⟨W, hW, ⟨c0, c1⟩, -, hb⟩ := pg_new w st b
  have HB := hide hb
  clear hb
  go_enter Tryz.func37, Tryz.ntmps37
  go_wp2
  go_ret
  exact ⟨rfl, unhide HB⟩
set_option maxRecDepth 100000 in
theorem goodp_any (st : Int) (b : Value) (w : World) : Calls Tryz.prog 41 #[.agg #[.int .i64 st, b]] w fun x w' => x = .returned (.bool (st == 2)) ∧ Below w.heap.size w w' := by
  obtain ⟨W, hW, ⟨c0, c1⟩, -, hb⟩ := pg_new w st b
  have HB := hide hb
  clear hb
  go_enter Tryz.func41, Tryz.ntmps41
  go_wp2
  go_ret
  exact ⟨rfl, unhide HB⟩
set_option maxRecDepth 100000 in
theorem badp_any (st : Int) (b : Value) (w : World) : Calls Tryz.prog 38 #[.agg #[.int .i64 st, b]] w fun x w' => x = .returned (.bool (!(st == 0) && !(st == 2))) ∧ Below w.heap.size w w' := by
  obtain ⟨W, hW, ⟨c0, c1⟩, -, hb⟩ := pg_new w st b
  have HB := hide hb
  have HC0 := hide c0
  have HC1 := hide c1
  clear hb
  go_enter Tryz.func38, Tryz.ntmps38
  go_wp2_with fail
  refine (blank_any st b _).mono ?_
  rintro x w1 ⟨rfl, hk⟩
  have c0' := (hk.cell (block_lt_of_cell (unhide HC0))).trans (unhide HC0)
  have c1' := (hk.cell (block_lt_of_cell (unhide HC1))).trans (unhide HC1)
  have HB1 := hide ((unhide HB).trans (hk.mono (unhide HB).size))
  clear hk c0 c1
  obtain ⟨r, hr⟩ : ∃ r, (st == 0) = r := ⟨_, rfl⟩
  rw [hr]
  cases r
  · go_wp2_with fail
    refine (goodp_any st b _).mono ?_
    rintro x w2 ⟨rfl, hk⟩
    have HB2 := hide ((unhide HB1).trans (hk.mono (unhide HB1).size))
    clear hk c0' c1'
    go_wp2
    go_ret
    exact ⟨by rw [hr]; rfl, unhide HB2⟩
  · go_wp2
    go_ret
    exact ⟨by rw [hr]; rfl, unhide HB1⟩
set_option maxRecDepth 100000 in
theorem odd_any (st : Int) (bo : Option Addr) (n c : Nat) (w : World) : Calls Tryz.prog 40 #[.agg #[.int .i64 st, .slice bo n c]] w fun x w' => x = .returned (.bool ((st == 2) && !(n == 48))) ∧ Below w.heap.size w w' := by
  obtain ⟨W, hW, ⟨c0, c1⟩, -, hb⟩ := pg_new w st (.slice bo n c)
  have HB := hide hb
  have HC := hide c1
  clear hb
  go_enter Tryz.func40, Tryz.ntmps40
  go_wp2_with fail
  refine (goodp_any st _ _).mono ?_
  rintro x w1 ⟨rfl, hk⟩
  have hc1 := (hk.cell (block_lt_of_cell (unhide HC))).trans (unhide HC)
  have HB1 := hide ((unhide HB).trans (hk.mono (unhide HB).size))
  clear hk c0 c1
  obtain ⟨r, hr⟩ : ∃ r, (st == 2) = r := ⟨_, rfl⟩
  rw [hr]
  have hq : ((n : Int) != 48) = !(n == 48) := by
    by_cases h : n = 48
    · subst h; rfl
    · have h1 : ((n : Int) == 48) = false := by rw [beq_eq_false_iff_ne]; omega
      have h2 : (n == 48) = false := by rw [beq_eq_false_iff_ne]; exact h
      simp [bne, h1, h2]
  have HQ := hide hq
  clear hq
  cases r
  · go_wp2
    go_ret
    exact ⟨by rw [hr]; rfl, unhide HB1⟩
  · go_wp2
    go_ret
    exact ⟨by rw [hr, ← unhide HQ]; rfl, unhide HB1⟩
set_option maxRecDepth 100000 in
/-- Slots that may not be. -/
theorem refused_any (e : EV) (he : e.Ok) (w : World) : Calls Tryz.prog 47 #[.agg (entA e.k e.l e.s e.d)] w fun x w' => x = .returned (.bool (!decide (okE e.k e.l e.s e.d))) ∧ Below w.heap.size w w' := by
  obtain ⟨W, hW, hE, hb⟩ := EntAt.new w e.k e.l e.s e.d
  have HB := hide hb
  have HBK := hide hE.blk
  have HC := hide (echeck_any e.k e.l e.s e.d he.len W)
  clear hE hb
  go_enter Tryz.func47, Tryz.ntmps47
  go_wp2_with (refine wpList_load_row rfl 46 _ rfl w.heap.size rfl 46 (entA e.k e.l e.s e.d) _ _ (unhide HBK) Tryz.underlying46 rfl (by rw [sizeTE, entA_size he.len]) ?_)
  refine (unhide HC).mono ?_
  rintro x w1 ⟨rfl, hk⟩
  have HB1 := hide ((unhide HB).trans (hk.mono (unhide HB).size))
  clear hk
  by_cases h : okE e.k e.l e.s e.d
  · rw [chkE_ok h]
    go_wp2
    go_ret
    exact ⟨by rw [decide_eq_true h]; rfl, unhide HB1⟩
  · rw [chkE_not h]
    go_wp2
    go_ret
    exact ⟨by rw [decide_eq_false h]; rfl, unhide HB1⟩

end Go.Proofs.YtjdikhelabibnabGreat
