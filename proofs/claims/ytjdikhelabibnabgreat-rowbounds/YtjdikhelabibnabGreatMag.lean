/-
  Rows of bytes and of ints in memory; strings of bytes.
  Bits of bytes by themselves: which are 1, where two differ, turned, mixed.
-/
import Derived.Test.YtjdikhelabibnabGreatMaa
import Derived.Test.YtjdikhelabibnabGreatMab
import Derived.Test.YtjdikhelabibnabGreatMad
import Derived.Test.YtjdikhelabibnabGreatMaf
import Derived.Laws.OwnMore
import Derived.Laws.BytesString
namespace Go.Proofs.YtjdikhelabibnabGreat
open Go.RowKit Go.Shelf

/-- As integers. -/
def ints (s : List Nat) : List Int := s.map (fun n : Nat => (n : Int))

theorem ints_len (s : List Nat) : (ints s).length = s.length := by simp [ints]

theorem ints_getD (s : List Nat) (j : Nat) : (ints s).getD j 0 = ((cf s j : Nat) : Int) := by
  rw [← cf_getD, ints, List.getD_eq_getElem?_getD, List.getD_eq_getElem?_getD, List.getElem?_map]
  cases s[j]? <;> rfl

theorem row_cell {w : World} {g g' o : Nat} {s : List Nat} (hr : Row w (some ⟨g', o, none⟩) g (ints s)) {j : Nat} (hj : j < s.length) : w.cell? ⟨g', o + j, none⟩ = some (.int .u8 ((cf s j : Nat) : Int)) := by
  rcases hr with h | ⟨o', h, hc⟩
  · rw [← ints_len, h] at hj; simp at hj
  · cases h
    rw [hc j (by rw [ints_len]; exact hj), ints_getD]

theorem row_some {w : World} {ao : Option Addr} {g : Nat} {s : List Nat} (hr : Row w ao g (ints s)) (hs : 0 < s.length) : ∃ o, ao = some ⟨g, o, none⟩ := by
  rcases hr with h | ⟨o', h, _⟩
  · rw [← ints_len, h] at hs; simp at hs
  · exact ⟨o', h⟩

theorem row_sub {w : World} {g o k : Nat} {s t : List Nat} (h : ∀ j, j < t.length → k + j < s.length ∧ cf t j = cf s (k + j)) (hr : Row w (some ⟨g, o, none⟩) g (ints s)) : Row w (some ⟨g, o + k, none⟩) g (ints t) := by
  refine .inr ⟨o + k, rfl, fun j hj => ?_⟩
  rw [ints_len] at hj
  rw [Nat.add_assoc, row_cell hr (h j hj).1, ints_getD, (h j hj).2]

theorem row_front {w : World} {ao : Option Addr} {g e : Nat} {s : List Nat} (hr : Row w ao g (ints s)) : Row w ao g (ints (s.take e)) := by
  rcases hr with h | ⟨o, rfl, hc⟩
  · left
    have : s = [] := List.eq_nil_of_length_eq_zero (by rw [← ints_len, h]; rfl)
    rw [this]; simp [ints]
  · refine .inr ⟨o, rfl, fun j hj => ?_⟩
    rw [ints_len, List.length_take] at hj
    rw [hc j (by rw [ints_len]; omega), ints_getD, ints_getD, cf_take, if_pos (by omega)]

theorem Row.kq {S : List Nat} {n : Nat} {w w' : World} (h : Kq S n w w') {ao : Option Addr} {g : Nat} {s : List Nat} (hr : Row w ao g (ints s)) (hg : s ≠ [] → g < n ∧ g ∉ S) : Row w' ao g (ints s) := by
  rcases hr with h0 | ⟨o, rfl, hc⟩
  · exact .inl h0
  · by_cases hs : s = []
    · subst hs; exact .inl rfl
    · exact .inr ⟨o, rfl, fun j hj => (World.cell?_of_block (h.block g (hg hs).1 (hg hs).2)).trans (hc j hj)⟩

theorem Kq.cell {S : List Nat} {n : Nat} {w w' : World} (h : Kq S n w w') {p : Addr} {v : Value} (hc : w.cell? p = some v) (hg : p.block < n) (hn : p.block ∉ S) : w'.cell? p = some v :=
  (World.cell?_of_block (h.block p.block hg hn)).trans hc

theorem Row.below {w w' : World} (h : Below w.heap.size w w') {ao : Option Addr} {g : Nat} {zs : List Int} (hr : Row w ao g zs) : Row w' ao g zs := by
  rcases hr with h0 | ⟨o, rfl, hc⟩
  · exact .inl h0
  · exact .inr ⟨o, rfl, fun j hj => (h.cell (block_lt_of_cell (hc j hj))).trans (hc j hj)⟩

theorem Row.block_lt {w : World} {ao : Option Addr} {g : Nat} {s : List Nat} (hr : Row w ao g (ints s)) (h : s ≠ []) : g < w.heap.size := by
  have hs : 0 < s.length := List.length_pos_iff.2 h
  obtain ⟨o, rfl⟩ := row_some hr hs
  exact block_lt_of_cell (row_cell hr hs)

/-- Block g begins with the bytes s. -/
def Blk (w : World) (g : Nat) (s : List Nat) : Prop := ∃ cur, w.heap[g]? = some (.cells cur 5 (0, 0)) ∧ ∀ j, j < s.length → cur[j]? = some (.int .u8 ((cf s j : Nat) : Int))

theorem Blk.lt {w : World} {g : Nat} {s : List Nat} (h : Blk w g s) : g < w.heap.size := by
  obtain ⟨cur, h, _⟩ := h
  exact lt_of_block h

theorem Blk.cell {w : World} {g : Nat} {s : List Nat} (h : Blk w g s) {j : Nat} (hj : j < s.length) : w.cell? ⟨g, j, none⟩ = some (.int .u8 ((cf s j : Nat) : Int)) := by
  obtain ⟨cur, h, hc⟩ := h
  simp [World.cell?, h, hc j hj]

theorem Blk.free {w : World} {g : Nat} {s : List Nat} (h : Blk w g s) {j : Nat} : w.frozen? ⟨g, j, none⟩ = false := by
  obtain ⟨cur, h, hc⟩ := h
  simp [World.frozen?, h]

theorem Blk.of {w w' : World} {g : Nat} {s : List Nat} (h : Blk w g s) (e : w'.heap[g]? = w.heap[g]?) : Blk w' g s := by
  obtain ⟨cur, h, hc⟩ := h
  exact ⟨cur, e.trans h, hc⟩

theorem Blk.below {w w' : World} {g n : Nat} {s : List Nat} (h : Blk w g s) (k : Below n w w') (hn : g < n) : Blk w' g s := h.of (k.block g hn)

theorem Blk.set {w : World} {g : Nat} {s : List Nat} (h : Blk w g s) (j v : Nat) (hj : j < s.length) : Blk (w.setCell ⟨g, j, none⟩ (.int .u8 (v : Int))) g (s.set j v) := by
  obtain ⟨cur, h, hc⟩ := h
  refine ⟨cur.setIfInBounds j (.int .u8 (v : Int)), heap_setCell_same w g j _ _ _ h, fun i hi => ?_⟩
  rw [List.length_set] at hi
  have hj2 : j < cur.size := by
    have := hc j hj
    exact (Array.getElem?_eq_some_iff.1 this).1
  rw [Array.getElem?_setIfInBounds, cf_set _ _ _ _ hj]
  by_cases e : j = i
  · subst e; rw [if_pos rfl, if_pos hj2, if_pos rfl]
  · rw [if_neg e, if_neg (fun k => e k.symm)]; exact hc i hi

theorem Blk.row {w : World} {g o n : Nat} {s : List Nat} (h : Blk w g s) : Row w (some ⟨g, o, none⟩) g (ints ((s.drop o).take n)) := by
  refine .inr ⟨o, rfl, fun j hj => ?_⟩
  rw [ints_len, List.length_take, List.length_drop] at hj
  rw [h.cell (by omega), ints_getD, cf_take, if_pos (by omega), cf_drop]

theorem keeps_of_kp {w w' : World} {g : Nat} {s : List Nat} (h : Kp [g] w w') (hb : Blk w g s) : KeepsOthers w w' :=
  ⟨h.size, fun k o ho hc => by
    by_cases e : k = g
    · subst e
      obtain ⟨cur, h1, _⟩ := hb
      rw [h1] at ho
      cases ho
      simp [Obj.isCells] at hc
    · exact h.heap ho (by simpa using e)⟩

theorem kp_kq {S : List Nat} {n : Nat} {w w' : World} (h : Kp S w w') (hn : n ≤ w.heap.size) : Kq S n w w' := ⟨h.size, fun k hk hs => h.block k (by omega) hs⟩

theorem ownFrom_kp {β : Type} {S : List Nat} {B : Nat} {w₀ : World} (hB : w₀.heap.size ≤ B) : OwnFrom B (fun (_ : β) W => Kp S w₀ W) :=
  fun _ _ _ _ hs hg hr => hs.grown hg (fun k e => .inr (Nat.le_trans hB (hr k e).1))

theorem own_blk {β : Type} (g : Nat) (f : β → List Nat) : Own (fun (s : β) W => Blk W g (f s)) := fun s W W' row hs hg hr => by
  refine hs.of (hg.block g hs.lt (fun e => ?_))
  obtain ⟨o, ho, hc⟩ := hr g e.symm
  obtain ⟨cur, h1, _⟩ := hs
  rw [h1] at ho
  cases ho
  simp [Obj.isCells] at hc

/-- The slice v (in block g, if it is not empty) holds the bytes s. -/
structure Arg (w : World) (v : Value) (g : Nat) (s : List Nat) : Prop where
  ex : ∃ ao c, v = .slice ao s.length c ∧ s.length ≤ c ∧ c ≤ maxLen ∧ (ao = none → c = 0) ∧ Row w ao g (ints s)
  bs : Bs s

theorem Arg.below {w w' : World} {v : Value} {g : Nat} {s : List Nat} (h : Arg w v g s) (k : Below w.heap.size w w') : Arg w' v g s := by
  obtain ⟨⟨ao, c, h1, h2, h3, h4, h5⟩, hb⟩ := h
  exact ⟨⟨ao, c, h1, h2, h3, h4, h5.below k⟩, hb⟩

/-- v is of the call's own making, or nothing. -/
def Fr (n : Nat) (w : World) (v : Value) (s : List Nat) : Prop :=
  (s = [] ∧ v = .slice none 0 0) ∨ ∃ g c, v = .slice (some ⟨g, 0, none⟩) s.length c ∧ s.length ≤ c ∧ c ≤ maxLen ∧ Blk w g s ∧ n ≤ g

theorem Blk.front {w : World} {g : Nat} {s t : List Nat} (h : Blk w g s) (hl : t.length ≤ s.length) (ht : ∀ j, j < t.length → cf t j = cf s j) : Blk w g t := by
  obtain ⟨cur, h1, h2⟩ := h
  exact ⟨cur, h1, fun j hj => by rw [ht j hj]; exact h2 j (by omega)⟩

theorem Fr.below {n m : Nat} {w w' : World} {v : Value} {s : List Nat} (h : Fr n w v s) (k : Below w.heap.size w w') (hm : m ≤ n) : Fr m w' v s := by
  rcases h with h | ⟨g, c, h1, h2, h3, h4, h5⟩
  · exact .inl h
  · exact .inr ⟨g, c, h1, h2, h3, h4.below k h4.lt, by omega⟩

theorem Fr.arg {n : Nat} {w : World} {v : Value} {s : List Nat} (h : Fr n w v s) (hb : Bs s) : ∃ g, Arg w v g s ∧ n ≤ g := by
  rcases h with ⟨rfl, rfl⟩ | ⟨g, c, h1, h2, h3, h4, h5⟩
  · exact ⟨n, ⟨⟨none, 0, rfl, by simp, by simp, fun _ => rfl, .inl rfl⟩, hb⟩, Nat.le_refl _⟩
  · refine ⟨g, ⟨⟨some ⟨g, 0, none⟩, c, h1, h2, h3, fun h => by simp at h, ?_⟩, hb⟩, h5⟩
    have := h4.row (o := 0) (n := s.length)
    simpa using this

theorem infoE : (Tryz.prog.info? 5).map (fun i => (i.zero, i.size, i.bytes)) = some (some (.int .u8 0), 1, 1) := by kernel_rfl

theorem owns_fr {w : World} {base : Nat} {v : Value} {n : Nat} {s : List Nat} (h : w.ownsRow base 5 1 v n ((ints s).map (Value.int .u8))) : n = s.length ∧ Fr base w v s := by
  have hl := len_of_owns h
  rw [ints_len] at hl
  refine ⟨hl.symm, ?_⟩
  rcases h.2 with ⟨h', h0⟩ | ⟨g, cap, cur, rfl, hb, hg, h1, h2, h3, h4⟩
  · left
    subst h0
    exact ⟨List.eq_nil_of_length_eq_zero hl, h'⟩
  · right
    refine ⟨g, cap, by rw [hl], by omega, h2, ⟨cur, hg, fun j hj => ?_⟩, hb⟩
    have e : (cur.toList.take (n * 1))[j]? = ((ints s).map (Value.int .u8))[j]? := by rw [h4]
    rw [List.getElem?_take, if_pos (by omega), Array.getElem?_toList] at e
    rw [e, List.getElem?_map, ints, List.getElem?_map, cf_get hj]
    rfl

theorem made_zeros (m : Nat) : madeCells (Value.cells (.int .u8 0)) (m * 1) = (List.replicate m (Value.int .u8 0)).toArray := by
  apply Array.ext'
  apply List.ext_getElem?
  intro j
  by_cases hj : j < m
  · simp [madeCells, Value.cells, hj, Nat.mod_one]
  · simp [madeCells, Value.cells, hj]

/-- So many noughts are made. -/
theorem run_zeros (m : Nat) (hm : m ≤ 1000000) (w : World) : (Instr.makeSlice 33 (.int .i64 (m : Int)) (.int .i64 (m : Int))).run Tryz.prog w = .ok (.slice (some ⟨w.heap.size, 0, none⟩) m m) (w.alloc (.cells (List.replicate m (Value.int .u8 0)).toArray 5)) := by
  obtain ⟨i0, hi0, hz0, hz1, hz2⟩ := info_parts infoE
  have h := run_make (P := Tryz.prog) w 33 5 i0 (.int .u8 0) Tryz.underlying33 hi0 hz0 .i64 .i64 m m (by omega) (by omega) (by rw [hz2]; omega) (by omega)
  rw [hz1, Int.toNat_natCast, made_zeros] at h
  exact h

theorem blk_zeros (m : Nat) (w : World) : Blk (w.alloc (.cells (List.replicate m (Value.int .u8 0)).toArray 5)) w.heap.size (List.replicate m 0) := by
  refine ⟨_, World.alloc_heap_new w _, fun j hj => ?_⟩
  rw [List.length_replicate] at hj
  rw [cf_zeros]
  simp [hj]

theorem made_owns (m : Nat) (hm : m ≤ 1000000) (w : World) : (w.alloc (.cells (List.replicate m (Value.int .u8 0)).toArray 5)).ownsRow w.heap.size 5 1 (.slice (some ⟨w.heap.size, 0, none⟩) m m) m ((ints (List.replicate m 0)).map (Value.int .u8)) := by
  refine ⟨by simp [ints], .inr ⟨w.heap.size, m, _, rfl, Nat.le_refl _, World.alloc_heap_new w _, Nat.le_refl _, by unfold maxLen; omega, by simp, ?_⟩⟩
  simp [ints]

theorem Fr.blk {n : Nat} {w : World} {v : Value} {s : List Nat} (h : Fr n w v s) (hs : s ≠ []) : ∃ g c, v = .slice (some ⟨g, 0, none⟩) s.length c ∧ s.length ≤ c ∧ c ≤ maxLen ∧ Blk w g s ∧ n ≤ g := by
  rcases h with ⟨h0, _⟩ | h
  · exact absurd h0 hs
  · exact h

theorem Blk.arg {w : World} {g c : Nat} {s : List Nat} (h : Blk w g s) (hb : Bs s) (h1 : s.length ≤ c) (h2 : c ≤ maxLen) : Arg w (.slice (some ⟨g, 0, none⟩) s.length c) g s := by
  refine ⟨⟨some ⟨g, 0, none⟩, c, rfl, h1, h2, fun h => by simp at h, ?_⟩, hb⟩
  have := h.row (o := 0) (n := s.length)
  simpa using this

/-- The string of such bytes. -/
def strOf (zs : List Int) : ByteArray := zs.foldl (fun r n => r.push (UInt8.ofNat n.toNat)) ByteArray.empty

theorem run_conv (w : World) (ao : Option Addr) (g n c : Nat) (zs : List Int) (hl : zs.length = n) (hr : Row w ao g zs) :
    (convert 33 9 (.slice ao n c)).run Tryz.prog w = .ok (.string (strOf zs)) w := by
  rw [run_convert_bytes_string w 33 9 5 ao n c Tryz.underlying33 Tryz.underlying5 Tryz.underlying9]
  cases ao with
  | none =>
    have h0 : zs = [] := by
      rcases hr with h | ⟨o, h, _⟩
      · exact h
      · cases h
    subst h0
    simp [Conv.bytesToString, strOf, Sem.run_pure]
  | some ad =>
    refine run_bytesToString w ad n c zs ?_
    have := run_loadCells_list (P := Tryz.prog) w ad (zs.map (Value.int .u8)) (fun j v hv => by
      obtain ⟨hj, hv⟩ := List.getElem?_eq_some_iff.1 hv
      simp only [List.length_map] at hj
      rcases hr with rfl | ⟨o, ho, hc⟩
      · simp at hj
      · cases ho
        rw [Addr.add_lit, hc j hj]
        simp [← hv, List.getD_eq_getElem?_getD, hj])
    rw [List.length_map, hl] at this
    exact this

theorem conv_arg {w : World} {ao : Option Addr} {n c g : Nat} {s : List Nat} (h : Arg w (.slice ao n c) g s) : (convert 33 9 (.slice ao n c)).run Tryz.prog w = .ok (.string (strOf (ints s))) w := by
  obtain ⟨⟨ao', c', h1, h2, h3, h4, h5⟩, _⟩ := h
  cases h1
  exact run_conv w ao g s.length c (ints s) (ints_len s) h5

/-- As naturals. -/
def nats (zs : List Int) : List Nat := zs.map Int.toNat

theorem ints_nats {zs : List Int} (h : Byt zs) : ints (nats zs) = zs := by
  unfold ints nats
  rw [List.map_map]
  conv => rhs; rw [← List.map_id zs]
  refine List.map_congr_left (fun z hz => ?_)
  have := h z hz
  simp only [Function.comp, id]
  omega

theorem nats_bs {zs : List Int} (h : Byt zs) : Bs (nats zs) := Bs.of (fun x hx => by
  obtain ⟨z, hz, rfl⟩ := List.mem_map.1 hx
  have := h z hz
  omega)

theorem arg_in {w : World} {ao : Option Addr} {g len cap : Nat} {zs : List Int} (l : zs.length = len) (r : Row w ao g zs) (b : Byt zs) (c : len ≤ cap) (n : ao = none → len = 0 ∧ cap = 0) (m : cap ≤ maxLen) : Arg w (.slice ao len cap) g (nats zs) := by
  have hl : (nats zs).length = len := by simp [nats, l]
  refine ⟨⟨ao, cap, by rw [hl], by omega, m, fun h => (n h).2, ?_⟩, nats_bs b⟩
  rw [ints_nats b]
  exact r

/-- Noughts that were made. -/
theorem zeros_arg (m : Nat) (hm : m ≤ 1000) (w : World) : Arg (w.alloc (.cells (List.replicate m (Value.int .u8 0)).toArray 5)) (.slice (some ⟨w.heap.size, 0, none⟩) m m) w.heap.size (List.replicate m 0) := by
  have h := (blk_zeros m w).arg (Bs.zeros m) (c := m) (by simp) (by unfold maxLen; omega)
  rwa [List.length_replicate] at h

/-- The slice v holds these places. -/
structure IArg (w : World) (v : Value) (g : Nat) (l : List Nat) : Prop where
  ex : ∃ ao c, v = .slice ao l.length c ∧ l.length ≤ c ∧ c ≤ maxLen ∧ (ao = none → c = 0) ∧ IRow w ao g (ints l)

theorem IRow.below {w w' : World} (h : Below w.heap.size w w') {ao : Option Addr} {g : Nat} {zs : List Int} (hr : IRow w ao g zs) : IRow w' ao g zs := by
  rcases hr with h0 | ⟨o, rfl, hc⟩
  · exact .inl h0
  · exact .inr ⟨o, rfl, fun j hj => (h.cell (block_lt_of_cell (hc j hj))).trans (hc j hj)⟩

theorem IArg.below {w w' : World} {v : Value} {g : Nat} {l : List Nat} (h : IArg w v g l) (k : Below w.heap.size w w') : IArg w' v g l := by
  obtain ⟨ao, c, h1, h2, h3, h4, h5⟩ := h
  exact ⟨ao, c, h1, h2, h3, h4, h5.below k⟩

theorem irow_some {w : World} {ao : Option Addr} {g : Nat} {s : List Nat} (hr : IRow w ao g (ints s)) (hs : 0 < s.length) : ∃ o, ao = some ⟨g, o, none⟩ := by
  rcases hr with h | ⟨o, h, _⟩
  · rw [← ints_len, h] at hs; simp at hs
  · exact ⟨o, h⟩

theorem irow_cell {w : World} {g g' o : Nat} {s : List Nat} (hr : IRow w (some ⟨g', o, none⟩) g (ints s)) {j : Nat} (hj : j < s.length) : w.cell? ⟨g', o + j, none⟩ = some (.int .i64 ((cf s j : Nat) : Int)) := by
  rcases hr with h | ⟨o', h, hc⟩
  · rw [← ints_len, h] at hj; simp at hj
  · cases h
    rw [hc j (by rw [ints_len]; exact hj), ints_getD]

theorem empty_owns' (w : World) : (w.alloc (.cells #[] 5)).ownsRow w.heap.size 5 1 (.slice (some ⟨w.heap.size, 0, none⟩) 0 0) 0 ((ints []).map (Value.int .u8)) := by
  refine ⟨by simp [ints], .inr ⟨w.heap.size, 0, _, rfl, Nat.le_refl _, World.alloc_heap_new w _, Nat.le_refl _, by unfold maxLen; omega, by simp, ?_⟩⟩
  simp [ints]

theorem cf_memb {l : List Nat} {i : Nat} (h : i < l.length) : cf l i ∈ l := List.mem_of_getElem? (cf_get h)

theorem wrap_u8 (z : Int) : IntKind.u8.wrap z = z % 256 := by
  simp [IntKind.wrap, IntKind.bits, IntKind.signed]

theorem strOf_data (zs : List Int) (r : ByteArray) : (zs.foldl (fun r n => r.push (UInt8.ofNat n.toNat)) r).data.toList = r.data.toList ++ zs.map (fun n => UInt8.ofNat n.toNat) := by
  induction zs generalizing r with
  | nil => simp
  | cons z zs ih =>
    rw [List.foldl_cons, ih]
    simp [ByteArray.push]

theorem strOf_inj {a b : List Nat} (ha : Bs a) (hb : Bs b) (h : (strOf (ints a)).data.toList = (strOf (ints b)).data.toList) : a = b := by
  simp only [strOf, strOf_data] at h
  have h2 : (ints a).map (fun n => UInt8.ofNat n.toNat) = (ints b).map (fun n => UInt8.ofNat n.toNat) := by simpa using h
  simp only [ints, List.map_map] at h2
  have hl : a.length = b.length := by have := congrArg List.length h2; simpa using this
  refine eq_of_cf hl (fun i => ?_)
  by_cases hi : i < a.length
  · have h3 := congrArg (fun l : List UInt8 => l[i]?) h2
    simp only [List.getElem?_map, cf_get hi, cf_get (hl ▸ hi), Option.map_some, Option.some.injEq, Function.comp, Int.toNat_natCast] at h3
    have h4 := congrArg UInt8.toNat h3
    simp only [UInt8.toNat_ofNat'] at h4
    rw [Nat.mod_eq_of_lt (ha i), Nat.mod_eq_of_lt (hb i)] at h4
    exact h4
  · rw [cf_ge (by omega), cf_ge (by omega)]

theorem str_ne {a b : List Nat} (ha : Bs a) (hb : Bs b) (h : a ≠ b) : ((strOf (ints a)).toList == (strOf (ints b)).toList) = false := by
  rw [beq_eq_false_iff_ne, ByteArray.toList_eq, ByteArray.toList_eq]
  exact fun e => h (strOf_inj ha hb e)

theorem Arg.lt {w : World} {v : Value} {g : Nat} {s : List Nat} (h : Arg w v g s) (hs : s ≠ []) : g < w.heap.size := by
  obtain ⟨⟨ao, c, _, _, _, _, h5⟩, _⟩ := h
  exact h5.block_lt hs

theorem Arg.keep {S : List Nat} {w w' : World} {v : Value} {g : Nat} {s : List Nat} (h : Arg w v g s) (k : Kp S w w') (hn : g ∉ S) : Arg w' v g s := by
  obtain ⟨⟨ao, c, h1, h2, h3, h4, h5⟩, hb⟩ := h
  exact ⟨⟨ao, c, h1, h2, h3, h4, h5.keep k hn⟩, hb⟩

theorem Arg.cells {w : World} {ao : Option Addr} {n c g : Nat} {s : List Nat} (h : Arg w (.slice ao n c) g s) (hs : s ≠ []) : ∃ o, ao = some ⟨g, o, none⟩ ∧ ∀ j, j < s.length → w.cell? ⟨g, o + j, none⟩ = some (.int .u8 ((cf s j : Nat) : Int)) := by
  obtain ⟨⟨ao', c', h1, _, _, _, h5⟩, _⟩ := h
  cases h1
  obtain ⟨o, rfl⟩ := row_some h5 (List.length_pos_iff.2 hs)
  exact ⟨o, rfl, fun j hj => row_cell h5 hj⟩

theorem ne_len {s : List Nat} {n : Nat} (h : s.length = n + 1) : s ≠ [] := fun e => by rw [e] at h; simp at h

end Go.Proofs.YtjdikhelabibnabGreat

namespace Go.Proofs.YtjdikhelabibnabGreat
open Go.RowKit Go.Shelf

/-- The bit at place k of a byte. -/
def bt (x k : Nat) : Nat := x / 2 ^ k % 2
theorem bt_le (x k : Nat) : bt x k ≤ 1 := by unfold bt; omega
theorem bt_test (x k : Nat) : bt x k = (x.testBit k).toNat := by
  unfold bt
  rw [Nat.testBit_eq_decide_div_mod_eq]
  rcases Nat.mod_two_eq_zero_or_one (x / 2 ^ k) with h | h <;> simp [h]
theorem bt_xor (x y k : Nat) : bt (x ^^^ y) k = bt x k ^^^ bt y k := by
  rw [bt_test, bt_test, bt_test, Nat.testBit_xor]
  cases x.testBit k <;> cases y.testBit k <;> rfl
theorem bt_ext {x y : Nat} (hx : x < 256) (hy : y < 256) (h : ∀ k, k < 8 → bt x k = bt y k) : x = y := by
  apply Nat.eq_of_testBit_eq
  intro k
  by_cases hk : k < 8
  · have := h k hk
    rw [bt_test, bt_test] at this
    cases h1 : x.testBit k <;> cases h2 : y.testBit k <;> simp [h1, h2] at this <;> rfl
  · rw [Nat.testBit_lt_two_pow (Nat.lt_of_lt_of_le hx (Nat.pow_le_pow_right (n := 2) (by omega) (show 8 ≤ k by omega))), Nat.testBit_lt_two_pow (Nat.lt_of_lt_of_le hy (Nat.pow_le_pow_right (n := 2) (by omega) (show 8 ≤ k by omega)))]

/-- Bit k of the bytes that f tells. -/
def bf (f : Nat → Nat) (k : Nat) : Nat := bt (f (k / 8)) (k % 8)
/-- The places of the ones among the first n bytes. -/
def onF (f : Nat → Nat) (n : Nat) : List Nat := (List.range (8 * n)).filter (fun k => bf f k == 1)

def eight8 : List (Fin 8) := [0, 1, 2, 3, 4, 5, 6, 7]
theorem eight_take : ∀ j : Fin 8, eight8.take (j.val + 1) = eight8.take j.val ++ [j] := by decide
theorem eight_val : eight8.map Fin.val = List.range 8 := by decide

/-- What the first j bits of a byte tell. -/
def hitF (f : Nat → Nat) {N : Nat} (j : Nat) (i : Fin N) : List (Fin N × Fin 8) := ((eight8.take j).filter (fun k => bt (f i.val) k.val == 1)).map (fun k => (i, k))
theorem hitF_zero (f : Nat → Nat) {N : Nat} (i : Fin N) : hitF f 0 i = [] := rfl
theorem hitF_one {f : Nat → Nat} {N j : Nat} {i : Fin N} (hj : j < 8) (h : bt (f i.val) j = 1) : hitF f (j + 1) i = hitF f j i ++ [(i, ⟨j, hj⟩)] := by
  unfold hitF
  rw [eight_take ⟨j, hj⟩, List.filter_append, List.map_append]
  simp [h]
theorem hitF_none {f : Nat → Nat} {N j : Nat} {i : Fin N} (hj : j < 8) (h : bt (f i.val) j = 0) : hitF f (j + 1) i = hitF f j i := by
  unfold hitF
  rw [eight_take ⟨j, hj⟩, List.filter_append, List.map_append]
  simp [h]
theorem hitF_len (f : Nat → Nat) {N : Nat} (j : Nat) (i : Fin N) : (hitF f j i).length ≤ j := by
  unfold hitF
  rw [List.length_map]
  refine Nat.le_trans (List.length_filter_le _ _) ?_
  rw [List.length_take]
  omega
def hitsF (f : Nat → Nat) {N : Nat} (pre : List (Fin N)) : List (Fin N × Fin 8) := pre.flatMap (hitF f 8)
theorem hitsF_nil (f : Nat → Nat) {N : Nat} : hitsF f ([] : List (Fin N)) = [] := rfl
theorem hitsF_snoc (f : Nat → Nat) {N : Nat} (pre : List (Fin N)) (i : Fin N) : hitsF f (pre ++ [i]) = hitsF f pre ++ hitF f 8 i := by simp [hitsF]
theorem hitsF_len (f : Nat → Nat) {N : Nat} (pre : List (Fin N)) : (hitsF f pre).length ≤ 8 * pre.length := by
  induction pre with
  | nil => simp [hitsF]
  | cons x pre ih =>
    have := hitF_len f 8 x
    simp only [hitsF, List.flatMap_cons, List.length_append, List.length_cons] at *
    omega

/-- The place that is told. -/
def pl8 {N : Nat} (x : Fin N × Fin 8) : Nat := 8 * x.1.val + x.2.val
theorem hitF_all (f : Nat → Nat) {N : Nat} (i : Fin N) : (hitF f 8 i).map pl8 = ((List.range 8).map (fun k => 8 * i.val + k)).filter (fun k => bf f k == 1) := by
  unfold hitF
  rw [← eight_val, List.map_map, List.map_map, List.filter_map, show eight8.take 8 = eight8 from rfl]
  refine congrArg _ ?_
  refine List.filter_congr (fun k _ => ?_)
  simp only [Function.comp, bf]
  rw [show (8 * i.val + k.val) / 8 = i.val from by omega, show (8 * i.val + k.val) % 8 = k.val from by omega]
theorem hits_range (f : Nat → Nat) (n : Nat) : (List.range n).flatMap (fun i => ((List.range 8).map (fun k => 8 * i + k)).filter (fun k => bf f k == 1)) = onF f n := by
  induction n with
  | zero => rfl
  | succ n ih =>
    rw [show List.range (n + 1) = List.range n ++ [n] from List.range_succ, List.flatMap_append, ih]
    unfold onF
    rw [show 8 * (n + 1) = 8 * n + 8 from by omega, List.range_add, List.filter_append]
    simp
theorem hitsF_all {f : Nat → Nat} {N : Nat} {pre : List (Fin N)} (h : pre.map Fin.val = List.range N) : (hitsF f pre).map pl8 = onF f N := by
  rw [← hits_range, ← h]
  clear h
  induction pre with
  | nil => rfl
  | cons x pre ih =>
    rw [hitsF, List.flatMap_cons, List.map_append, hitF_all, List.map_cons, List.flatMap_cons]
    exact congrArg _ ih

theorem bit_u8 {x : Nat} (m : Nat) (hx : x < 256) : bits .and .u8 ((x : Int) / 2 ^ m) 1 = ((bt x m : Nat) : Int) := by
  have h := (bits_nat .u8 8 (by decide) wraps_u8 (x / 2 ^ m) 1 (Nat.lt_of_le_of_lt (Nat.div_le_self _ _) hx) (by omega)).1
  rw [Nat.and_one_is_mod] at h
  rw [show (x : Int) / 2 ^ m = ((x / 2 ^ m : Nat) : Int) from by simp]
  exact h
end Go.Proofs.YtjdikhelabibnabGreat
