/-
  
-/
import Derived.Test.YtjdikhelabibnaaGreatMaa
import Derived.Test.YtjdikhelabibnaaGreatMac
import Derived.Test.YtjdikhelabibnaaGreatMae
import Derived.Laws.OwnMore
import Derived.Laws.BytesString
namespace Go.Proofs.YtjdikhelabibnaaGreat
open Go.RowKit Go.Shelf
def ints (s : List Nat) : List Int := s.map (fun n : Nat => (n : Int))
theorem ints_len (s : List Nat) : (ints s).length = s.length := by simp [ints]
theorem ints_getD (s : List Nat) (j : Nat) : (ints s).getD j 0 = ((cf s j : Nat) : Int) := by
 rw [← cf_getD, ints, List.getD_eq_getElem?_getD, List.getD_eq_getElem?_getD, List.getElem?_map]
 cases s[j]? <;> rfl
theorem row_cell {w : World} {g g' o : Nat} {s : List Nat} (hr : Row w (some ⟨g', o, none⟩) g (ints s)) {j : Nat} (hj : j < s.length) : w.cell? ⟨g', o + j, none⟩ = some (.int .u8 ((cf s j : Nat) : Int)) := by
 rcases hr with h | ⟨o', h, hc⟩
 ·rw [← ints_len, h] at hj; simp at hj
 cases h
 rw [hc j (by rw [ints_len]; exact hj), ints_getD]
theorem row_some {w : World} {ao : Option Addr} {g : Nat} {s : List Nat} (hr : Row w ao g (ints s)) (hs : 0 < s.length) : ∃ o, ao = some ⟨g, o, none⟩ := by
 rcases hr with h | ⟨o', h, _⟩
 ·rw [← ints_len, h] at hs; simp at hs
 exact ⟨o', h⟩
theorem Kq.cell {S : List Nat} {n : Nat} {w w' : World} (h : Kq S n w w') {p : Addr} {v : Value} (hc : w.cell? p = some v) (hg : p.block < n) (hn : p.block ∉ S) : w'.cell? p = some v :=
 (World.cell?_of_block (h.block p.block hg hn)).trans hc
theorem Row.below {w w' : World} (h : Below w.heap.size w w') {ao : Option Addr} {g : Nat} {zs : List Int} (hr : Row w ao g zs) : Row w' ao g zs := by
 rcases hr with h0 | ⟨o, rfl, hc⟩
 ·exact .inl h0
 exact .inr ⟨o, rfl, fun j hj => (h.cell (block_lt_of_cell (hc j hj))).trans (hc j hj)⟩
theorem Row.block_lt {w : World} {ao : Option Addr} {g : Nat} {s : List Nat} (hr : Row w ao g (ints s)) (h : s ≠ []) : g < w.heap.size := by
 have hs : 0 < s.length := List.length_pos_iff.2 h
 obtain ⟨o, rfl⟩ := row_some hr hs
 exact block_lt_of_cell (row_cell hr hs)
def Blk (w : World) (g : Nat) (s : List Nat) : Prop := ∃ cur, w.heap[g]? = some (.cells cur 5 (0, 0)) ∧ ∀ j, j < s.length → cur[j]? = some (.int .u8 ((cf s j : Nat) : Int))
theorem Blk.lt {w : World} {g : Nat} {s : List Nat} (h : Blk w g s) : g < w.heap.size := by
 obtain ⟨cur, h, _⟩ := h
 exact lt_of_block h
theorem Blk.cell {w : World} {g : Nat} {s : List Nat} (h : Blk w g s) {j : Nat} (hj : j < s.length) : w.cell? ⟨g, j, none⟩ = some (.int .u8 ((cf s j : Nat) : Int)) := by
 obtain ⟨cur, h, hc⟩ := h
 simp [World.cell?, h, hc j hj]
theorem Blk.free {w : World} {g : Nat} {s : List Nat} (h : Blk w g s) {j : Nat} : w.frozen? ⟨g, j, none⟩ = false := by
 obtain ⟨cur, h, hc⟩ := h
 simp [World.frozen?, h]
theorem Blk.of {w w' : World} {g : Nat} {s : List Nat} (h : Blk w g s) (e : w'.heap[g]? = w.heap[g]?) : Blk w' g s := by
 obtain ⟨cur, h, hc⟩ := h
 exact ⟨cur, e.trans h, hc⟩
theorem Blk.below {w w' : World} {g n : Nat} {s : List Nat} (h : Blk w g s) (k : Below n w w') (hn : g < n) : Blk w' g s := h.of (k.block g hn)
theorem Blk.set {w : World} {g : Nat} {s : List Nat} (h : Blk w g s) (j v : Nat) (hj : j < s.length) : Blk (w.setCell ⟨g, j, none⟩ (.int .u8 (v : Int))) g (s.set j v) := by
 obtain ⟨cur, h, hc⟩ := h
 refine ⟨cur.setIfInBounds j (.int .u8 (v : Int)), heap_setCell_same w g j _ _ _ h, fun i hi => ?_⟩
 rw [List.length_set] at hi
 have hj2 : j < cur.size := by
  have := hc j hj
  exact (Array.getElem?_eq_some_iff.1 this).1
 rw [Array.getElem?_setIfInBounds, cf_set _ _ _ _ hj]
 by_cases e : j = i
 ·subst e; rw [if_pos rfl, if_pos hj2, if_pos rfl]
 rw [if_neg e, if_neg (fun k => e k.symm)]; exact hc i hi
theorem Blk.row {w : World} {g o n : Nat} {s : List Nat} (h : Blk w g s) : Row w (some ⟨g, o, none⟩) g (ints ((s.drop o).take n)) := by
 refine .inr ⟨o, rfl, fun j hj => ?_⟩
 rw [ints_len, List.length_take, List.length_drop] at hj
 rw [h.cell (by omega), ints_getD, cf_take, if_pos (by omega), cf_drop]
theorem kp_kq {S : List Nat} {n : Nat} {w w' : World} (h : Kp S w w') (hn : n ≤ w.heap.size) : Kq S n w w' := ⟨h.size, fun k hk hs => h.block k (by omega) hs⟩
theorem ownFrom_kp {β : Type} {S : List Nat} {B : Nat} {w₀ : World} (hB : w₀.heap.size ≤ B) : OwnFrom B (fun (_ : β) W => Kp S w₀ W) :=
 fun _ _ _ _ hs hg hr => hs.grown hg (fun k e => .inr (Nat.le_trans hB (hr k e).1))
structure Arg (w : World) (v : Value) (g : Nat) (s : List Nat) : Prop where
 ex : ∃ ao c, v = .slice ao s.length c ∧ s.length ≤ c ∧ c ≤ maxLen ∧ (ao = none → c = 0) ∧ Row w ao g (ints s)
 bs : Bs s
theorem Arg.below {w w' : World} {v : Value} {g : Nat} {s : List Nat} (h : Arg w v g s) (k : Below w.heap.size w w') : Arg w' v g s := by
 obtain ⟨⟨ao, c, h1, h2, h3, h4, h5⟩, hb⟩ := h
 exact ⟨⟨ao, c, h1, h2, h3, h4, h5.below k⟩, hb⟩
def Fr (n : Nat) (w : World) (v : Value) (s : List Nat) : Prop :=
 (s = [] ∧ v = .slice none 0 0) ∨ ∃ g c, v = .slice (some ⟨g, 0, none⟩) s.length c ∧ s.length ≤ c ∧ c ≤ maxLen ∧ Blk w g s ∧ n ≤ g
theorem Fr.below {n m : Nat} {w w' : World} {v : Value} {s : List Nat} (h : Fr n w v s) (k : Below w.heap.size w w') (hm : m ≤ n) : Fr m w' v s := by
 rcases h with h | ⟨g, c, h1, h2, h3, h4, h5⟩
 ·exact .inl h
 exact .inr ⟨g, c, h1, h2, h3, h4.below k h4.lt, by omega⟩
theorem Fr.arg {n : Nat} {w : World} {v : Value} {s : List Nat} (h : Fr n w v s) (hb : Bs s) : ∃ g, Arg w v g s ∧ n ≤ g := by
 rcases h with ⟨rfl, rfl⟩ | ⟨g, c, h1, h2, h3, h4, h5⟩
 ·exact ⟨n, ⟨⟨none, 0, rfl, by simp, by simp, fun _ => rfl, .inl rfl⟩, hb⟩, Nat.le_refl _⟩
 refine ⟨g, ⟨⟨some ⟨g, 0, none⟩, c, h1, h2, h3, fun h => by simp at h, ?_⟩, hb⟩, h5⟩
 have := h4.row (o := 0) (n := s.length)
 simpa using this
theorem infoE : (Tryz.prog.info? 5).map (fun i => (i.zero, i.size, i.bytes)) = some (some (.int .u8 0), 1, 1) := by kernel_rfl
theorem owns_fr {w : World} {base : Nat} {v : Value} {n : Nat} {s : List Nat} (h : w.ownsRow base 5 1 v n ((ints s).map (Value.int .u8))) : n = s.length ∧ Fr base w v s := by
 have hl := len_of_owns h
 rw [ints_len] at hl
 refine ⟨hl.symm, ?_⟩
 rcases h.2 with ⟨h', h0⟩ | ⟨g, cap, cur, rfl, hb, hg, h1, h2, h3, h4⟩
 ·left
  subst h0
  exact ⟨List.eq_nil_of_length_eq_zero hl, h'⟩
 right
 refine ⟨g, cap, by rw [hl], by omega, h2, ⟨cur, hg, fun j hj => ?_⟩, hb⟩
 have e : (cur.toList.take (n * 1))[j]? = ((ints s).map (Value.int .u8))[j]? := by rw [h4]
 rw [List.getElem?_take, if_pos (by omega), Array.getElem?_toList] at e
 rw [e, List.getElem?_map, ints, List.getElem?_map, cf_get hj]
 rfl
theorem made_zeros (m : Nat) : madeCells (Value.cells (.int .u8 0)) (m * 1) = (List.replicate m (Value.int .u8 0)).toArray := by
 apply Array.ext'
 apply List.ext_getElem?
 intro j
 by_cases hj : j < m
 ·simp [madeCells, Value.cells, hj, Nat.mod_one]
 simp [madeCells, Value.cells, hj]
theorem run_zeros (m : Nat) (hm : m ≤ 1000000) (w : World) : (Instr.makeSlice 47 (.int .i64 (m : Int)) (.int .i64 (m : Int))).run Tryz.prog w = .ok (.slice (some ⟨w.heap.size, 0, none⟩) m m) (w.alloc (.cells (List.replicate m (Value.int .u8 0)).toArray 5)) := by
 obtain ⟨i0, hi0, hz0, hz1, hz2⟩ := info_parts infoE
 have h := run_make (P := Tryz.prog) w 47 5 i0 (.int .u8 0) Tryz.underlying47 hi0 hz0 .i64 .i64 m m (by omega) (by omega) (by rw [hz2]; omega) (by omega)
 rw [hz1, Int.toNat_natCast, made_zeros] at h
 exact h
theorem blk_zeros (m : Nat) (w : World) : Blk (w.alloc (.cells (List.replicate m (Value.int .u8 0)).toArray 5)) w.heap.size (List.replicate m 0) := by
 refine ⟨_, World.alloc_heap_new w _, fun j hj => ?_⟩
 rw [List.length_replicate] at hj
 rw [cf_zeros]
 simp [hj]
theorem Fr.blk {n : Nat} {w : World} {v : Value} {s : List Nat} (h : Fr n w v s) (hs : s ≠ []) : ∃ g c, v = .slice (some ⟨g, 0, none⟩) s.length c ∧ s.length ≤ c ∧ c ≤ maxLen ∧ Blk w g s ∧ n ≤ g := by
 rcases h with ⟨h0, _⟩ | h
 ·exact absurd h0 hs
 exact h
theorem Blk.arg {w : World} {g c : Nat} {s : List Nat} (h : Blk w g s) (hb : Bs s) (h1 : s.length ≤ c) (h2 : c ≤ maxLen) : Arg w (.slice (some ⟨g, 0, none⟩) s.length c) g s := by
 refine ⟨⟨some ⟨g, 0, none⟩, c, rfl, h1, h2, fun h => by simp at h, ?_⟩, hb⟩
 have := h.row (o := 0) (n := s.length)
 simpa using this
def strOf (zs : List Int) : ByteArray := zs.foldl (fun r n => r.push (UInt8.ofNat n.toNat)) ByteArray.empty
theorem run_conv (w : World) (ao : Option Addr) (g n c : Nat) (zs : List Int) (hl : zs.length = n) (hr : Row w ao g zs) :
  (convert 47 9 (.slice ao n c)).run Tryz.prog w = .ok (.string (strOf zs)) w := by
 rw [run_convert_bytes_string w 47 9 5 ao n c Tryz.underlying47 Tryz.underlying5 Tryz.underlying9]
 cases ao with
 | none =>
  have h0 : zs = [] := by
   rcases hr with h | ⟨o, h, _⟩
   ·exact h
   cases h
  subst h0
  simp [Conv.bytesToString, strOf, Sem.run_pure]
 | some ad =>
  refine run_bytesToString w ad n c zs ?_
  have := run_loadCells_list (P := Tryz.prog) w ad (zs.map (Value.int .u8)) (fun j v hv => by
   obtain ⟨hj, hv⟩ := List.getElem?_eq_some_iff.1 hv
   simp only [List.length_map] at hj
   rcases hr with rfl | ⟨o, ho, hc⟩
   ·simp at hj
   cases ho
   rw [Addr.add_lit, hc j hj]
   simp [← hv, List.getD_eq_getElem?_getD, hj])
  rw [List.length_map, hl] at this
  exact this
theorem conv_arg {w : World} {ao : Option Addr} {n c g : Nat} {s : List Nat} (h : Arg w (.slice ao n c) g s) : (convert 47 9 (.slice ao n c)).run Tryz.prog w = .ok (.string (strOf (ints s))) w := by
 obtain ⟨⟨ao', c', h1, h2, h3, h4, h5⟩, _⟩ := h
 cases h1
 exact run_conv w ao g s.length c (ints s) (ints_len s) h5
def nats (zs : List Int) : List Nat := zs.map Int.toNat
theorem ints_nats {zs : List Int} (h : Byt zs) : ints (nats zs) = zs := by
 unfold ints nats
 rw [List.map_map]
 conv => rhs; rw [← List.map_id zs]
 refine List.map_congr_left (fun z hz => ?_)
 have := h z hz
 simp only [Function.comp, id]
 omega
theorem nats_bs {zs : List Int} (h : Byt zs) : Bs (nats zs) := Bs.of (fun x hx => by
 obtain ⟨z, hz, rfl⟩ := List.mem_map.1 hx
 have := h z hz
 omega)
theorem arg_in {w : World} {ao : Option Addr} {g len cap : Nat} {zs : List Int} (l : zs.length = len) (r : Row w ao g zs) (b : Byt zs) (c : len ≤ cap) (n : ao = none → len = 0 ∧ cap = 0) (m : cap ≤ maxLen) : Arg w (.slice ao len cap) g (nats zs) := by
 have hl : (nats zs).length = len := by simp [nats, l]
 refine ⟨⟨ao, cap, by rw [hl], by omega, m, fun h => (n h).2, ?_⟩, nats_bs b⟩
 rw [ints_nats b]
 exact r
structure IArg (w : World) (v : Value) (g : Nat) (l : List Nat) : Prop where
 ex : ∃ ao c, v = .slice ao l.length c ∧ l.length ≤ c ∧ c ≤ maxLen ∧ (ao = none → c = 0) ∧ IRow w ao g (ints l)
theorem IRow.below {w w' : World} (h : Below w.heap.size w w') {ao : Option Addr} {g : Nat} {zs : List Int} (hr : IRow w ao g zs) : IRow w' ao g zs := by
 rcases hr with h0 | ⟨o, rfl, hc⟩
 ·exact .inl h0
 exact .inr ⟨o, rfl, fun j hj => (h.cell (block_lt_of_cell (hc j hj))).trans (hc j hj)⟩
theorem wrap_u8 (z : Int) : IntKind.u8.wrap z = z % 256 := by
 simp [IntKind.wrap, IntKind.bits, IntKind.signed]
theorem strOf_data (zs : List Int) (r : ByteArray) : (zs.foldl (fun r n => r.push (UInt8.ofNat n.toNat)) r).data.toList = r.data.toList ++ zs.map (fun n => UInt8.ofNat n.toNat) := by
 induction zs generalizing r with
 | nil => simp
 | cons z zs ih =>
  rw [List.foldl_cons, ih]
  simp [ByteArray.push]
theorem strOf_inj {a b : List Nat} (ha : Bs a) (hb : Bs b) (h : (strOf (ints a)).data.toList = (strOf (ints b)).data.toList) : a = b := by
 simp only [strOf, strOf_data] at h
 have h2 : (ints a).map (fun n => UInt8.ofNat n.toNat) = (ints b).map (fun n => UInt8.ofNat n.toNat) := by simpa using h
 simp only [ints, List.map_map] at h2
 have hl : a.length = b.length := by have := congrArg List.length h2; simpa using this
 refine eq_of_cf hl (fun i => ?_)
 by_cases hi : i < a.length
 ·have h3 := congrArg (fun l : List UInt8 => l[i]?) h2
  simp only [List.getElem?_map, cf_get hi, cf_get (hl ▸ hi), Option.map_some, Option.some.injEq, Function.comp, Int.toNat_natCast] at h3
  have h4 := congrArg UInt8.toNat h3
  simp only [UInt8.toNat_ofNat'] at h4
  rw [Nat.mod_eq_of_lt (ha i), Nat.mod_eq_of_lt (hb i)] at h4
  exact h4
 rw [cf_ge (by omega), cf_ge (by omega)]
theorem str_ne {a b : List Nat} (ha : Bs a) (hb : Bs b) (h : a ≠ b) : ((strOf (ints a)).toList == (strOf (ints b)).toList) = false := by
 rw [beq_eq_false_iff_ne, ByteArray.toList_eq, ByteArray.toList_eq]
 exact fun e => h (strOf_inj ha hb e)
theorem Arg.lt {w : World} {v : Value} {g : Nat} {s : List Nat} (h : Arg w v g s) (hs : s ≠ []) : g < w.heap.size := by
 obtain ⟨⟨ao, c, _, _, _, _, h5⟩, _⟩ := h
 exact h5.block_lt hs
theorem Arg.cells {w : World} {ao : Option Addr} {n c g : Nat} {s : List Nat} (h : Arg w (.slice ao n c) g s) (hs : s ≠ []) : ∃ o, ao = some ⟨g, o, none⟩ ∧ ∀ j, j < s.length → w.cell? ⟨g, o + j, none⟩ = some (.int .u8 ((cf s j : Nat) : Int)) := by
 obtain ⟨⟨ao', c', h1, _, _, _, h5⟩, _⟩ := h
 cases h1
 obtain ⟨o, rfl⟩ := row_some h5 (List.length_pos_iff.2 hs)
 exact ⟨o, rfl, fun j hj => row_cell h5 hj⟩
end Go.Proofs.YtjdikhelabibnaaGreat
