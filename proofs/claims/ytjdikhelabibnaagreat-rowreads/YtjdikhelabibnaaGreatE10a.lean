/-
  Slots and heads as values (api.Entry, api.Head), in memory, compared.
-/
import Derived.Test.YtjdikhelabibnaaGreatK9a
import Derived.Deep.MidRow
namespace Go.Proofs.YtjdikhelabibnaaGreat
open Go.RowKit Go.Shelf

/-- Bytes as cells. -/
def datL (d : List Nat) : List Value := (ints d).map (Value.int .u8)
/-- A slot's cells. -/
def entA (k l s : Int) (d : List Nat) : Array Value := (.int .i64 k :: .int .i64 l :: .int .i64 s :: datL d).toArray
theorem datL_len (d : List Nat) : (datL d).length = d.length := by simp [datL, ints]
theorem entA_size {k l s : Int} {d : List Nat} (h : d.length = 16) : (entA k l s d).size = 19 := by simp [entA, datL_len, h]
theorem entA_0 (k l s : Int) (d : List Nat) : (entA k l s d)[0]? = some (.int .i64 k) := rfl
theorem entA_1 (k l s : Int) (d : List Nat) : (entA k l s d)[1]? = some (.int .i64 l) := rfl
theorem entA_2 (k l s : Int) (d : List Nat) : (entA k l s d)[2]? = some (.int .i64 s) := rfl
theorem entA_d (k l s : Int) (d : List Nat) (j : Nat) : (entA k l s d)[3 + j]? = (datL d)[j]? := by
  rw [show 3 + j = j + 1 + 1 + 1 from by omega]
  simp [entA]
theorem datL_get {d : List Nat} {j : Nat} (h : j < d.length) : (datL d)[j]? = some (.int .u8 ((cf d j : Nat) : Int)) := by
  unfold datL
  rw [List.getElem?_map, ints, List.getElem?_map, cf_get h]
  rfl
theorem sizeTE : (Tryz.prog.info? 44).map (·.size) = some 19 := by kernel_rfl
theorem sizeTD : (Tryz.prog.info? 42).map (·.size) = some 16 := by kernel_rfl

/-- At block b lies a slot. -/
structure EntAt (w : World) (b : Nat) (k l s : Int) (d : List Nat) : Prop where
  blk : w.heap[b]? = some (.cells (entA k l s d) 44 (0, 0))
section
variable {w w' : World} {b : Nat} {k l s : Int} {d : List Nat}
theorem EntAt.below (h : EntAt w b k l s d) (k' : Below w.heap.size w w') : EntAt w' b k l s d := ⟨(k'.block b (lt_of_block h.blk)).trans h.blk⟩
theorem EntAt.lt (h : EntAt w b k l s d) : b < w.heap.size := lt_of_block h.blk
theorem EntAt.c0 (h : EntAt w b k l s d) : w.cell? ⟨b, 0, none⟩ = some (.int .i64 k) := cell_blk h.blk (entA_0 k l s d)
theorem EntAt.c1 (h : EntAt w b k l s d) : w.cell? ⟨b, 1, none⟩ = some (.int .i64 l) := cell_blk h.blk (entA_1 k l s d)
theorem EntAt.c2 (h : EntAt w b k l s d) : w.cell? ⟨b, 2, none⟩ = some (.int .i64 s) := cell_blk h.blk (entA_2 k l s d)
theorem EntAt.range (h : EntAt w b k l s d) : w.rangeAt b 3 (datL d) := fun j _ hv => cell_blk h.blk ((entA_d k l s d j).trans hv)
theorem EntAt.load (h : EntAt w b k l s d) (hd : d.length = 16) : (loadVar 44 ⟨b, 0, none⟩).run Tryz.prog w = .ok (.agg (entA k l s d)) w :=
  run_loadVar_row w b 44 44 _ (0, 0) _ h.blk Tryz.underlying44 rfl (by rw [sizeTE, entA_size hd])
theorem EntAt.data (h : EntAt w b k l s d) (hd : d.length = 16) : (loadVar 42 ⟨b, 3, none⟩).run Tryz.prog w = .ok (.agg (datL d).toArray) w :=
  run_loadVar_mid w b 3 42 (datL d) _ h.range Tryz.underlying42 rfl (by rw [sizeTD, datL_len, hd])
theorem EntAt.new (w : World) (k l s : Int) (d : List Nat) : ∃ W, w.alloc (.cells (entA k l s d) 44) = W ∧ EntAt W w.heap.size k l s d ∧ Below w.heap.size w W := ⟨_, rfl, ⟨World.alloc_heap_new w _⟩, (Below.refl _ _).alloc (Nat.le_refl _) _⟩
end

/-- Sixteen of them. -/
theorem len16 {d : List Nat} (h : d.length = 16) : ∃ a0 a1 a2 a3 a4 a5 a6 a7 a8 a9 a10 a11 a12 a13 a14 a15, d = [a0, a1, a2, a3, a4, a5, a6, a7, a8, a9, a10, a11, a12, a13, a14, a15] := by
  match d, h with
  | [a0, a1, a2, a3, a4, a5, a6, a7, a8, a9, a10, a11, a12, a13, a14, a15], _ => exact ⟨a0, a1, a2, a3, a4, a5, a6, a7, a8, a9, a10, a11, a12, a13, a14, a15, rfl⟩
theorem ifc10 {w : World} {a b : Nat} {X : Result Bool} {r : Bool} (h : X = .ok r w) : (if (a : Int) = (b : Int) then X else .ok false w) = .ok (decide (a = b) && r) w := by
  by_cases e : a = b
  · subst e; rw [if_pos rfl, h]; simp
  · rw [if_neg (by omega)]; simp [e]
theorem ifc10' {w : World} {a b : Nat} : (if (a : Int) = (b : Int) then (.ok true w : Result Bool) else .ok false w) = .ok (decide (a = b)) w := by
  by_cases e : a = b
  · subst e; rw [if_pos rfl]; simp
  · rw [if_neg (by omega)]; simp [e]
set_option maxRecDepth 100000 in
set_option maxHeartbeats 8000000 in
theorem eqTD_in (d d' : List Nat) (h : d.length = 16) (h' : d'.length = 16) (n : Nat) (w : World) : (Op.equalIn (n + 2) 42 (.agg (datL d).toArray) (.agg (datL d').toArray)).run Tryz.prog w = .ok (decide (d = d')) w := by
  obtain ⟨a0, a1, a2, a3, a4, a5, a6, a7, a8, a9, a10, a11, a12, a13, a14, a15, rfl⟩ := len16 h
  obtain ⟨b0, b1, b2, b3, b4, b5, b6, b7, b8, b9, b10, b11, b12, b13, b14, b15, rfl⟩ := len16 h'
  have u3 := Tryz.underlying5
  have a3 := Tryz.isAgg5
  have z3 := Tryz.sizeOf5
  simp only [datL, ints, List.map_cons, List.map_nil]
  rw [show n + 2 = (n + 1) + 1 from rfl, Op.equalIn]
  simp only [Sem.run_bind, run_underlying Tryz.underlying42, Result.andThen_ok]
  simp only [Std.Legacy.Range.forIn_eq_forIn_range', Std.Legacy.Range.size, Nat.sub_zero, Nat.add_sub_cancel, Nat.div_one, List.range'_succ, List.range'_zero, List.forIn_cons, List.forIn_nil]
  go_simp
  exact ifc10 (ifc10 (ifc10 (ifc10 (ifc10 (ifc10 (ifc10 (ifc10 (ifc10 (ifc10 (ifc10 (ifc10 (ifc10 (ifc10 (ifc10 ifc10'))))))))))))))
theorem neTD (d d' : List Nat) (h : d.length = 16) (h' : d'.length = 16) (r : Bool) (hr : (!decide (d = d')) = r) (w : World) : (binOp .neq 42 (.agg (datL d).toArray) (.agg (datL d').toArray)).run Tryz.prog w = .ok (.bool r) w := by
  simp [binOp, Op.equal, Op.maxDepth, eqTD_in d d' h h' 9998, hr]
theorem part_TD (k l s : Int) (d : List Nat) (h : d.length = 16) (w : World) : (part 42 (entA k l s d) 3).run Tryz.prog w = .ok (.agg (datL d).toArray) w := by
  obtain ⟨a0, a1, a2, a3, a4, a5, a6, a7, a8, a9, a10, a11, a12, a13, a14, a15, rfl⟩ := len16 h
  simp only [entA, datL, ints, List.map_cons, List.map_nil]
  have u3 := Tryz.isAgg42
  have z3 := Tryz.sizeOf42
  go_simp
theorem part_I (k l s : Int) (d : List Nat) (w : World) : (part 3 (entA k l s d) 0).run Tryz.prog w = .ok (.int .i64 k) w ∧ (part 3 (entA k l s d) 1).run Tryz.prog w = .ok (.int .i64 l) w ∧ (part 3 (entA k l s d) 2).run Tryz.prog w = .ok (.int .i64 s) w := by
  have u3 := Tryz.isAgg3
  have z3 := Tryz.sizeOf3
  refine ⟨?_, ?_, ?_⟩ <;> (simp only [entA]; go_simp)
theorem eqF10 (n : Nat) (k l s k' l' s' : Int) (d d' : List Nat) (h : d.length = 16) (h' : d'.length = 16) (w : World) (f0 f1 f2 f3 : Field) (g0 : f0.name ≠ "_") (g1 : f1.name ≠ "_") (g2 : f2.name ≠ "_") (g3 : f3.name ≠ "_")
    (t0 : f0.type = 3 ∧ f0.offset = 0) (t1 : f1.type = 3 ∧ f1.offset = 1) (t2 : f2.type = 3 ∧ f2.offset = 2) (t3 : f3.type = 42 ∧ f3.offset = 3)
    (e0 : ∀ x y : Int, (Op.equalIn n 3 (.int .i64 x) (.int .i64 y)).run Tryz.prog w = .ok (x == y) w) (e1 : (Op.equalIn n 42 (.agg (datL d).toArray) (.agg (datL d').toArray)).run Tryz.prog w = .ok (decide (d = d')) w) :
    (Op.eqFields n (entA k l s d) (entA k' l' s' d') [f0, f1, f2, f3]).run Tryz.prog w = .ok (decide (k = k') && (decide (l = l') && (decide (s = s') && decide (d = d')))) w := by
  have p0 := part_I k l s d w
  have p1 := part_I k' l' s' d' w
  have p2 := part_TD k l s d h w
  have p3 := part_TD k' l' s' d' h' w
  simp only [Op.eqFields, if_pos g0, if_pos g1, if_pos g2, if_pos g3, t0.1, t0.2, t1.1, t1.2, t2.1, t2.2, t3.1, t3.2, Sem.run_bind, p0.1, p0.2.1, p0.2.2, p1.1, p1.2.1, p1.2.2, p2, p3, e0, e1, Result.andThen_ok, Sem.run_ite, Sem.run_pure]
  by_cases h1 : k = k'
  · by_cases h2 : l = l'
    · by_cases h3 : s = s'
      · by_cases h4 : d = d' <;> simp [h1, h2, h3, h4]
      · simp [h1, h2, h3]
    · simp [h1, h2]
  · simp [h1]
set_option maxRecDepth 100000 in
set_option maxHeartbeats 4000000 in
theorem eqTE_in (k l s k' l' s' : Int) (d d' : List Nat) (h : d.length = 16) (h' : d'.length = 16) (w : World) : (Op.equalIn 10000 44 (.agg (entA k l s d)) (.agg (entA k' l' s' d'))).run Tryz.prog w = .ok (decide (k = k') && (decide (l = l') && (decide (s = s') && decide (d = d')))) w := by
  have hS : Tryz.prog.underlying 44 = some (.struct (Tryz.prog.fieldsOf 44)) := by kernel_rfl
  have hp : Tryz.prog.stoodInHeld 44 = false := by kernel_rfl
  rw [show (10000 : Nat) = 9999 + 1 from rfl, run_equalIn_struct w 9999 44 _ _ hS hp]
  simp only [Program.fieldsOf, Tryz.underlying44]
  exact eqF10 9999 k l s k' l' s' d d' h h' w _ _ _ _ (by decide) (by decide) (by decide) (by decide) ⟨rfl, rfl⟩ ⟨rfl, rfl⟩ ⟨rfl, rfl⟩ ⟨rfl, rfl⟩ (fun x y => run_equalIn_int (P := Tryz.prog) w 9998 3 .i64 .i64 x y Tryz.underlying3) (eqTD_in d d' h h' 9997 w)
theorem eqTE (k l s k' l' s' : Int) (d d' : List Nat) (h : d.length = 16) (h' : d'.length = 16) (r : Bool) (hr : (decide (k = k') && (decide (l = l') && (decide (s = s') && decide (d = d')))) = r) (w : World) : (binOp .eql 44 (.agg (entA k l s d)) (.agg (entA k' l' s' d'))).run Tryz.prog w = .ok (.bool r) w := by
  simp [binOp, Op.equal, Op.maxDepth, eqTE_in k l s k' l' s' d d' h h', hr]
theorem neTE (k l s k' l' s' : Int) (d d' : List Nat) (h : d.length = 16) (h' : d'.length = 16) (r : Bool) (hr : (!(decide (k = k') && (decide (l = l') && (decide (s = s') && decide (d = d'))))) = r) (w : World) : (binOp .neq 44 (.agg (entA k l s d)) (.agg (entA k' l' s' d'))).run Tryz.prog w = .ok (.bool r) w := by
  simp [binOp, Op.equal, Op.maxDepth, eqTE_in k l s k' l' s' d d' h h', ← hr]

/-- A head's cells. -/
def headA (a b c e : Int) : Array Value := #[.int .i64 a, .int .i64 b, .int .i64 c, .int .i64 e]
set_option maxRecDepth 100000 in
theorem eqTH_in (a b c e a' b' c' e' : Int) (w : World) : (Op.equalIn 10000 57 (.agg (headA a b c e)) (.agg (headA a' b' c' e'))).run Tryz.prog w = .ok (decide (a = a') && (decide (b = b') && (decide (c = c') && decide (e = e')))) w := by
  have hS : Tryz.prog.underlying 57 = some (.struct (Tryz.prog.fieldsOf 57)) := by kernel_rfl
  have hp : Tryz.prog.stoodInHeld 57 = false := by kernel_rfl
  have u3 := Tryz.underlying3
  have a3 := Tryz.isAgg3
  have z3 := Tryz.sizeOf3
  rw [show (10000 : Nat) = 9999 + 1 from rfl, run_equalIn_struct w 9999 57 _ _ hS hp]
  simp only [Program.fieldsOf, Tryz.underlying57, headA]
  go_simp
  by_cases h1 : a = a'
  · by_cases h2 : b = b'
    · by_cases h3 : c = c'
      · by_cases h4 : e = e' <;> simp [h1, h2, h3, h4]
      · simp [h1, h2, h3]
    · simp [h1, h2]
  · simp [h1]
theorem eqTH (a b c e a' b' c' e' : Int) (r : Bool) (hr : (decide (a = a') && (decide (b = b') && (decide (c = c') && decide (e = e')))) = r) (w : World) : (binOp .eql 57 (.agg (headA a b c e)) (.agg (headA a' b' c' e'))).run Tryz.prog w = .ok (.bool r) w := by
  simp [binOp, Op.equal, Op.maxDepth, eqTH_in, hr]
theorem neTH (a b c e a' b' c' e' : Int) (r : Bool) (hr : (!(decide (a = a') && (decide (b = b') && (decide (c = c') && decide (e = e'))))) = r) (w : World) : (binOp .neq 57 (.agg (headA a b c e)) (.agg (headA a' b' c' e'))).run Tryz.prog w = .ok (.bool r) w := by
  simp [binOp, Op.equal, Op.maxDepth, eqTH_in, ← hr]
end Go.Proofs.YtjdikhelabibnaaGreat
