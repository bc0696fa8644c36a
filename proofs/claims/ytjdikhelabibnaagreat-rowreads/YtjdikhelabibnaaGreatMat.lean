/-
  
-/
import Derived.Test.YtjdikhelabibnaaGreatMah
import Derived.Deep.MidRow
namespace Go.Proofs.YtjdikhelabibnaaGreat
open Go.RowKit Go.Shelf
def datL (d : List Nat) : List Value := (ints d).map (Value.int .u8)
def entA (k l s : Int) (d : List Nat) : Array Value := (.int .i64 k :: .int .i64 l :: .int .i64 s :: datL d).toArray
theorem datL_len (d : List Nat) : (datL d).length = d.length := by simp [datL, ints]
theorem entA_size {k l s : Int} {d : List Nat} (h : d.length = 16) : (entA k l s d).size = 19 := by simp [entA, datL_len, h]
theorem entA_0 (k l s : Int) (d : List Nat) : (entA k l s d)[0]? = some (.int .i64 k) := rfl
theorem entA_1 (k l s : Int) (d : List Nat) : (entA k l s d)[1]? = some (.int .i64 l) := rfl
theorem entA_2 (k l s : Int) (d : List Nat) : (entA k l s d)[2]? = some (.int .i64 s) := rfl
theorem entA_d (k l s : Int) (d : List Nat) (j : Nat) : (entA k l s d)[3 + j]? = (datL d)[j]? := by
 rw [show 3 + j = j + 1 + 1 + 1 from by omega]
 simp [entA]
theorem datL_get {d : List Nat} {j : Nat} (h : j < d.length) : (datL d)[j]? = some (.int .u8 ((cf d j : Nat) : Int)) := by
 unfold datL
 rw [List.getElem?_map, ints, List.getElem?_map, cf_get h]
 rfl
theorem sizeTE : (Tryz.prog.info? 44).map (·.size) = some 19 := by kernel_rfl
theorem sizeTD : (Tryz.prog.info? 42).map (·.size) = some 16 := by kernel_rfl
structure EntAt (w : World) (b : Nat) (k l s : Int) (d : List Nat) : Prop where
 blk : w.heap[b]? = some (.cells (entA k l s d) 44 (0, 0))
section
variable {w w' : World} {b : Nat} {k l s : Int} {d : List Nat}
theorem EntAt.below (h : EntAt w b k l s d) (k' : Below w.heap.size w w') : EntAt w' b k l s d := ⟨(k'.block b (lt_of_block h.blk)).trans h.blk⟩
theorem EntAt.lt (h : EntAt w b k l s d) : b < w.heap.size := lt_of_block h.blk
theorem EntAt.c0 (h : EntAt w b k l s d) : w.cell? ⟨b, 0, none⟩ = some (.int .i64 k) := cell_blk h.blk (entA_0 k l s d)
theorem EntAt.c1 (h : EntAt w b k l s d) : w.cell? ⟨b, 1, none⟩ = some (.int .i64 l) := cell_blk h.blk (entA_1 k l s d)
theorem EntAt.c2 (h : EntAt w b k l s d) : w.cell? ⟨b, 2, none⟩ = some (.int .i64 s) := cell_blk h.blk (entA_2 k l s d)
theorem EntAt.range (h : EntAt w b k l s d) : w.rangeAt b 3 (datL d) := fun j _ hv => cell_blk h.blk ((entA_d k l s d j).trans hv)
theorem EntAt.data (h : EntAt w b k l s d) (hd : d.length = 16) : (loadVar 42 ⟨b, 3, none⟩).run Tryz.prog w = .ok (.agg (datL d).toArray) w :=
 run_loadVar_mid w b 3 42 (datL d) _ h.range Tryz.underlying42 rfl (by rw [sizeTD, datL_len, hd])
theorem EntAt.new (w : World) (k l s : Int) (d : List Nat) : ∃ W, w.alloc (.cells (entA k l s d) 44) = W ∧ EntAt W w.heap.size k l s d ∧ Below w.heap.size w W := ⟨_, rfl, ⟨World.alloc_heap_new w _⟩, (Below.refl _ _).alloc (Nat.le_refl _) _⟩
end
theorem len16 {d : List Nat} (h : d.length = 16) : ∃ a0 a1 a2 a3 a4 a5 a6 a7 a8 a9 a10 a11 a12 a13 a14 a15, d = [a0, a1, a2, a3, a4, a5, a6, a7, a8, a9, a10, a11, a12, a13, a14, a15] := by
 match d, h with
 | [a0, a1, a2, a3, a4, a5, a6, a7, a8, a9, a10, a11, a12, a13, a14, a15], _ => exact ⟨a0, a1, a2, a3, a4, a5, a6, a7, a8, a9, a10, a11, a12, a13, a14, a15, rfl⟩
theorem ifc10 {w : World} {a b : Nat} {X : Result Bool} {r : Bool} (h : X = .ok r w) : (if (a : Int) = (b : Int) then X else .ok false w) = .ok (decide (a = b) && r) w := by
 by_cases e : a = b
 ·subst e; rw [if_pos rfl, h]; simp
 rw [if_neg (by omega)]; simp [e]
theorem ifc10' {w : World} {a b : Nat} : (if (a : Int) = (b : Int) then (.ok true w : Result Bool) else .ok false w) = .ok (decide (a = b)) w := by
 by_cases e : a = b
 ·subst e; rw [if_pos rfl]; simp
 rw [if_neg (by omega)]; simp [e]
set_option maxRecDepth 100000 in
set_option maxHeartbeats 8000000 in
theorem eqTD_in (d d' : List Nat) (h : d.length = 16) (h' : d'.length = 16) (n : Nat) (w : World) : (Op.equalIn (n + 2) 42 (.agg (datL d).toArray) (.agg (datL d').toArray)).run Tryz.prog w = .ok (decide (d = d')) w := by
 obtain ⟨a0, a1, a2, a3, a4, a5, a6, a7, a8, a9, a10, a11, a12, a13, a14, a15, rfl⟩ := len16 h
 obtain ⟨b0, b1, b2, b3, b4, b5, b6, b7, b8, b9, b10, b11, b12, b13, b14, b15, rfl⟩ := len16 h'
 have u3 := Tryz.underlying5
 have a3 := Tryz.isAgg5
 have z3 := Tryz.sizeOf5
 simp only [datL, ints, List.map_cons, List.map_nil]
 rw [show n + 2 = (n + 1) + 1 from rfl, Op.equalIn]
 simp only [Sem.run_bind, run_underlying Tryz.underlying42, Result.andThen_ok]
 simp only [Std.Legacy.Range.forIn_eq_forIn_range', Std.Legacy.Range.size, Nat.sub_zero, Nat.add_sub_cancel, Nat.div_one, List.range'_succ, List.range'_zero, List.forIn_cons, List.forIn_nil]
 go_simp
 exact ifc10 (ifc10 (ifc10 (ifc10 (ifc10 (ifc10 (ifc10 (ifc10 (ifc10 (ifc10 (ifc10 (ifc10 (ifc10 (ifc10 (ifc10 ifc10'))))))))))))))
theorem neTD (d d' : List Nat) (h : d.length = 16) (h' : d'.length = 16) (r : Bool) (hr : (!decide (d = d')) = r) (w : World) : (binOp .neq 42 (.agg (datL d).toArray) (.agg (datL d').toArray)).run Tryz.prog w = .ok (.bool r) w := by
 simp [binOp, Op.equal, Op.maxDepth, eqTD_in d d' h h' 9998, hr]
theorem part_TD (k l s : Int) (d : List Nat) (h : d.length = 16) (w : World) : (part 42 (entA k l s d) 3).run Tryz.prog w = .ok (.agg (datL d).toArray) w := by
 obtain ⟨a0, a1, a2, a3, a4, a5, a6, a7, a8, a9, a10, a11, a12, a13, a14, a15, rfl⟩ := len16 h
 simp only [entA, datL, ints, List.map_cons, List.map_nil]
 have u3 := Tryz.isAgg42
 have z3 := Tryz.sizeOf42
 go_simp
theorem part_I (k l s : Int) (d : List Nat) (w : World) : (part 3 (entA k l s d) 0).run Tryz.prog w = .ok (.int .i64 k) w ∧ (part 3 (entA k l s d) 1).run Tryz.prog w = .ok (.int .i64 l) w ∧ (part 3 (entA k l s d) 2).run Tryz.prog w = .ok (.int .i64 s) w := by
 have u3 := Tryz.isAgg3
 have z3 := Tryz.sizeOf3
 refine ⟨?_, ?_, ?_⟩ <;> (simp only [entA]; go_simp)
theorem eqF10 (n : Nat) (k l s k' l' s' : Int) (d d' : List Nat) (h : d.length = 16) (h' : d'.length = 16) (w : World) (f0 f1 f2 f3 : Field) (g0 : f0.name ≠ "_") (g1 : f1.name ≠ "_") (g2 : f2.name ≠ "_") (g3 : f3.name ≠ "_")
  (t0 : f0.type = 3 ∧ f0.offset = 0) (t1 : f1.type = 3 ∧ f1.offset = 1) (t2 : f2.type = 3 ∧ f2.offset = 2) (t3 : f3.type = 42 ∧ f3.offset = 3)
  (e0 : ∀ x y : Int, (Op.equalIn n 3 (.int .i64 x) (.int .i64 y)).run Tryz.prog w = .ok (x == y) w) (e1 : (Op.equalIn n 42 (.agg (datL d).toArray) (.agg (datL d').toArray)).run Tryz.prog w = .ok (decide (d = d')) w) :
  (Op.eqFields n (entA k l s d) (entA k' l' s' d') [f0, f1, f2, f3]).run Tryz.prog w = .ok (decide (k = k') && (decide (l = l') && (decide (s = s') && decide (d = d')))) w := by
 have p0 := part_I k l s d w
 have p1 := part_I k' l' s' d' w
 have p2 := part_TD k l s d h w
 have p3 := part_TD k' l' s' d' h' w
 simp only [Op.eqFields, if_pos g0, if_pos g1, if_pos g2, if_pos g3, t0.1, t0.2, t1.1, t1.2, t2.1, t2.2, t3.1, t3.2, Sem.run_bind, p0.1, p0.2.1, p0.2.2, p1.1, p1.2.1, p1.2.2, p2, p3, e0, e1, Result.andThen_ok, Sem.run_ite, Sem.run_pure]
 by_cases h1 : k = k'
 ·by_cases h2 : l = l'
  ·by_cases h3 : s = s'
   ·by_cases h4 : d = d' <;> simp [h1, h2, h3, h4]
   simp [h1, h2, h3]
  simp [h1, h2]
 simp [h1]
set_option maxRecDepth 100000 in
set_option maxHeartbeats 4000000 in
theorem eqTE_in (k l s k' l' s' : Int) (d d' : List Nat) (h : d.length = 16) (h' : d'.length = 16) (w : World) : (Op.equalIn 10000 44 (.agg (entA k l s d)) (.agg (entA k' l' s' d'))).run Tryz.prog w = .ok (decide (k = k') && (decide (l = l') && (decide (s = s') && decide (d = d')))) w := by
 have hS : Tryz.prog.underlying 44 = some (.struct (Tryz.prog.fieldsOf 44)) := by kernel_rfl
 have hp : Tryz.prog.stoodInHeld 44 = false := by kernel_rfl
 rw [show (10000 : Nat) = 9999 + 1 from rfl, run_equalIn_struct w 9999 44 _ _ hS hp]
 simp only [Program.fieldsOf, Tryz.underlying44]
 exact eqF10 9999 k l s k' l' s' d d' h h' w _ _ _ _ (by decide) (by decide) (by decide) (by decide) ⟨rfl, rfl⟩ ⟨rfl, rfl⟩ ⟨rfl, rfl⟩ ⟨rfl, rfl⟩ (fun x y => run_equalIn_int (P := Tryz.prog) w 9998 3 .i64 .i64 x y Tryz.underlying3) (eqTD_in d d' h h' 9997 w)
theorem neTE (k l s k' l' s' : Int) (d d' : List Nat) (h : d.length = 16) (h' : d'.length = 16) (r : Bool) (hr : (!(decide (k = k') && (decide (l = l') && (decide (s = s') && decide (d = d'))))) = r) (w : World) : (binOp .neq 44 (.agg (entA k l s d)) (.agg (entA k' l' s' d'))).run Tryz.prog w = .ok (.bool r) w := by
 simp [binOp, Op.equal, Op.maxDepth, eqTE_in k l s k' l' s' d d' h h', ← hr]
def headA (a b c e : Int) : Array Value := #[.int .i64 a, .int .i64 b, .int .i64 c, .int .i64 e]
set_option maxRecDepth 100000 in
theorem eqTH_in (a b c e a' b' c' e' : Int) (w : World) : (Op.equalIn 10000 57 (.agg (headA a b c e)) (.agg (headA a' b' c' e'))).run Tryz.prog w = .ok (decide (a = a') && (decide (b = b') && (decide (c = c') && decide (e = e')))) w := by
 have hS : Tryz.prog.underlying 57 = some (.struct (Tryz.prog.fieldsOf 57)) := by kernel_rfl
 have hp : Tryz.prog.stoodInHeld 57 = false := by kernel_rfl
 have u3 := Tryz.underlying3
 have a3 := Tryz.isAgg3
 have z3 := Tryz.sizeOf3
 rw [show (10000 : Nat) = 9999 + 1 from rfl, run_equalIn_struct w 9999 57 _ _ hS hp]
 simp only [Program.fieldsOf, Tryz.underlying57, headA]
 go_simp
 by_cases h1 : a = a'
 ·by_cases h2 : b = b'
  ·by_cases h3 : c = c'
   ·by_cases h4 : e = e' <;> simp [h1, h2, h3, h4]
   simp [h1, h2, h3]
  simp [h1, h2]
 simp [h1]
theorem neTH (a b c e a' b' c' e' : Int) (r : Bool) (hr : (!(decide (a = a') && (decide (b = b') && (decide (c = c') && decide (e = e'))))) = r) (w : World) : (binOp .neq 57 (.agg (headA a b c e)) (.agg (headA a' b' c' e'))).run Tryz.prog w = .ok (.bool r) w := by
 simp [binOp, Op.equal, Op.maxDepth, eqTH_in, ← hr]
end Go.Proofs.YtjdikhelabibnaaGreat

namespace Go.Proofs.YtjdikhelabibnaaGreat
open Go.RowKit Go.Shelf
def zer16 : List Nat := List.replicate 16 0
theorem zer16_len : zer16.length = 16 := rfl
theorem build_TD (w : World) : (Instr.build 42 #[]).run Tryz.prog w = .ok (.agg #[.int .u8 0, .int .u8 0, .int .u8 0, .int .u8 0, .int .u8 0, .int .u8 0, .int .u8 0, .int .u8 0, .int .u8 0, .int .u8 0, .int .u8 0, .int .u8 0, .int .u8 0, .int .u8 0, .int .u8 0, .int .u8 0]) w := run_build w 42 _ _ (by kernel_rfl)
theorem datA16 {d : List Nat} (h : d.length = 16) : (datL d).toArray = #[.int .u8 ((cf d 0 : Nat) : Int), .int .u8 ((cf d 1 : Nat) : Int), .int .u8 ((cf d 2 : Nat) : Int), .int .u8 ((cf d 3 : Nat) : Int), .int .u8 ((cf d 4 : Nat) : Int), .int .u8 ((cf d 5 : Nat) : Int), .int .u8 ((cf d 6 : Nat) : Int), .int .u8 ((cf d 7 : Nat) : Int), .int .u8 ((cf d 8 : Nat) : Int), .int .u8 ((cf d 9 : Nat) : Int), .int .u8 ((cf d 10 : Nat) : Int), .int .u8 ((cf d 11 : Nat) : Int), .int .u8 ((cf d 12 : Nat) : Int), .int .u8 ((cf d 13 : Nat) : Int), .int .u8 ((cf d 14 : Nat) : Int), .int .u8 ((cf d 15 : Nat) : Int)] := by
 obtain ⟨a0, a1, a2, a3, a4, a5, a6, a7, a8, a9, a10, a11, a12, a13, a14, a15, rfl⟩ := len16 h
 rfl
theorem datZ16 : (datL zer16).toArray = #[.int .u8 0, .int .u8 0, .int .u8 0, .int .u8 0, .int .u8 0, .int .u8 0, .int .u8 0, .int .u8 0, .int .u8 0, .int .u8 0, .int .u8 0, .int .u8 0, .int .u8 0, .int .u8 0, .int .u8 0, .int .u8 0] := rfl
def okE (k l s : Int) (d : List Nat) : Prop := (0 ≤ k ∧ k ≤ 3) ∧ ((k = 1 ∨ k = 2) → (0 ≤ l ∧ l ≤ 65536) ∧ 1 ≤ s ∧ s ≤ 1099511627776) ∧ (¬ (k = 1 ∨ k = 2) → l = 0 ∧ s = 0) ∧ (k ≠ 1 → d = zer16)
instance (k l s : Int) (d : List Nat) : Decidable (okE k l s d) := by unfold okE; infer_instance
def chkE (k l s : Int) (d : List Nat) : Int := if okE k l s d then 0 else 1
theorem chkE_ok {k l s : Int} {d : List Nat} (h : okE k l s d) : chkE k l s d = 0 := if_pos h
theorem chkE_not {k l s : Int} {d : List Nat} (h : ¬ okE k l s d) : chkE k l s d = 1 := if_neg h
set_option maxRecDepth 100000 in
set_option maxHeartbeats 8000000 in
theorem rcheckE_any (k l s : Int) (d : List Nat) (hd : d.length = 16) (w : World) : Calls Tryz.prog 30 #[.agg (entA k l s d)] w fun e w' => e = .returned (.int .i64 (chkE k l s d)) ∧ Below w.heap.size w w' := by
 obtain ⟨W, hW, hE, hb⟩ := EntAt.new w k l s d
 have HB := hide hb
 have c0 := hE.c0
 have c1 := hE.c1
 have c2 := hE.c2
 have f0 : W.cell? ⟨w.heap.size, 3, none⟩ = some (.int .u8 ((cf d 0 : Nat) : Int)) := hE.range 0 _ (datL_get (by omega))
 have f1 : W.cell? ⟨w.heap.size, 4, none⟩ = some (.int .u8 ((cf d 1 : Nat) : Int)) := hE.range 1 _ (datL_get (by omega))
 have f2 : W.cell? ⟨w.heap.size, 5, none⟩ = some (.int .u8 ((cf d 2 : Nat) : Int)) := hE.range 2 _ (datL_get (by omega))
 have f3 : W.cell? ⟨w.heap.size, 6, none⟩ = some (.int .u8 ((cf d 3 : Nat) : Int)) := hE.range 3 _ (datL_get (by omega))
 have f4 : W.cell? ⟨w.heap.size, 7, none⟩ = some (.int .u8 ((cf d 4 : Nat) : Int)) := hE.range 4 _ (datL_get (by omega))
 have f5 : W.cell? ⟨w.heap.size, 8, none⟩ = some (.int .u8 ((cf d 5 : Nat) : Int)) := hE.range 5 _ (datL_get (by omega))
 have f6 : W.cell? ⟨w.heap.size, 9, none⟩ = some (.int .u8 ((cf d 6 : Nat) : Int)) := hE.range 6 _ (datL_get (by omega))
 have f7 : W.cell? ⟨w.heap.size, 10, none⟩ = some (.int .u8 ((cf d 7 : Nat) : Int)) := hE.range 7 _ (datL_get (by omega))
 have f8 : W.cell? ⟨w.heap.size, 11, none⟩ = some (.int .u8 ((cf d 8 : Nat) : Int)) := hE.range 8 _ (datL_get (by omega))
 have f9 : W.cell? ⟨w.heap.size, 12, none⟩ = some (.int .u8 ((cf d 9 : Nat) : Int)) := hE.range 9 _ (datL_get (by omega))
 have f10 : W.cell? ⟨w.heap.size, 13, none⟩ = some (.int .u8 ((cf d 10 : Nat) : Int)) := hE.range 10 _ (datL_get (by omega))
 have f11 : W.cell? ⟨w.heap.size, 14, none⟩ = some (.int .u8 ((cf d 11 : Nat) : Int)) := hE.range 11 _ (datL_get (by omega))
 have f12 : W.cell? ⟨w.heap.size, 15, none⟩ = some (.int .u8 ((cf d 12 : Nat) : Int)) := hE.range 12 _ (datL_get (by omega))
 have f13 : W.cell? ⟨w.heap.size, 16, none⟩ = some (.int .u8 ((cf d 13 : Nat) : Int)) := hE.range 13 _ (datL_get (by omega))
 have f14 : W.cell? ⟨w.heap.size, 17, none⟩ = some (.int .u8 ((cf d 14 : Nat) : Int)) := hE.range 14 _ (datL_get (by omega))
 have f15 : W.cell? ⟨w.heap.size, 18, none⟩ = some (.int .u8 ((cf d 15 : Nat) : Int)) := hE.range 15 _ (datL_get (by omega))
 clear hb hE
 rcases (show k < 0 ∨ k = 0 ∨ k = 1 ∨ k = 2 ∨ k = 3 ∨ 3 < k by omega) with hk | hk | hk | hk | hk | hk
 ·have q1 : (k == 1) = false := by rw [beq_eq_false_iff_ne]; omega
  have q2 : (k == 2) = false := by rw [beq_eq_false_iff_ne]; omega
  rw [chkE_not (fun h => by have := h.1; omega)]
  clear f0 f1 f2 f3 f4 f5 f6 f7 f8 f9 f10 f11 f12 f13 f14 f15
  go_enter Tryz.func30, Tryz.ntmps30
  go_wp2_with fail
  go_ret
  exact ⟨rfl, uh HB⟩
 ·subst hk
  by_cases hl : l = 0
  ·subst hl
   by_cases hs : s = 0
   ·subst hs
    have hq := fun W => neTD d zer16 hd zer16_len _ rfl W
    rw [datA16 hd, datZ16] at hq
    have hbz := fun W => build_TD W
    by_cases hz : d = zer16
    ·rw [decide_eq_true hz] at hq
     rw [chkE_ok ⟨⟨by omega, by omega⟩, fun h => absurd h (by omega), fun _ => ⟨rfl, rfl⟩, fun _ => hz⟩]
     clear hz hd
     go_enter Tryz.func30, Tryz.ntmps30
     go_wp2_with fail
     go_ret
     exact ⟨rfl, uh HB⟩
    rw [decide_eq_false hz] at hq
    rw [chkE_not (fun h => hz (h.2.2.2 (by omega)))]
    clear hz hd
    go_enter Tryz.func30, Tryz.ntmps30
    go_wp2_with fail
    go_ret
    exact ⟨rfl, uh HB⟩
   have q2 : (s != 0) = true := by rw [bne_iff_ne]; exact hs
   rw [chkE_not (fun h => hs (h.2.2.1 (by omega)).2)]
   clear hs f0 f1 f2 f3 f4 f5 f6 f7 f8 f9 f10 f11 f12 f13 f14 f15
   go_enter Tryz.func30, Tryz.ntmps30
   go_wp2_with fail
   go_ret
   exact ⟨rfl, uh HB⟩
  have q1 : (l != 0) = true := by rw [bne_iff_ne]; exact hl
  rw [chkE_not (fun h => hl (h.2.2.1 (by omega)).1)]
  clear hl f0 f1 f2 f3 f4 f5 f6 f7 f8 f9 f10 f11 f12 f13 f14 f15
  go_enter Tryz.func30, Tryz.ntmps30
  go_wp2_with fail
  go_ret
  exact ⟨rfl, uh HB⟩
 ·subst hk
  rcases (show l < 0 ∨ (0 ≤ l ∧ l ≤ 65536) ∨ 65536 < l by omega) with hl | ⟨hl, hl2⟩ | hl
  ·rw [chkE_not (fun h => by have := (h.2.1 (by omega)).1; omega)]
   clear f0 f1 f2 f3 f4 f5 f6 f7 f8 f9 f10 f11 f12 f13 f14 f15
   go_enter Tryz.func30, Tryz.ntmps30
   go_wp2_with fail
   go_ret
   exact ⟨rfl, uh HB⟩
  ·rcases (show s < 1 ∨ (1 ≤ s ∧ s ≤ 1099511627776) ∨ 1099511627776 < s by omega) with hs | ⟨hs, hs2⟩ | hs
   ·rw [chkE_not (fun h => by have := (h.2.1 (by omega)).2; omega)]
    clear f0 f1 f2 f3 f4 f5 f6 f7 f8 f9 f10 f11 f12 f13 f14 f15
    go_enter Tryz.func30, Tryz.ntmps30
    go_wp2_with fail
    go_ret
    exact ⟨rfl, uh HB⟩
   ·rw [chkE_ok ⟨⟨by omega, by omega⟩, fun _ => ⟨⟨hl, hl2⟩, hs, hs2⟩, fun h => absurd h (by omega), fun h => absurd rfl h⟩]
    clear f0 f1 f2 f3 f4 f5 f6 f7 f8 f9 f10 f11 f12 f13 f14 f15
    go_enter Tryz.func30, Tryz.ntmps30
    go_wp2_with fail
    go_ret
    exact ⟨rfl, uh HB⟩
   rw [chkE_not (fun h => by have := (h.2.1 (by omega)).2; omega)]
   clear f0 f1 f2 f3 f4 f5 f6 f7 f8 f9 f10 f11 f12 f13 f14 f15
   go_enter Tryz.func30, Tryz.ntmps30
   go_wp2_with fail
   go_ret
   exact ⟨rfl, uh HB⟩
  rw [chkE_not (fun h => by have := (h.2.1 (by omega)).1; omega)]
  clear f0 f1 f2 f3 f4 f5 f6 f7 f8 f9 f10 f11 f12 f13 f14 f15
  go_enter Tryz.func30, Tryz.ntmps30
  go_wp2_with fail
  go_ret
  exact ⟨rfl, uh HB⟩
 ·subst hk
  rcases (show l < 0 ∨ (0 ≤ l ∧ l ≤ 65536) ∨ 65536 < l by omega) with hl | ⟨hl, hl2⟩ | hl
  ·rw [chkE_not (fun h => by have := (h.2.1 (by omega)).1; omega)]
   clear f0 f1 f2 f3 f4 f5 f6 f7 f8 f9 f10 f11 f12 f13 f14 f15
   go_enter Tryz.func30, Tryz.ntmps30
   go_wp2_with fail
   go_ret
   exact ⟨rfl, uh HB⟩
  ·rcases (show s < 1 ∨ (1 ≤ s ∧ s ≤ 1099511627776) ∨ 1099511627776 < s by omega) with hs | ⟨hs, hs2⟩ | hs
   ·rw [chkE_not (fun h => by have := (h.2.1 (by omega)).2; omega)]
    clear f0 f1 f2 f3 f4 f5 f6 f7 f8 f9 f10 f11 f12 f13 f14 f15
    go_enter Tryz.func30, Tryz.ntmps30
    go_wp2_with fail
    go_ret
    exact ⟨rfl, uh HB⟩
   ·have hq := fun W => neTD d zer16 hd zer16_len _ rfl W
    rw [datA16 hd, datZ16] at hq
    have hbz := fun W => build_TD W
    by_cases hz : d = zer16
    ·rw [decide_eq_true hz] at hq
     rw [chkE_ok ⟨⟨by omega, by omega⟩, fun _ => ⟨⟨hl, hl2⟩, hs, hs2⟩, fun h => absurd h (by omega), fun _ => hz⟩]
     clear hz hd
     go_enter Tryz.func30, Tryz.ntmps30
     go_wp2_with fail
     go_ret
     exact ⟨rfl, uh HB⟩
    rw [decide_eq_false hz] at hq
    rw [chkE_not (fun h => hz (h.2.2.2 (by omega)))]
    clear hz hd
    go_enter Tryz.func30, Tryz.ntmps30
    go_wp2_with fail
    go_ret
    exact ⟨rfl, uh HB⟩
   rw [chkE_not (fun h => by have := (h.2.1 (by omega)).2; omega)]
   clear f0 f1 f2 f3 f4 f5 f6 f7 f8 f9 f10 f11 f12 f13 f14 f15
   go_enter Tryz.func30, Tryz.ntmps30
   go_wp2_with fail
   go_ret
   exact ⟨rfl, uh HB⟩
  rw [chkE_not (fun h => by have := (h.2.1 (by omega)).1; omega)]
  clear f0 f1 f2 f3 f4 f5 f6 f7 f8 f9 f10 f11 f12 f13 f14 f15
  go_enter Tryz.func30, Tryz.ntmps30
  go_wp2_with fail
  go_ret
  exact ⟨rfl, uh HB⟩
 ·subst hk
  by_cases hl : l = 0
  ·subst hl
   by_cases hs : s = 0
   ·subst hs
    have hq := fun W => neTD d zer16 hd zer16_len _ rfl W
    rw [datA16 hd, datZ16] at hq
    have hbz := fun W => build_TD W
    by_cases hz : d = zer16
    ·rw [decide_eq_true hz] at hq
     rw [chkE_ok ⟨⟨by omega, by omega⟩, fun h => absurd h (by omega), fun _ => ⟨rfl, rfl⟩, fun _ => hz⟩]
     clear hz hd
     go_enter Tryz.func30, Tryz.ntmps30
     go_wp2_with fail
     go_ret
     exact ⟨rfl, uh HB⟩
    rw [decide_eq_false hz] at hq
    rw [chkE_not (fun h => hz (h.2.2.2 (by omega)))]
    clear hz hd
    go_enter Tryz.func30, Tryz.ntmps30
    go_wp2_with fail
    go_ret
    exact ⟨rfl, uh HB⟩
   have q2 : (s != 0) = true := by rw [bne_iff_ne]; exact hs
   rw [chkE_not (fun h => hs (h.2.2.1 (by omega)).2)]
   clear hs f0 f1 f2 f3 f4 f5 f6 f7 f8 f9 f10 f11 f12 f13 f14 f15
   go_enter Tryz.func30, Tryz.ntmps30
   go_wp2_with fail
   go_ret
   exact ⟨rfl, uh HB⟩
  have q1 : (l != 0) = true := by rw [bne_iff_ne]; exact hl
  rw [chkE_not (fun h => hl (h.2.2.1 (by omega)).1)]
  clear hl f0 f1 f2 f3 f4 f5 f6 f7 f8 f9 f10 f11 f12 f13 f14 f15
  go_enter Tryz.func30, Tryz.ntmps30
  go_wp2_with fail
  go_ret
  exact ⟨rfl, uh HB⟩
 have q1 : (k == 1) = false := by rw [beq_eq_false_iff_ne]; omega
 have q2 : (k == 2) = false := by rw [beq_eq_false_iff_ne]; omega
 rw [chkE_not (fun h => by have := h.1; omega)]
 clear f0 f1 f2 f3 f4 f5 f6 f7 f8 f9 f10 f11 f12 f13 f14 f15
 go_enter Tryz.func30, Tryz.ntmps30
 go_wp2_with fail
 go_ret
 exact ⟨rfl, uh HB⟩
end Go.Proofs.YtjdikhelabibnaaGreat

namespace Go.Proofs.YtjdikhelabibnaaGreat
open Go.RowKit Go.Shelf
theorem within10_any (a n : Int) (w : World) (hn : 0 < n) (hn2 : n < 100000) :
  Calls Tryz.prog 56 #[.int .i64 a, .int .i64 n] w fun e w' => e = .returned (.int .i64 (a % n)) ∧ w' = w := by
 obtain ⟨h1, h2, h3, h4⟩ := tmod_emod a n hn
 have H1 := hide h1
 have H2 := hide h2
 clear h1 h2
 go_enter Tryz.func56, Tryz.ntmps56
 go_wp2
 ·have h5 : a.tmod n < 0 := by assumption
  go_ret
  exact ⟨by rw [← uh H1 h5]; rfl, rfl⟩
 have h5 : 0 ≤ a.tmod n := by assumption
 go_ret
 exact ⟨by rw [← uh H2 h5]; rfl, rfl⟩
theorem run_build9 {P : Program} {o : Oper} {a : Act} {W : World} {ty : TypeId} {ps : Array (Nat × Operand)} {v : Value} {parts : Array (Nat × Value)} (ho : o.op = .build ty ps) (hp : (ps.map fun p => (p.1, a.eval p.2)) = parts) (hb : (Instr.build ty parts).run P W = .ok v W) : (execOp a.eval o).run P W = .ok (.value v) W := by
 unfold execOp
 simp only [ho, hp, Sem.run_bind, hb, Result.andThen_ok, Sem.run_pure]
theorem below10_setCells {n : Nat} {a : World} (b : Nat) : ∀ (vs : List Value) (o : Nat) (w : World), Below n a w → n ≤ b → Below n a (w.setCells b o vs)
 | [], _, _, h, _ => h
 | v :: r, o, w, h, hb => by
  rw [World.setCells]
  exact below10_setCells b r (o + 1) _ (h.setCell (p := ⟨b, o, none⟩) hb v) hb
theorem build_TE (k l s : Int) (d : List Nat) (h : d.length = 16) (w : World) : (Instr.build 44 #[(0, .int .i64 k), (1, .int .i64 l), (2, .int .i64 s), (3, .agg (datL d).toArray)]).run Tryz.prog w = .ok (.agg (entA k l s d)) w := by
 obtain ⟨a0, a1, a2, a3, a4, a5, a6, a7, a8, a9, a10, a11, a12, a13, a14, a15, rfl⟩ := len16 h
 exact run_build w 44 _ _ (by kernel_rfl)
theorem build_TE3 (k l s : Int) (w : World) : (Instr.build 44 #[(0, .int .i64 k), (1, .int .i64 l), (2, .int .i64 s)]).run Tryz.prog w = .ok (.agg (entA k l s zer16)) w := run_build w 44 _ _ (by kernel_rfl)
theorem build_TE1 (k : Int) (w : World) : (Instr.build 44 #[(0, .int .i64 k)]).run Tryz.prog w = .ok (.agg (entA k 0 0 zer16)) w := run_build w 44 _ _ (by kernel_rfl)
theorem entA_one (k l s : Int) (d : List Nat) : (entA k l s d).all (·.oneCell') = true := by
 refine all_oneCell_toArray (fun v hv => ?_)
 simp only [List.mem_cons] at hv
 rcases hv with rfl | rfl | rfl | hv
 ·rfl
 ·rfl
 ·rfl
 obtain ⟨x, _, rfl⟩ := List.mem_map.1 hv
 rfl
theorem EntAt.there {w : World} {b : Nat} {k l s : Int} {d : List Nat} (h : EntAt w b k l s d) (hd : d.length = 16) {n : Nat} (hn : n = 19) : w.there b 0 n := by
 subst hn
 intro j hj
 rw [Nat.zero_add]
 refine ⟨?_, free_blk h.blk⟩
 have hs := entA_size (k := k) (l := l) (s := s) hd
 rw [cell_blk h.blk (Array.getElem?_eq_getElem (by omega))]
 rfl
theorem stored_TE {w : World} {b : Nat} {k l s k' l' s' : Int} {d d' : List Nat} (h : EntAt w b k l s d) (hd : d.length = 16) (hd' : d'.length = 16) : (loadVar 44 ⟨b, 0, none⟩).run Tryz.prog (w.setCells b 0 (entA k' l' s' d').toList) = .ok (.agg (entA k' l' s' d')) (w.setCells b 0 (entA k' l' s' d').toList) :=
 run_loadVar_mid _ b 0 44 (entA k' l' s' d').toList _ (World.rangeAt_setCells_same w b 0 _ (h.there hd (by rw [Array.length_toList, entA_size hd']))) Tryz.underlying44 rfl (by rw [sizeTE, Array.length_toList, entA_size hd'])
def gdK (k : Int) : Int := k % 4
def gdLb (k l : Int) : Int := if k % 4 = 1 ∨ k % 4 = 2 then l % 100 else 0
def gdS (k s : Int) : Int := if k % 4 = 1 ∨ k % 4 = 2 then 1 + s % 1000 else 0
def gdD (k : Int) (d : List Nat) : List Nat := if k % 4 = 1 then d else zer16
theorem gdD_len {k : Int} {d : List Nat} (h : d.length = 16) : (gdD k d).length = 16 := by unfold gdD; split; exact h; exact zer16_len
end Go.Proofs.YtjdikhelabibnaaGreat

namespace Go.Proofs.YtjdikhelabibnaaGreat
open Go.RowKit Go.Shelf
set_option maxRecDepth 100000 in
set_option maxHeartbeats 16000000 in
theorem good_any (k l s : Int) (d : List Nat) (hd : d.length = 16) (w : World) : Calls Tryz.prog 29 #[.agg (entA k l s d)] w fun e w' => e = .returned (.agg (entA (gdK k) (gdLb k l) (gdS k s) (gdD k d))) ∧ Below w.heap.size w w' := by
 obtain ⟨W1, hW1, hE, hb1⟩ := EntAt.new w k l s d
 obtain ⟨W, hW, hR, hb2⟩ : ∃ W, W1.alloc (.cells #[.int .i64 0, .int .i64 0, .int .i64 0, .int .u8 0, .int .u8 0, .int .u8 0, .int .u8 0, .int .u8 0, .int .u8 0, .int .u8 0, .int .u8 0, .int .u8 0, .int .u8 0, .int .u8 0, .int .u8 0, .int .u8 0, .int .u8 0, .int .u8 0, .int .u8 0] 44) = W ∧ EntAt W W1.heap.size 0 0 0 zer16 ∧ Below W1.heap.size W1 W := ⟨_, rfl, ⟨World.alloc_heap_new W1 _⟩, (Below.refl _ _).alloc (Nat.le_refl _) _⟩
 have hT := hb1.trans (hb2.mono hb1.size)
 have HT := hide hT
 have HE := hide (hE.below hb2)
 have HR := hide hR
 have c0 := (hE.below hb2).c0
 have hsz := hb1.size
 have HLT : Hid (w.heap.size < W1.heap.size) := hE.lt
 obtain ⟨K, hK, k1, k2⟩ : ∃ r : Int, k % 4 = r ∧ 0 ≤ r ∧ r < 4 := ⟨_, rfl, Int.emod_nonneg _ (by omega), Int.emod_lt_of_pos _ (by omega)⟩
 have HK := hide hK
 have hbt := fun W => build_TE1 K W
 clear hb1 hb2 hE hR hT
 have hgk : Hid (gdK k = K) := hK
 have hgl : Hid (gdLb k l = if K = 1 ∨ K = 2 then l % 100 else 0) := by show _ = _; rw [gdLb, hK]
 have hgs : Hid (gdS k s = if K = 1 ∨ K = 2 then 1 + s % 1000 else 0) := by show _ = _; rw [gdS, hK]
 have hgd : Hid (gdD k d = if K = 1 then d else zer16) := by show _ = _; rw [gdD, hK]
 clear hK
 rw [uh hgk, uh hgl, uh hgs, uh hgd]
 clear hgk hgl hgs hgd
 rcases (show K = 1 ∨ K = 2 ∨ (K ≠ 1 ∧ K ≠ 2) by omega) with hk | hk | ⟨hk, hk'⟩
 ·subst hk
  rw [if_pos (.inl rfl), if_pos (.inl rfl), if_pos rfl]
  obtain ⟨L, hL, l1, l2⟩ : ∃ r : Int, l % 100 = r ∧ 0 ≤ r ∧ r < 100 := ⟨_, rfl, Int.emod_nonneg _ (by omega), Int.emod_lt_of_pos _ (by omega)⟩
  obtain ⟨S, hS, s1, s2⟩ : ∃ r : Int, s % 1000 = r ∧ 0 ≤ r ∧ r < 1000 := ⟨_, rfl, Int.emod_nonneg _ (by omega), Int.emod_lt_of_pos _ (by omega)⟩
  rw [hL, hS]
  have HL := hide hL
  have HS := hide hS
  clear hL hS hbt
  have hbt := fun W => build_TE 1 L (1 + S) d hd W
  go_enter Tryz.func29, Tryz.ntmps29
  go_wp2_with fail
  refine (within10_any k 4 _ (by omega) (by omega)).mono ?_
  rintro e w2 ⟨rfl, hw2⟩
  rw [uh HK, hw2]
  clear hw2 w2 HK c0 hW hW1
  go_wp2_with fail
  replace HT := hide ((uh HT).drew)
  replace HE := hide ((uh HE).below (Below.refl _ _).drew)
  replace HR := hide ((uh HR).below (Below.refl _ _).drew)
  refine wp_region_noPanic ?_
  refine wp_region_held_drew (S := fun V => Below W1.heap.size W.drew V) (by kernel_rfl) (Below.refl _ _) (fun hHeld => ?_)
  have HH := hide hHeld
  clear hHeld
  have HEB : Hid (w.heap.size < W1.heap.size ∧ W1.heap.size ≤ W.drew.heap.size) := ⟨uh HLT, Nat.le_of_lt (uh HR).lt⟩
  generalize W.drew = w5 at HT HE HR HH HEB ⊢
  refine tkL 0 (uh HH) ?_
  (try simp only [layB])
  refine tkL 1 (uh HH) ?_
  (try simp only [layB])
  refine tkW 2 (v := ?_) ?_ (uh HH) ?_
  rotate_left 1
  ·intro V hSV; have hcl := (hSV.cell (p := ⟨w.heap.size, 1, none⟩) (uh HEB).1).trans (uh HE).c1; clear hSV; go_simp; all_goals (with_reducible rfl)
  (try simp only [layB])
  refine tkL 4 (uh HH) ?_
  (try simp only [layB])
  refine tkW 5 (v := ?_) ?_ (uh HH) ?_
  rotate_left 1
  ·intro V hSV; have hcl := (hSV.cell (p := ⟨w.heap.size, 2, none⟩) (uh HEB).1).trans (uh HE).c2; clear hSV; go_simp; all_goals (with_reducible rfl)
  (try simp only [layB])
  refine tkL 8 (uh HH) ?_
  (try simp only [layB])
  refine takeL (i := 9) (v := .agg (datL d).toArray) rfl (by kernel_rfl) (by kernel_rfl) (by kernel_rfl) (fun _ _ _ h => h) (Or.inl ⟨by rfl, fun W1 hSW => run_load_agg9 rfl rfl (EntAt.data ⟨(hSW.block _ (uh HEB).1).trans (uh HE).blk⟩ hd)⟩) (uh HH) ?_
  (try simp only [layB])
  refine wpAnyH_ready (rs := [3]) (by kernel_rfl) (by simp) ?_
  refine consL rfl (fun K hK => ?_) AllReadyH.nil
  go_simp
  refine (within10_any l 100 _ (by omega) (by omega)).mono ?_
  rintro e wq ⟨rfl, hwq⟩
  rw [uh HL, hwq]
  clear hwq wq
  go_wp2_with fail
  refine hK.out _ _ (uh HH) (fun hHeld => ?_)
  clear hK K HH
  have HH := hide hHeld
  clear hHeld
  (try simp only [layB])
  refine wpAnyH_ready (rs := [6]) (by kernel_rfl) (by simp) ?_
  refine consL rfl (fun K hK => ?_) AllReadyH.nil
  go_simp
  refine (within10_any s 1000 _ (by omega) (by omega)).mono ?_
  rintro e wq ⟨rfl, hwq⟩
  rw [uh HS, hwq]
  clear hwq wq
  go_wp2_with fail
  refine hK.out _ _ (uh HH) (fun hHeld => ?_)
  clear hK K HH
  have HH := hide hHeld
  clear hHeld
  (try simp only [layB])
  refine takeL (i := 7) (v := .int .i64 (1 + S)) rfl (by kernel_rfl) (by kernel_rfl) (by kernel_rfl) (fun _ _ _ h => h) (Or.inl ⟨by rfl, ?_⟩) (uh HH) ?_
  ·intro W hSW; go_simp; rw [IntWalk.i64_in _ ⟨by omega, by omega⟩]
  (try simp only [layB])
  refine takeL (i := 10) (v := .agg (entA 1 L (1 + S) d)) rfl (by kernel_rfl) (by kernel_rfl) (by kernel_rfl) (fun _ _ _ h => h) (Or.inl ⟨by rfl, ?_⟩) (uh HH) ?_
  ·intro W hSW; exact run_build9 rfl (by simp only [List.map_toArray, List.map_cons, List.map_nil]; rfl) (build_TE 1 L (1 + S) d hd W)
  (try simp only [layB])
  refine wpAnyH_ready (rs := [11]) (by kernel_rfl) (by simp) ?_
  refine consL rfl (fun K hK => ?_) AllReadyH.nil
  refine wp_store_mid (P := Tryz.prog) 44 (.tmp 2) (.tmp 22) (by rfl) W1.heap.size 0 (entA 1 L (1 + S) d) (by rfl) (by rfl) ((uh HR).there zer16_len (entA_size hd)) (by rw [sizeTE, entA_size hd]) (entA_one _ _ _ _) ?_
  have hbs := below10_setCells (n := W1.heap.size) (a := w5) W1.heap.size (entA 1 L (1 + S) d).toList 0 w5 (Below.refl _ _) (Nat.le_refl _)
  have hsl := stored_TE (k' := 1) (l' := L) (s' := 1 + S) (d' := d) (uh HR) zer16_len hd
  generalize w5.setCells W1.heap.size 0 (entA 1 L (1 + S) d).toList = w6 at hbs hsl ⊢
  have HBS := hide hbs
  have HSL := hide hsl
  clear hsl
  refine hK.out _ _ hbs (fun hHeld => ?_)
  clear hK K HH hbs
  have HH := hide hHeld
  clear hHeld
  refine wpAnyH_done (by kernel_rfl) ?_ _
  refine NoPanic.normal ?_
  go_wp2_with fail
  refine bodyPost_ret (results_cell7 rfl _ _ ⟨W1.heap.size, 0, none⟩ _ rfl (uh HSL)) rfl ?_
  exact ⟨rfl, (uh HT).trans ((uh HBS).mono hsz)⟩
 ·subst hk
  rw [if_pos (.inr rfl), if_pos (.inr rfl), if_neg (by omega)]
  obtain ⟨L, hL, l1, l2⟩ : ∃ r : Int, l % 100 = r ∧ 0 ≤ r ∧ r < 100 := ⟨_, rfl, Int.emod_nonneg _ (by omega), Int.emod_lt_of_pos _ (by omega)⟩
  obtain ⟨S, hS, s1, s2⟩ : ∃ r : Int, s % 1000 = r ∧ 0 ≤ r ∧ r < 1000 := ⟨_, rfl, Int.emod_nonneg _ (by omega), Int.emod_lt_of_pos _ (by omega)⟩
  rw [hL, hS]
  have HL := hide hL
  have HS := hide hS
  clear hL hS hbt
  have hbt := fun W => build_TE3 2 L (1 + S) W
  go_enter Tryz.func29, Tryz.ntmps29
  go_wp2_with fail
  refine (within10_any k 4 _ (by omega) (by omega)).mono ?_
  rintro e w2 ⟨rfl, hw2⟩
  rw [uh HK, hw2]
  clear hw2 w2 HK c0 hW hW1
  go_wp2_with fail
  replace HT := hide ((uh HT).drew)
  replace HE := hide ((uh HE).below (Below.refl _ _).drew)
  replace HR := hide ((uh HR).below (Below.refl _ _).drew)
  refine wp_region_noPanic ?_
  refine wp_region_held_drew (S := fun V => Below W1.heap.size W.drew V) (by kernel_rfl) (Below.refl _ _) (fun hHeld => ?_)
  have HH := hide hHeld
  clear hHeld
  have HEB : Hid (w.heap.size < W1.heap.size ∧ W1.heap.size ≤ W.drew.heap.size) := ⟨uh HLT, Nat.le_of_lt (uh HR).lt⟩
  generalize W.drew = w5 at HT HE HR HH HEB ⊢
  refine tkL 0 (uh HH) ?_
  (try simp only [layB])
  refine tkL 1 (uh HH) ?_
  (try simp only [layB])
  refine tkW 2 (v := ?_) ?_ (uh HH) ?_
  rotate_left 1
  ·intro V hSV; have hcl := (hSV.cell (p := ⟨w.heap.size, 1, none⟩) (uh HEB).1).trans (uh HE).c1; clear hSV; go_simp; all_goals (with_reducible rfl)
  (try simp only [layB])
  refine tkL 4 (uh HH) ?_
  (try simp only [layB])
  refine tkW 5 (v := ?_) ?_ (uh HH) ?_
  rotate_left 1
  ·intro V hSV; have hcl := (hSV.cell (p := ⟨w.heap.size, 2, none⟩) (uh HEB).1).trans (uh HE).c2; clear hSV; go_simp; all_goals (with_reducible rfl)
  (try simp only [layB])
  refine wpAnyH_ready (rs := [3]) (by kernel_rfl) (by simp) ?_
  refine consL rfl (fun K hK => ?_) AllReadyH.nil
  go_simp
  refine (within10_any l 100 _ (by omega) (by omega)).mono ?_
  rintro e wq ⟨rfl, hwq⟩
  rw [uh HL, hwq]
  clear hwq wq
  go_wp2_with fail
  refine hK.out _ _ (uh HH) (fun hHeld => ?_)
  clear hK K HH
  have HH := hide hHeld
  clear hHeld
  (try simp only [layB])
  refine wpAnyH_ready (rs := [6]) (by kernel_rfl) (by simp) ?_
  refine consL rfl (fun K hK => ?_) AllReadyH.nil
  go_simp
  refine (within10_any s 1000 _ (by omega) (by omega)).mono ?_
  rintro e wq ⟨rfl, hwq⟩
  rw [uh HS, hwq]
  clear hwq wq
  go_wp2_with fail
  refine hK.out _ _ (uh HH) (fun hHeld => ?_)
  clear hK K HH
  have HH := hide hHeld
  clear hHeld
  (try simp only [layB])
  refine takeL (i := 7) (v := .int .i64 (1 + S)) rfl (by kernel_rfl) (by kernel_rfl) (by kernel_rfl) (fun _ _ _ h => h) (Or.inl ⟨by rfl, ?_⟩) (uh HH) ?_
  ·intro W hSW; go_simp; rw [IntWalk.i64_in _ ⟨by omega, by omega⟩]
  (try simp only [layB])
  refine takeL (i := 8) (v := .agg (entA 2 L (1 + S) zer16)) rfl (by kernel_rfl) (by kernel_rfl) (by kernel_rfl) (fun _ _ _ h => h) (Or.inl ⟨by rfl, ?_⟩) (uh HH) ?_
  ·intro W hSW; exact run_build9 rfl (by simp only [List.map_toArray, List.map_cons, List.map_nil]; rfl) (build_TE3 2 L (1 + S) W)
  (try simp only [layB])
  refine wpAnyH_ready (rs := [9]) (by kernel_rfl) (by simp) ?_
  refine consL rfl (fun K hK => ?_) AllReadyH.nil
  refine wp_store_mid (P := Tryz.prog) 44 (.tmp 2) (.tmp 33) (by rfl) W1.heap.size 0 (entA 2 L (1 + S) zer16) (by rfl) (by rfl) ((uh HR).there zer16_len (entA_size zer16_len)) (by rw [sizeTE, entA_size zer16_len]) (entA_one _ _ _ _) ?_
  have hbs := below10_setCells (n := W1.heap.size) (a := w5) W1.heap.size (entA 2 L (1 + S) zer16).toList 0 w5 (Below.refl _ _) (Nat.le_refl _)
  have hsl := stored_TE (k' := 2) (l' := L) (s' := 1 + S) (d' := zer16) (uh HR) zer16_len zer16_len
  generalize w5.setCells W1.heap.size 0 (entA 2 L (1 + S) zer16).toList = w6 at hbs hsl ⊢
  have HBS := hide hbs
  have HSL := hide hsl
  clear hsl
  refine hK.out _ _ hbs (fun hHeld => ?_)
  clear hK K HH hbs
  have HH := hide hHeld
  clear hHeld
  refine wpAnyH_done (by kernel_rfl) ?_ _
  refine NoPanic.normal ?_
  go_wp2_with fail
  refine bodyPost_ret (results_cell7 rfl _ _ ⟨W1.heap.size, 0, none⟩ _ rfl (uh HSL)) rfl ?_
  exact ⟨rfl, (uh HT).trans ((uh HBS).mono hsz)⟩
 rw [if_neg (by omega), if_neg (by omega), if_neg hk]
 have q1 : (K == 1) = false := by rw [beq_eq_false_iff_ne]; exact hk
 have q2 : (K == 2) = false := by rw [beq_eq_false_iff_ne]; exact hk'
 have hbs := below10_setCells (n := W1.heap.size) (a := W) W1.heap.size (entA K 0 0 zer16).toList 0 W (Below.refl _ _) (Nat.le_refl _)
 have hsl := stored_TE (k' := K) (l' := 0) (s' := 0) (d' := zer16) (uh HR) zer16_len zer16_len
 obtain ⟨w6, hw6⟩ : ∃ w6, W.setCells W1.heap.size 0 (entA K 0 0 zer16).toList = w6 := ⟨_, rfl⟩
 rw [hw6] at hbs hsl
 have HBS := hide hbs
 have HSL := hide hsl
 have HW6 := hide hw6
 clear hsl hw6
 have HTH := hide ((uh HR).there zer16_len (n := (entA K 0 0 zer16).size) (entA_size zer16_len))
 clear hbs hk hk' HE HR
 go_enter Tryz.func29, Tryz.ntmps29
 go_wp2_with fail
 refine (within10_any k 4 _ (by omega) (by omega)).mono ?_
 rintro e w2 ⟨rfl, hw2⟩
 rw [uh HK, hw2]
 clear hw2 w2 HK c0 hW hW1
 go_wp2_with (refine wpList_store_mid rfl 44 _ _ rfl W1.heap.size 0 (entA K 0 0 zer16) rfl rfl (uh HTH) (by rw [sizeTE, entA_size zer16_len]) (entA_one _ _ _ _) ?_; rw [uh HW6])
 refine bodyPost_ret (results_cell7 rfl _ _ ⟨W1.heap.size, 0, none⟩ _ rfl (uh HSL)) rfl ?_
 exact ⟨rfl, (uh HT).trans ((uh HBS).mono hsz)⟩
end Go.Proofs.YtjdikhelabibnaaGreat
