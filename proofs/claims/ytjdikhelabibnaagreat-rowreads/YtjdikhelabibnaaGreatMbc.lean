/-
  
-/
import Derived.Test.YtjdikhelabibnaaGreatMba
import Derived.Great.BuildSlice
import Derived.Test.YtjdikhelabibnaaGreatMbb
namespace Go.Proofs.YtjdikhelabibnaaGreat
open Go Go.RowKit Go.Shelf
theorem wpListIn_append_run11 {F : Fence} {n : Nat} {ops : Array Oper} {rest : List Oper} {o : Oper} {a : Act} {Q : Exit → Act → World → Prop} (hgd : o.guard = none) (w : World) (d s : Operand) (t t' : TypeId)
  (ho : o.op = .call { callee := .builtin .append, args := #[d, s], argTypes := #[t, t'] }) (v u : Value) (hd : a.eval d = v) (hs : a.eval s = u) {v' : Value} {w' : World}
  (hr : (Builtin.append_ #[t, t'] o.type #[v, u]).run Tryz.prog w = .ok v' w') (h : wpListIn F n Tryz.prog ops Q rest (a.put o.dst v') w') : wpListIn F n Tryz.prog ops Q (o :: rest) a w := by
 refine wpListIn_plain hgd fun K hK' => ?_
 unfold Oper.wpIn
 refine ⟨?_, ?_⟩
 ·simp [Oper.about, ho, resolve, Target.leads, Sem.run_pure]
 rw [Oper.semAt_plain F _ _ (by rw [ho]; intro c hc'; cases hc')]
 simp [execOp, ho, resolve, invoke, builtin, hd, hs, hr, Result.andThen]
 exact hK' _ _ h
theorem wpListIn_store_new12 {F : Fence} {n : Nat} {ops : Array Oper} {rest : List Oper} {o : Oper} {a : Act} {w : World} {Q : Exit → Act → World → Prop} (hgd : o.guard = none) (ty : TypeId) (x y : Operand) (ho : o.op = .store ty x y)
  (old cells : Array Value) (t : TypeId) (b : Nat) (hx : a.eval x = .pointer (some ⟨b, 0, none⟩)) (hb : w.heap.size = b) (hy : a.eval y = .agg cells) (hi : (Tryz.prog.info? ty).map (·.size) = some cells.size)
  (hold : old.size = cells.size) (h1 : cells.all (·.oneCell') = true)
  (h : wpListIn F n Tryz.prog ops Q rest (a.put o.dst undef) (w.alloc (.cells cells t))) : wpListIn F n Tryz.prog ops Q (o :: rest) a (w.alloc (.cells old t)) := by
 subst hb
 exact wpListIn_store_new11 hgd ty x y ho old cells t hx hy hi hold h1 h
theorem wpListIn_store_row11 {F : Fence} {n : Nat} {ops : Array Oper} {rest : List Oper} {o : Oper} {a : Act} {w : World} {Q : Exit → Act → World → Prop} (hgd : o.guard = none) (ty : TypeId) (x y : Operand) (ho : o.op = .store ty x y)
  (g : Nat) (cells : Array Value) (hx : a.eval x = .pointer (some ⟨g, 0, none⟩)) (hy : a.eval y = .agg cells) (t : TypeId) (old : Array Value) (hg : w.heap[g]? = some (.cells old t (0, 0)))
  (hi : (Tryz.prog.info? ty).map (·.size) = some cells.size) (hold : old.size = cells.size) (h1 : cells.all (·.oneCell') = true)
  (h : wpListIn F n Tryz.prog ops Q rest (a.put o.dst undef) (w.setRow g cells)) : wpListIn F n Tryz.prog ops Q (o :: rest) a w := by
 refine wpListIn_plain hgd fun K hK => ?_
 unfold Oper.wpIn
 refine ⟨?_, ?_⟩
 ·simp [Oper.about, ho]
 rw [Oper.semAt_plain F _ _ (by rw [ho]; intro c hc'; cases hc')]
 unfold execOp
 simp only [ho, hx, hy, Instr.storeAt, Instr.sureAddr, Sem.run_bind, Sem.run_pure, Result.andThen_ok, run_storeVar_row w g t ty old cells hg hi hold h1]
 exact hK _ _ h
theorem keeps_setRow {w : World} {g : Nat} {old cs : Array Value} {t : TypeId} (hg : w.heap[g]? = some (.cells old t (0, 0))) : KeepsOthers w (w.setRow g cs) :=
 ⟨by rw [size_setRow]; exact Nat.le_refl _, fun k o hk ho => by
  by_cases e : k = g
  ·subst e; rw [hg] at hk; cases hk; cases ho
  rw [setRow_other w g k cs e]; exact hk⟩
theorem below_setRow11 {n : Nat} {a w : World} {g : Nat} (h : Below n a w) (hg : n ≤ g) (cs : Array Value) : Below n a (w.setRow g cs) :=
 ⟨h.os, h.tape, h.output, by rw [size_setRow]; exact h.size, fun k hk => (setRow_other w g k cs (by omega)).trans (h.block k hk)⟩
theorem run_bin11 {o : Oper} {a : Act} {W : World} {op : BinOp} {t u : TypeId} {x y : Operand} {vx vy v : Value} (ho : o.op = .binOp op t x y u) (hx : a.eval x = vx) (hy : a.eval y = vy) (hq : (eqGuard op t x y vx vy).run Tryz.prog W = .ok () W) (h : (binOp op t vx vy).run Tryz.prog W = .ok v W) : (execOp a.eval o).run Tryz.prog W = .ok (.value v) W := by
 unfold execOp
 simp only [ho, hx, hy, Sem.run_bind, hq, h, Result.andThen_ok]
 rfl
set_option maxRecDepth 100000 in
theorem run_build_ev (e : EV) (he : e.Ok) (w : World) : (Instr.buildSlice 22 1 #[(0, .agg e.ar)]).run Tryz.prog w = .ok (.slice (some ⟨w.heap.size, 0, none⟩) 1 1) (w.alloc (.cells e.ar 44)) := by
 obtain ⟨i0, hi0, hz0, hz1, hz2⟩ := info_parts infoTE
 refine run_buildSlice w 22 44 1 _ _ i0 _ Tryz.underlying22 hi0 hz0 (by rw [hz1]; omega) (by rw [hz1]; omega) ?_
 rw [hz1]
 obtain ⟨k, l, s, d⟩ := e
 obtain ⟨a0, a1, a2, a3, a4, a5, a6, a7, a8, a9, a10, a11, a12, a13, a14, a15, rfl⟩ := len16 he.len
 kernel_rfl
set_option maxRecDepth 100000 in
theorem run_build_pv (p : PV) (w : World) : (Instr.buildSlice 40 1 #[(0, .agg #[.int .i64 p.st, p.b])]).run Tryz.prog w = .ok (.slice (some ⟨w.heap.size, 0, none⟩) 1 1) (w.alloc (.cells #[.int .i64 p.st, p.b] 49)) := by
 obtain ⟨i0, hi0, hz0, hz1, hz2⟩ := info_parts infoTP
 refine run_buildSlice w 40 49 1 _ _ i0 _ Tryz.underlying40 hi0 hz0 (by rw [hz1]; omega) (by rw [hz1]; omega) ?_
 rw [hz1]
 kernel_rfl
theorem wpListIn_build_ev11 {F : Fence} {n : Nat} {ops : Array Oper} {rest : List Oper} {o : Oper} {a : Act} {w : World} {Q : Exit → Act → World → Prop} (hgd : o.guard = none) (x : Operand) (ho : o.op = .buildSlice 22 1 #[(0, x)])
  (e : EV) (he : e.Ok) (hx : a.eval x = .agg e.ar)
  (h : wpListIn F n Tryz.prog ops Q rest (a.put o.dst (.slice (some ⟨w.heap.size, 0, none⟩) 1 1)) (w.alloc (.cells e.ar 44))) : wpListIn F n Tryz.prog ops Q (o :: rest) a w := by
 refine wpListIn_plain hgd fun K hK => ?_
 unfold Oper.wpIn
 refine ⟨?_, ?_⟩
 ·simp [Oper.about, ho]
 rw [Oper.semAt_plain F _ _ (by rw [ho]; intro c hc'; cases hc')]
 unfold execOp
 have hp : (#[(0, x)] : Array (Nat × Operand)).map (fun (i, x) => (i, a.eval x)) = #[(0, .agg e.ar)] := by simp [hx]
 simp only [ho, Sem.run_bind, hp, run_build_ev e he w, Result.andThen_ok]
 exact hK _ _ h
theorem wpList_build_ev11 {ops : Array Oper} {rest : List Oper} {o : Oper} {a : Act} {w : World} {Q : Exit → Act → World → Prop} (hgd : o.guard = none) (x : Operand) (ho : o.op = .buildSlice 22 1 #[(0, x)])
  (e : EV) (he : e.Ok) (hx : a.eval x = .agg e.ar)
  (h : wpList Tryz.prog ops Q rest (a.put o.dst (.slice (some ⟨w.heap.size, 0, none⟩) 1 1)) (w.alloc (.cells e.ar 44))) : wpList Tryz.prog ops Q (o :: rest) a w := by
 refine wpList_plain hgd fun K hK => ?_
 unfold Oper.wp execOp
 have hp : (#[(0, x)] : Array (Nat × Operand)).map (fun (i, x) => (i, a.eval x)) = #[(0, .agg e.ar)] := by simp [hx]
 simp only [ho, Sem.run_bind, hp, run_build_ev e he w, Result.andThen_ok]
 exact hK _ _ h
theorem guard_TH (op : BinOp) (x y : Operand) (a b : Array Value) (W : World) : (eqGuard op 57 x y (.agg a) (.agg b)).run Tryz.prog W = .ok () W := by
 have h : Tryz.prog.eqGuardType Tryz.prog.depth 57 = false := by kernel_rfl
 unfold eqGuard
 cases op <;> simp [h, go_sem]
theorem guard_TE (op : BinOp) (x y : Operand) (a b : Array Value) (W : World) : (eqGuard op 44 x y (.agg a) (.agg b)).run Tryz.prog W = .ok () W := by
 have h : Tryz.prog.eqGuardType Tryz.prog.depth 44 = false := by kernel_rfl
 unfold eqGuard
 cases op <;> simp [h, go_sem]
theorem range_ev (w : World) (e : EV) (t : TypeId) : (w.alloc (.cells e.ar t)).rangeAt w.heap.size 0 e.cs := fun j v hv => cell_blk (World.alloc_heap_new w _) (by rw [Nat.zero_add]; simpa [EV.cs, EV.ar] using hv)
structure EvAt (w : World) (b : Nat) (e : EV) : Prop where
 blk : w.heap[b]? = some (.cells e.ar 44 (0, 0))
theorem EvAt.below {w w' : World} {b : Nat} {e : EV} (h : EvAt w b e) (k : Below w.heap.size w w') : EvAt w' b e := ⟨(k.block b (Array.getElem?_eq_some_iff.1 h.blk).1).trans h.blk⟩
theorem EvAt.range {w : World} {b : Nat} {e : EV} (h : EvAt w b e) : w.rangeAt b 0 e.cs := fun j v hv => cell_blk h.blk (by rw [Nat.zero_add]; simpa [EV.cs, EV.ar] using hv)
theorem EvAt.load {w : World} {b : Nat} {e : EV} (h : EvAt w b e) (he : e.Ok) : (loadVar 44 ⟨b, 0, none⟩).run Tryz.prog w = .ok (.agg e.ar) w := load_ev h.range he
structure HdAt (w : World) (b : Nat) (x0 x1 x2 x3 : Int) : Prop where
 blk : w.heap[b]? = some (.cells #[.int .i64 x0, .int .i64 x1, .int .i64 x2, .int .i64 x3] 57 (0, 0))
theorem HdAt.below {w w' : World} {b : Nat} {x0 x1 x2 x3 : Int} (h : HdAt w b x0 x1 x2 x3) (k : Below w.heap.size w w') : HdAt w' b x0 x1 x2 x3 := ⟨(k.block b (Array.getElem?_eq_some_iff.1 h.blk).1).trans h.blk⟩
theorem HdAt.lt {w : World} {b : Nat} {x0 x1 x2 x3 : Int} (h : HdAt w b x0 x1 x2 x3) : b < w.heap.size := (Array.getElem?_eq_some_iff.1 h.blk).1
theorem HdAt.cells {w : World} {b : Nat} {x0 x1 x2 x3 : Int} (h : HdAt w b x0 x1 x2 x3) : w.cell? ⟨b, 0, none⟩ = some (.int .i64 x0) ∧ w.cell? ⟨b, 1, none⟩ = some (.int .i64 x1) ∧ w.cell? ⟨b, 2, none⟩ = some (.int .i64 x2) ∧ w.cell? ⟨b, 3, none⟩ = some (.int .i64 x3) ∧ w.frozen? ⟨b, 0, none⟩ = false := ⟨cell_blk h.blk rfl, cell_blk h.blk rfl, cell_blk h.blk rfl, cell_blk h.blk rfl, free_blk h.blk⟩
theorem HdAt.load {w : World} {b : Nat} {x0 x1 x2 x3 : Int} (h : HdAt w b x0 x1 x2 x3) : (loadVar 57 ⟨b, 0, none⟩).run Tryz.prog w = .ok (.agg (headA x0 x1 x2 x3)) w := load_hd h.blk
theorem HdAt.set0 {w : World} {b : Nat} {x0 x1 x2 x3 : Int} (h : HdAt w b x0 x1 x2 x3) (y : Int) : HdAt (w.setCell ⟨b, 0, none⟩ (.int .i64 y)) b y x1 x2 x3 := ⟨by
 rw [setCell_eq_setRow w b 0 _ 57 (0, 0) _ h.blk]
 exact setRow_heap w b _ _ 57 (0, 0) h.blk⟩
theorem HdAt.of {w w' : World} {b : Nat} {x0 x1 x2 x3 : Int} (h : HdAt w b x0 x1 x2 x3) (k : w'.heap[b]? = w.heap[b]?) : HdAt w' b x0 x1 x2 x3 := ⟨k.trans h.blk⟩
end Go.Proofs.YtjdikhelabibnaaGreat

namespace Go.Proofs.YtjdikhelabibnaaGreat
open Go Go.RowKit Go.Shelf
attribute [local go_sem] Oper.semAt_some
theorem byt_bs {d : List Nat} (h : Bs d) : Byt (ints d) := byt_ints (fun x hx => by
 obtain ⟨i, hi, he⟩ := mem_getD11 (z := 0) hx
 rw [← he, cf_getD]; exact h i)
noncomputable def stepR (super at' : Int) (x : List (List Nat)) (s : Option (Int × List EV)) (i : Nat) : Option (Int × List EV) := open Classical in
 match s with
 | none => none
 | some (se, sl) => if parE (ints (x.getD i [])) = 0 ∧ parH (ints (x.getD i [])) 0 = (if i = 0 then parH (ints (x.getD i [])) 0 else se) ∧ parH (ints (x.getD i [])) 1 = super ∧ parH (ints (x.getD i [])) 2 = at' ∧ parH (ints (x.getD i [])) 3 = (i : Int)
   then some (if i = 0 then parH (ints (x.getD i [])) 0 else se, sl ++ [parV (ints (x.getD i []))]) else none
noncomputable def stR (super at' : Int) (x : List (List Nat)) (is : List Nat) : Option (Int × List EV) := is.foldl (stepR super at' x) (some (0, []))
theorem stR_snoc (super at' : Int) (x : List (List Nat)) (is : List Nat) (i : Nat) : stR super at' x (is ++ [i]) = stepR super at' x (stR super at' x is) i := by rw [stR, List.foldl_append]; rfl
open Classical in
theorem stR_range (super at' : Int) (x : List (List Nat)) (k : Nat) : stR super at' x (List.range k) = if ∀ i, i < k → goodR super at' x i then some (if k = 0 then 0 else parH (ints (x.getD 0 [])) 0, (List.range k).map (fun i => parV (ints (x.getD i [])))) else none := by
 induction k with
 | zero => rw [if_pos (fun i hi => by omega)]; rfl
 | succ k ih =>
  rw [List.range_succ, stR_snoc, ih]
  by_cases h : ∀ i, i < k → goodR super at' x i
  ·rw [if_pos h]
   unfold stepR
   dsimp only
   have hse : (if k = 0 then parH (ints (x.getD k [])) 0 else if k = 0 then 0 else parH (ints (x.getD 0 [])) 0) = parH (ints (x.getD 0 [])) 0 := by
    by_cases hk : k = 0
    ·subst hk; rw [if_pos rfl]
    rw [if_neg hk, if_neg hk]
   rw [hse]
   by_cases hg : goodR super at' x k
   ·obtain ⟨h1, h2, h3, h4, h5⟩ := id hg
    rw [if_pos ⟨h1, h5, h2, h3, h4⟩, if_pos (fun i hi => by
     by_cases e : i = k
     ·rw [e]; exact hg
     exact h i (by omega)), if_neg (by omega), List.map_append]
    rfl
   rw [if_neg (fun ⟨h1, h2, h3, h4, h5⟩ => hg ⟨h1, h3, h4, h5, h2⟩), if_neg (fun h' => hg (h' k (by omega)))]
  rw [if_neg h, if_neg (fun h' => h (fun i hi => h' i (by omega)))]
  rfl
theorem rowF_good {super at' se : Int} {x : List (List Nat)} {sl : List EV} {d : Nat} (hd : x.length - 2 = d) (h0 : 0 < d) (h : stR super at' x (List.range d) = some (se, sl)) : rowF super at' x = (⟨se, at', sl⟩, 0) := by
 rw [stR_range] at h
 by_cases hg : ∀ i, i < d → goodR super at' x i
 ·rw [if_pos hg, if_neg (by omega : ¬ d = 0)] at h
  have h4 := Option.some.inj h
  have h5 := congrArg Prod.fst h4
  have h6 := congrArg Prod.snd h4
  dsimp only at h5 h6
  unfold rowF
  rw [hd, if_pos hg, h5, h6]
 rw [if_neg hg] at h; cases h
theorem grow_cells {A B : World} {row : Option Nat} (hg : A.grownBy B row) (hr : ∀ r, row = some r → ∃ o : Obj, A.heap[r]? = some o ∧ o.isCells = false) {k : Nat} {cs : Array Value} {t : TypeId} {fr : Nat × Nat} (h : A.heap[k]? = some (.cells cs t fr)) : B.heap[k]? = A.heap[k]? :=
 hg.block k (Array.getElem?_eq_some_iff.1 h).1 (fun e => by
  obtain ⟨o, ho, hc⟩ := hr k e.symm
  rw [h] at ho; cases ho; cases hc)
theorem one_row11 (a b : Int) (o : Option Addr) (n c : Nat) : (#[Value.int .i64 a, .int .i64 b, .slice o n c] : Array Value).all (·.oneCell') = true := all_oneCell_toArray (cs := [Value.int .i64 a, .int .i64 b, .slice o n c]) (by intro v hv; simp only [List.mem_cons, List.not_mem_nil, or_false] at hv; rcases hv with rfl | rfl | rfl <;> rfl)
theorem load_er11 (w : World) (ad : Addr) (x : Value) (hc : w.cell? ad = some x) : (loadVar 26 ad).run Tryz.prog w = .ok x w := by
 have hu := Tryz.underlying26
 simp [loadVar, isAgg, run_underlying hu, run_load, hc]
structure RwAt (w : World) (b : Nat) (x0 x1 : Int) (v : Value) : Prop where
 blk : w.heap[b]? = some (.cells #[.int .i64 x0, .int .i64 x1, v] 37 (0, 0))
theorem RwAt.lt {w : World} {b : Nat} {x0 x1 : Int} {v : Value} (h : RwAt w b x0 x1 v) : b < w.heap.size := (Array.getElem?_eq_some_iff.1 h.blk).1
theorem RwAt.of {w w' : World} {b : Nat} {x0 x1 : Int} {v : Value} (h : RwAt w b x0 x1 v) (k : w'.heap[b]? = w.heap[b]?) : RwAt w' b x0 x1 v := ⟨k.trans h.blk⟩
theorem RwAt.below {w w' : World} {b : Nat} {x0 x1 : Int} {v : Value} (h : RwAt w b x0 x1 v) (k : Below w.heap.size w w') : RwAt w' b x0 x1 v := h.of (k.block b h.lt)
theorem RwAt.cells {w : World} {b : Nat} {x0 x1 : Int} {v : Value} (h : RwAt w b x0 x1 v) : w.cell? ⟨b, 0, none⟩ = some (.int .i64 x0) ∧ w.cell? ⟨b, 1, none⟩ = some (.int .i64 x1) ∧ w.cell? ⟨b, 2, none⟩ = some v := ⟨cell_blk h.blk rfl, cell_blk h.blk rfl, cell_blk h.blk rfl⟩
theorem RwAt.free {w : World} {b : Nat} {x0 x1 : Int} {v : Value} (h : RwAt w b x0 x1 v) (j : Nat) : w.frozen? ⟨b, j, none⟩ = false := free_blk h.blk
theorem RwAt.load {w : World} {b : Nat} {x0 x1 : Int} {v : Value} (h : RwAt w b x0 x1 v) : (loadVar 37 ⟨b, 0, none⟩).run Tryz.prog w = .ok (.agg #[.int .i64 x0, .int .i64 x1, v]) w :=
 run_loadVar_mid (P := Tryz.prog) _ b 0 37 [.int .i64 x0, .int .i64 x1, v] _ (fun j u hu => cell_blk h.blk (by rw [Nat.zero_add]; simpa using hu)) Tryz.underlying37 (by rfl) (by kernel_rfl)
theorem RwAt.set2 {w : World} {b : Nat} {x0 x1 : Int} {v : Value} (h : RwAt w b x0 x1 v) (u : Value) : RwAt (w.setCell ⟨b, 2, none⟩ u) b x0 x1 u := ⟨by
 rw [setCell_eq_setRow w b 2 _ 37 (0, 0) _ h.blk]
 exact setRow_heap w b _ _ 37 (0, 0) h.blk⟩
theorem RwAt.set0 {w : World} {b : Nat} {x0 x1 : Int} {v : Value} (h : RwAt w b x0 x1 v) (y : Int) : RwAt (w.setCell ⟨b, 0, none⟩ (.int .i64 y)) b y x1 v := ⟨by
 rw [setCell_eq_setRow w b 0 _ 37 (0, 0) _ h.blk]
 exact setRow_heap w b _ _ 37 (0, 0) h.blk⟩
theorem parD_bs {zs : List Int} (h : Byt zs) : ∀ j, cf (parD zs) j < 256 := by
 unfold parD
 split
 ·have hp : Bs (pD zs) := Bs.of (fun x hx => ?_)
  ·exact hp
  unfold pD nat10 at hx
  obtain ⟨z, hz, rfl⟩ := List.mem_map.1 hx
  have hb : Byt (st1 zs).1 := byt_rdS h
  rw [show pE zs = rdL ([1, 8, 8] ++ List.replicate 16 1) (st1 zs) from rfl, rdL_app, List.drop_left' (by rw [rdL_len]; rfl)] at hz
  have := rd_ones (n := 16) (s := rdS [1, 8, 8] (st1 zs)) (byt_rdS hb) z hz
  omega
 exact zEV_ok.bs
theorem rarg_vrow {W : World} {ao : Option Addr} {N c G : Nat} {A : Nat → Option Addr} {C : Nat → Nat} {l : List (List Nat)} (h : RArg W (.slice ao N c) G A C l) (hl : l.length = N) : VRow W ao G A (fun i => (l.getD i []).length) C N := by
 obtain ⟨ao', c', hv, -, -, -, hrow⟩ := h.ex
 cases hv
 exact hrow
theorem ev_ar_mk (k l s : Int) (d : List Nat) : (EV.mk k l s d).ar = entA k l s d := rfl
theorem parR_ev {e : Ending} {zs : List Int} (h : ParR e zs) : e = .returned (.tuple #[.agg #[.int .i64 (parH zs 0), .int .i64 (parH zs 1), .int .i64 (parH zs 2), .int .i64 (parH zs 3)], .agg (parV zs).ar, .int .i64 (parE zs)]) := by
 unfold ParR at h
 rw [headA] at h
 rw [parV, ev_ar_mk]
 exact h
theorem cmp11 {p0 p1 p2 p3 s u a d e pe : Int} {r : Bool} (hpe : pe = 0) (h : (!(decide (p0 = s) && (decide (p1 = u) && (decide (p2 = a) && decide (p3 = d))))) = r) (he : d = e) :
  (r = true → ¬ (pe = 0 ∧ p0 = s ∧ p1 = u ∧ p2 = a ∧ p3 = e)) ∧ (r = false → pe = 0 ∧ p0 = s ∧ p1 = u ∧ p2 = a ∧ p3 = e) := by
 subst he
 constructor
 ·intro hr
  rw [hr] at h
  rintro ⟨-, h0, h1, h2, h3⟩
  rw [decide_eq_true h0, decide_eq_true h1, decide_eq_true h2, decide_eq_true h3] at h
  cases h
 intro hr
 rw [hr] at h
 exact ⟨hpe, by simpa using h⟩
theorem parV_ok {zs : List Int} (h : Byt zs) : (parV zs).Ok := by
 have h1 := parD_len zs
 have h2 := parD_bs h
 unfold parV
 generalize parD zs = d at h1 h2 ⊢
 exact ⟨h1, h2⟩
set_option maxRecDepth 100000 in
set_option maxHeartbeats 16000000 in
theorem rowO_any (ao : Option Addr) (N c G : Nat) (A : Nat → Option Addr) (C : Nat → Nat) (x : List (List Nat)) (super at' : Int) (h6 : 6 ≤ N) (h8 : N ≤ 8) (hln : x.length = N) (hlen : ∀ i, (x.getD i []).length ≤ 100000) (w : World) (hA : RArg w (.slice ao N c) G A C x) :
  Calls Tryz.prog 37 #[.slice ao N c, .agg #[.int .i64 0, .int .i64 super, .int .i64 at', .int .i64 0]] w fun e w' => Below w.heap.size w w' ∧ ∃ u, e = .returned (.tuple #[u, .int .i64 (rowF super at' x).2]) ∧ RowAt w.heap.size w' u (rowF super at' x).1 := by
 have HA := hide hA
 have HLN := hide hln
 have HLEN := hide hlen
 have hrow := rarg_vrow hA hln
 have HR := hide hrow
 have hgl : 0 < N := by omega
 have hGw : G < w.heap.size := hrow.lt hgl
 obtain ⟨d, hd⟩ : ∃ d, N = d + 2 := ⟨N - 2, by omega⟩
 have hdN : (N : Int) = (d : Int) + 2 := by omega
 have HDN := hide hd
 clear hA hln hlen hrow hd
 refine (callsIn_wide (n := 3)).1 ?_
 refine callsIn_of_wp_marks Tryz.func37 rfl trivial ?_ rfl
 simp only [Tryz.ntmps37, List.size_toArray, List.length_cons, List.length_nil, Nat.reduceAdd, Nat.reduceSub, Array.replicate_succ, Array.replicate_zero, List.push_toArray, List.append_toArray, List.nil_append, List.cons_append]
 gi_wp2
 obtain ⟨w1, hw1⟩ : ∃ w1, ((((w.alloc (.cells #[.int .i64 0, .int .i64 super, .int .i64 at', .int .i64 0] 57)).alloc (.cells #[.int .i64 0, .int .i64 0, .slice none 0 0] 37)).alloc (.cells #[.int .i64 0] 26)).alloc (.cells #[.int .i64 0, .int .i64 at', .slice none 0 0] 37)) = w1 := ⟨_, rfl⟩
 have q0 : HdAt w1 w.heap.size 0 super at' 0 := ⟨by rw [← hw1]; exact (Below.heap_alloc _ _ _ (by simp <;> omega)).trans ((Below.heap_alloc _ _ _ (by simp <;> omega)).trans ((Below.heap_alloc _ _ _ (by simp)).trans (World.alloc_heap_new w _)))⟩
 have q1 : RwAt w1 (w.heap.size + 1) 0 0 (.slice none 0 0) := ⟨by
  have h := World.alloc_heap_new (w.alloc (.cells #[.int .i64 0, .int .i64 super, .int .i64 at', .int .i64 0] 57)) (.cells #[.int .i64 0, .int .i64 0, .slice none 0 0] 37)
  rw [World.size_alloc] at h
  rw [← hw1]; exact (Below.heap_alloc _ _ _ (by simp <;> omega)).trans ((Below.heap_alloc _ _ _ (by simp)).trans h)⟩
 have q2 : Boxed w1 (w.heap.size + 1 + 1) 26 (.int .i64 0) := by
  have h := World.alloc_heap_new ((w.alloc (.cells #[.int .i64 0, .int .i64 super, .int .i64 at', .int .i64 0] 57)).alloc (.cells #[.int .i64 0, .int .i64 0, .slice none 0 0] 37)) (.cells #[.int .i64 0] 26)
  rw [World.size_alloc, World.size_alloc] at h
  rw [← hw1]; exact (Below.heap_alloc _ _ _ (by simp)).trans h
 have q3 : RwAt w1 (w.heap.size + 1 + 1 + 1) 0 at' (.slice none 0 0) := ⟨by
  have h := World.alloc_heap_new (((w.alloc (.cells #[.int .i64 0, .int .i64 super, .int .i64 at', .int .i64 0] 57)).alloc (.cells #[.int .i64 0, .int .i64 0, .slice none 0 0] 37)).alloc (.cells #[.int .i64 0] 26)) (.cells #[.int .i64 0, .int .i64 at', .slice none 0 0] 37)
  rw [World.size_alloc, World.size_alloc, World.size_alloc] at h
  rw [← hw1]; exact h⟩
 have hk1 : Below w.heap.size w w1 := by rw [← hw1]; exact ((((Below.refl _ w).alloc (Nat.le_refl _) _).alloc (by simp) _).alloc (by simp <;> omega) _).alloc (by simp <;> omega) _
 have hz1 : w1.heap.size = w.heap.size + 4 := by rw [← hw1]; simp
 rw [hw1]
 clear hw1
 have hz1a := Nat.le_of_eq hz1
 have hz1b := Nat.le_of_eq hz1.symm
 clear hz1
 refine ⟨trivial, (callsIn_wide.2 (slotsB_any ao N c ((d : Int) + 2) w1)).mono ?_⟩
 rintro e w2 ⟨rfl, k1, k2, hz2, hk⟩
 have HS := hide (slotsB_seq (d := d) (by omega) (by omega) ((uh HR).kq (n := w.heap.size) (S := []) ⟨(hk1.trans (hk.mono hk1.size)).size, fun k hk' _ => (hk1.trans (hk.mono hk1.size)).block k hk'⟩ (fun _ => ⟨hGw, by simp⟩)) k2 k1)
 have Q0 := hide (q0.below hk)
 have Q1 := hide (q1.below hk)
 have Q2 := hide (Boxed.below q2 hk)
 have Q3 := hide (q3.below hk)
 have HT := hide (hk1.trans (hk.mono hk1.size))
 have hz2a : w.heap.size + 4 ≤ w2.heap.size := by omega
 clear q0 q1 q2 q3 hk1 hk k1 k2 hz2
 gi_wp2
 refine wpIn_rangeFunc_ownF rfl (by omega) (gf := 102) (lb := #[.pointer (some ⟨w1.heap.size + 1, 0, none⟩), .pointer (some ⟨w1.heap.size, 0, none⟩)]) rfl trivial (uh HS).enters
  ((uh HS).seq w2 [w.heap.size, w.heap.size + 1 + 1 + 1] w2.heap.size (Below.refl _ _) (by intro s hs; simp only [List.mem_cons, List.not_mem_nil, or_false] at hs; rintro (h | ⟨-, h⟩) <;> omega) (Nat.le_refl _))
  (fun h k => h.trans k) (kq_b (Nat.le_refl _)) (Below.refl _ _) (fun _ => rfl)
  (fun pre W => (∃ se sl v, stR super at' x (pre.map Fin.val) = some (se, sl) ∧ HdAt W w.heap.size se super at' 0 ∧ RwAt W (w.heap.size + 1 + 1 + 1) 0 at' v ∧ OwnE w2.heap.size W v sl ∧ sl.length = pre.length) ∧ (RwAt W (w.heap.size + 1) 0 0 (.slice none 0 0) ∧ Boxed W (w.heap.size + 1 + 1) 26 (.int .i64 0) ∧ w2.heap.size ≤ W.heap.size) ∧ Below w.heap.size w W)
  (fun cc pre W => (cc = .ret ∧ stR super at' x (pre.map Fin.val) = none ∧ RwAt W (w.heap.size + 1) 0 0 (.slice none 0 0) ∧ Boxed W (w.heap.size + 1 + 1) 26 (.int .i64 5)) ∧ Below w.heap.size w W)
  (OwnFrom.and (Own.from (fun s A B row hs hg hr => by
   obtain ⟨se, sl, v, h1, h2, h3, h4, h5⟩ := hs
   exact ⟨se, sl, v, h1, h2.of (grow_cells hg hr h2.blk), h3.of (grow_cells hg hr h3.blk), ⟨h4.1.keep (fun g cur _ h => grow_cells hg hr h), h4.2⟩, h5⟩) _) (OwnFrom.and (Own.from (fun s A B row hs hg hr => ⟨hs.1.of (grow_cells hg hr hs.1.blk), (grow_cells hg hr hs.2.1).trans hs.2.1, Nat.le_trans hs.2.2 hg.size⟩) _) (ownFrom_below (Nat.le_refl _) (by omega))))
  (fun cc => OwnFrom.and (Own.from (fun s A B row hs hg hr => ⟨hs.1, hs.2.1, hs.2.2.1.of (grow_cells hg hr hs.2.2.1.blk), (grow_cells hg hr hs.2.2.2).trans hs.2.2.2⟩) _) (ownFrom_below (Nat.le_refl _) (by omega)))
  ⟨⟨0, [], .slice none 0 0, rfl, uh Q0, uh Q3, OwnE.nil _ _, rfl⟩, ⟨uh Q1, uh Q2, Nat.le_refl _⟩, uh HT⟩
  ?act ?assign ?body ?done ?stop
 case assign =>
  intro l y W K hK
  gi_wp2
  exact hK
 case body =>
  rintro l' pre y W ⟨⟨se, sl, v, hst, hhd, hrw, hown, hsl⟩, ⟨hr1, hr2, hzw⟩, hB⟩ hlt
  have hy := y.isLt
  obtain ⟨gy, hAy⟩ := ((uh HA).below hB).rows y.val (by rw [uh HLN]; omega)
  have HPZ := hide (parse_any (A y.val) gy (x.getD y.val []).length (C y.val) (ints (x.getD y.val [])) W (by have := uh HLEN y.val; omega) (ints_len _) (byt_bs hAy.bs) (by obtain ⟨_, _, he, _, _, _, h⟩ := hAy.ex; cases he; exact h))
  have HBY := hide (byt_bs hAy.bs)
  obtain ⟨zs, hzs⟩ : ∃ zs, ints (x.getD y.val []) = zs := ⟨_, rfl⟩
  have HZS := hide hzs
  rw [hzs] at HPZ HBY
  obtain ⟨va, vn, vc, hv⟩ : ∃ a n c, v = .slice a n c := by obtain ⟨a, c, h, _⟩ := hown.1.shape; exact ⟨_, _, _, h⟩
  subst hv
  have HST := hide hst
  have HHD := hide hhd
  have HRW := hide hrw
  have HOWN := hide hown
  have HSL := hide hsl
  have HR1 := hide hr1
  have HR2 := hide hr2
  have HZW := hide hzw
  have HB := hide hB
  clear hst hhd hrw hown hr1 hr2 hzw hB hAy hzs hsl
  gi_wp2
  refine ⟨trivial, (CallsIn.inRound l' (callsIn_wide.2 (uh HPZ))).mono ?_⟩
  rintro e W3 ⟨hp, hk⟩
  obtain ⟨p0, hp0⟩ : ∃ p, parH zs 0 = p := ⟨_, rfl⟩
  obtain ⟨p1, hp1⟩ : ∃ p, parH zs 1 = p := ⟨_, rfl⟩
  obtain ⟨p2, hp2⟩ : ∃ p, parH zs 2 = p := ⟨_, rfl⟩
  obtain ⟨p3, hp3⟩ : ∃ p, parH zs 3 = p := ⟨_, rfl⟩
  obtain ⟨pe, hpe⟩ : ∃ p, parE zs = p := ⟨_, rfl⟩
  obtain ⟨ev, hev⟩ : ∃ p, parV zs = p := ⟨_, rfl⟩
  have he := parR_ev hp
  rw [hp0, hp1, hp2, hp3, hpe, hev] at he
  subst he
  have HEV : Hid ev.Ok := by rw [← hev]; exact parV_ok (uh HBY)
  have HX := hide (show parH zs 0 = p0 ∧ parH zs 1 = p1 ∧ parH zs 2 = p2 ∧ parH zs 3 = p3 ∧ parE zs = pe ∧ parV zs = ev from ⟨hp0, hp1, hp2, hp3, hpe, hev⟩)
  have hstep : stR super at' x ((pre ++ [y]).map Fin.val) = if pe = 0 ∧ p0 = (if y.val = 0 then p0 else se) ∧ p1 = super ∧ p2 = at' ∧ p3 = (y.val : Int) then some (if y.val = 0 then p0 else se, sl ++ [ev]) else none := by
   rw [List.map_append, List.map_singleton, stR_snoc, uh HST]
   unfold stepR
   dsimp only
   rw [uh HZS, hp0, hp1, hp2, hp3, hpe, hev]
  obtain ⟨s', hs'⟩ : ∃ s', (if y.val = 0 then p0 else se) = s' := ⟨_, rfl⟩
  rw [hs'] at hstep
  have HSTEP := hide hstep
  have HS' : Hid ((y.val = 0 → s' = p0) ∧ (y.val ≠ 0 → s' = se)) := ⟨fun h => by rw [← hs', if_pos h], fun h => by rw [← hs', if_neg h]⟩
  clear hs'
  have HK3 := hide hk
  have hz3 := hk.size
  clear hp hp0 hp1 hp2 hp3 hpe hev hstep hk HX HZS HST HBY
  obtain ⟨W5, hW5⟩ : ∃ W5, (W3.alloc (.cells #[.int .i64 p0, .int .i64 p1, .int .i64 p2, .int .i64 p3] 57)).alloc (.cells ev.ar 44) = W5 := ⟨_, rfl⟩
  have hk5 : Below W3.heap.size W3 W5 := by rw [← hW5]; exact ((Below.refl _ W3).alloc (Nat.le_refl _) _).alloc (by simp) _
  have H9 : Hid (HdAt W5 W3.heap.size p0 p1 p2 p3) := ⟨by rw [← hW5]; exact (Below.heap_alloc _ _ _ (by simp)).trans (World.alloc_heap_new W3 _)⟩
  have H10 : Hid (EvAt W5 (W3.heap.size + 1) ev) := ⟨by
   have h := World.alloc_heap_new (W3.alloc (.cells #[.int .i64 p0, .int .i64 p1, .int .i64 p2, .int .i64 p3] 57)) (.cells ev.ar 44)
   rw [World.size_alloc] at h
   rw [← hW5]; exact h⟩
  have hk35 : Below W.heap.size W W5 := (uh HK3).trans (hk5.mono hz3)
  replace HHD := hide ((uh HHD).below hk35)
  replace HRW := hide ((uh HRW).below hk35)
  replace HOWN := hide ((uh HOWN).below hk35)
  replace HR1 := hide ((uh HR1).below hk35)
  replace HR2 := hide (Boxed.below (uh HR2) hk35)
  have hz5 := hk35.size
  have hz5b : W3.heap.size + 2 ≤ W5.heap.size := by rw [← hW5]; simp
  have HK5 := hide hk35
  obtain ⟨hc0, -, -, -, hf0⟩ := (uh HHD).cells
  obtain ⟨h90, -, -, -, -⟩ := (uh H9).cells
  clear hk5 hk35 HK3
  have hstn := fun (a : World) (hq : a = W3.alloc (.cells #[.int .i64 p0, .int .i64 p1, .int .i64 p2, .int .i64 p3] 57)) => hW5
  clear hstn
  have hy0 : (y.val : Int) = 0 ∨ ¬ ((y.val : Int) = 0) := by omega
  rcases hy0 with hy0 | hy0
  ·gi_wp2_with (first | (refine wpListIn_store_new12 rfl 44 _ _ rfl _ ev.ar 44 (W3.heap.size + 1) rfl (World.size_alloc _ _) rfl (by rw [EV.ar_size (uh HEV)]; kernel_rfl) (by rw [EV.ar_size (uh HEV)]; rfl) ev.ar_one ?_) | (rw [hW5]))
   obtain ⟨W6, hW6⟩ : ∃ W6, W5.setCell ⟨w.heap.size, 0, none⟩ (.int .i64 p0) = W6 := ⟨_, rfl⟩
   have H6 : Hid (HdAt W6 w.heap.size s' super at' 0) := by rw [← hW6, (uh HS').1 (by omega)]; exact (uh HHD).set0 p0
   have hz6 : W6.heap.size = W5.heap.size := by rw [← hW6]; simp [World.setCell]
   have hob : ∀ k, k ≠ w.heap.size → W6.heap[k]? = W5.heap[k]? := fun k hk => by rw [← hW6]; exact Below.heap_setCell _ _ _ _ (fun e => hk e)
   have HKO : Hid (KeepsOthers W W6) := by rw [← hW6]; exact (kept_of_below (uh HK5)).trans (KeepsOthers.setCell _ _ _)
   have HB6 : Hid (Below w.heap.size w W6) := by rw [← hW6]; exact ((uh HB).trans ((uh HK5).mono (uh HB).size)).setCell (p := ⟨w.heap.size, 0, none⟩) (Nat.le_refl _) _
   rw [hW6]
   clear hW6 HHD
   have hzz := (uh HRW).lt
   have hzw1 := uh HZW
   have h9z := (uh H9).lt
   replace H9 := hide ((uh H9).of (hob _ (by omega)))
   replace H10 : Hid (EvAt W6 (W3.heap.size + 1) ev) := ⟨(hob _ (by omega)).trans (uh H10).blk⟩
   replace HRW := hide ((uh HRW).of (hob _ (by omega)))
   replace HR1 := hide ((uh HR1).of (hob _ (by omega)))
   replace HR2 : Hid (Boxed W6 (w.heap.size + 1 + 1) 26 (.int .i64 0)) := (hob _ (by omega)).trans (uh HR2)
   replace HOWN := hide ((uh HOWN).keep (fun g hg _ => hob g (by omega)))
   clear hc0 hf0 h90 hW5
   have HOB := hide hob
   clear hob
   by_cases hpe : pe = 0
   ·have hpe1 : (pe != 0) = false := by rw [hpe]; rfl
    have HPE := hide hpe
    obtain ⟨r, hr⟩ : ∃ r, (!(decide (p0 = s') && (decide (p1 = super) && (decide (p2 = at') && decide (p3 = 0))))) = r := ⟨_, rfl⟩
    have HNE := hide (fun W => neTH p0 p1 p2 p3 s' super at' 0 r hr W)
    have HCN : Hid ((r = true → ¬ (pe = 0 ∧ p0 = s' ∧ p1 = super ∧ p2 = at' ∧ p3 = (y.val : Int))) ∧ (r = false → pe = 0 ∧ p0 = s' ∧ p1 = super ∧ p2 = at' ∧ p3 = (y.val : Int))) := cmp11 hpe hr (by omega)
    clear hr
    refine wpIn_region_round (S := fun V => Below W6.heap.size W6 V) (by kernel_rfl) (by kernel_rfl) (fun ⟨_, _, h⟩ => h) ((Below.refl _ W6).drew) (fun hHeld => ?_)
    have HH := hide hHeld
    clear hHeld
    refine tkL 0 (uh HH) ?_
    (try simp only [layB])
    refine takeL (i := 1) (v := .bool false) rfl (by kernel_rfl) (by kernel_rfl) (by kernel_rfl) (fun _ _ _ h => h) (Or.inl ⟨by rfl, ?_⟩) (uh HH) ?_
    ·intro W1 hSW; have hne := hpe1; clear hSW; go_simp; all_goals (with_reducible rfl)
    (try simp only [layB])
    refine tkL 2 (uh HH) ?_
    (try simp only [layB])
    refine takeL (i := 3) (v := .agg (headA p0 p1 p2 p3)) rfl (by kernel_rfl) (by kernel_rfl) (by kernel_rfl) (fun _ _ _ h => h) (Or.inl ⟨by rfl, fun W1 hSW => run_load_agg9 rfl rfl (((uh H9).below hSW).load)⟩) (uh HH) ?_
    (try simp only [layB])
    refine takeL (i := 4) (v := .agg (headA s' super at' 0)) rfl (by kernel_rfl) (by kernel_rfl) (by kernel_rfl) (fun _ _ _ h => h) (Or.inl ⟨by rfl, fun W1 hSW => run_load_agg9 rfl rfl (((uh H6).below hSW).load)⟩) (uh HH) ?_
    (try simp only [layB])
    refine tkL 5 (uh HH) ?_
    (try simp only [layB])
    refine wpAnyH_ready (rs := [6]) (by kernel_rfl) (by simp) ?_
    refine consL rfl (fun K hK => ?_) AllReadyH.nil
    go_simp
    refine (on_any _ _ _ _ _ W6.drew).mono ?_
    rintro e W7 ⟨rfl, hk⟩
    have HK7 : Hid (Below W6.heap.size W6 W7) := (Below.refl _ W6).drew.trans hk
    clear hk
    go_wp2_with fail
    refine hK.out _ _ (uh HK7) (fun hHeld => ?_)
    clear hK K HH
    have HH := hide hHeld
    clear hHeld
    (try simp only [layB])
    refine takeL (i := 7) (v := .bool r) rfl (by kernel_rfl) (by kernel_rfl) (by kernel_rfl) (fun _ _ _ h => h) (Or.inl ⟨by rfl, fun W1 hSW => run_bin11 rfl rfl rfl (guard_TH _ _ _ _ _ _) (uh HNE W1)⟩) (uh HH) ?_
    (try simp only [layB])
    refine tkL 8 (uh HH) ?_
    (try simp only [layB])
    refine wpAnyH_done (by kernel_rfl) ?_ _
    have HR1x := hide ((uh HR1).below (uh HK7))
    have HR2x := hide (Boxed.below (uh HR2) (uh HK7))
    have HBx := hide ((uh HB6).trans ((uh HK7).mono (uh HB6).size))
    cases r
    ·have HGOOD := hide ((uh HCN).2 rfl)
     have H10x := hide ((uh H10).below (uh HK7))
     have HRWx := hide ((uh HRW).below (uh HK7))
     have HOWx := hide ((uh HOWN).below (uh HK7))
     have H6x := hide ((uh H6).below (uh HK7))
     have hz7 := (uh HK7).size
     have hzw2 := uh HZW
     have hcs := (uh HRWx).cells.2.2
     have hal : Below W7.heap.size W7 (W7.alloc (.cells ev.ar 44)) := (Below.refl _ _).alloc (Nat.le_refl _) _
     obtain ⟨v8, w8, hr8, ho8, hg8⟩ := run_append_ev (W7.alloc (.cells ev.ar 44)) w2.heap.size 22 (.slice va vn vc) sl ((uh HOWx).below hal) W7.heap.size 0 ev (range_ev W7 ev 44) (uh HEV) (by rw [uh HSL]; omega) (by have := hal.size; omega)
     have hrb : ∀ k, k < w2.heap.size → w8.heap[k]? = W7.heap[k]? := fun k hk => (hg8.block k (by have := hal.size; omega) (fun e => by have := ((uh HOWx).below hal).1.ownBlock e.symm; omega)).trans (hal.block k (by omega))
     obtain ⟨ua, un, uc, hu⟩ : ∃ a n c, v8 = .slice a n c := by obtain ⟨a, c, h, _⟩ := ho8.1.shape; exact ⟨_, _, _, h⟩
     subst hu
     have HRA := hide hr8
     have H8 : Hid (RwAt w8 (w.heap.size + 1 + 1 + 1) 0 at' (.slice va vn vc)) := (uh HRWx).of (hrb _ (by omega))
     have hf8 := (uh H8).free 2
     have hc8 := (uh H8).cells.2.2
     have HKO8 : Hid (KeepsOthers W w8) := ((uh HKO).trans ((kept_of_below (uh HK7)).trans (kept_of_below hal))).trans (KeepsOthers.of_grownBy hg8 (fun j o ej hj => by
      obtain ⟨-, cur, hcur⟩ := ((uh HOWx).below hal).1.ownBlock ej
      rw [hcur] at hj; cases hj; rfl))
     have HRB := hide hrb
     have HO8 := hide ho8
     have HZ8 : Hid (W7.heap.size ≤ w8.heap.size) := by have h1 := hal.size; have h2 := hg8.size; show _ ≤ _; omega
     have HB8 : Hid (Below w.heap.size w w8) := ((uh HBx).trans (hal.mono (uh HBx).size)).trans ⟨hg8.os, hg8.tape, hg8.output, hg8.size, fun k hk => hg8.block k (by have := (uh HBx).size; have := hal.size; omega) (fun e => by have := ((uh HOWx).below hal).1.ownBlock e.symm; omega)⟩
     clear hr8 ho8 hg8 hrb hal
     gi_wp2_with (first | (refine wpListIn_load_ev11 rfl _ rfl (W3.heap.size + 1) 0 rfl ev (uh HEV) (uh H10x).range ?_) | (refine wpListIn_build_ev11 rfl _ rfl ev (uh HEV) rfl ?_) | (gi_at_builtin; refine wpListIn_append_run11 rfl _ _ _ _ _ rfl _ _ rfl rfl (uh HRA) ?_))
     have h9 : ∀ k, k ≠ (w.heap.size + 1 + 1 + 1) → (w8.setCell ⟨(w.heap.size + 1 + 1 + 1), 2, none⟩ (.slice ua un uc)).heap[k]? = w8.heap[k]? := fun k hk => Below.heap_setCell _ _ _ _ (fun e => hk e)
     have hrb := uh HRB
     have hk7 := uh HK7
     have hk5 := uh HK5
     have hob := uh HOB
     have hz8 := uh HZ8
     have hz9 : (w8.setCell ⟨(w.heap.size + 1 + 1 + 1), 2, none⟩ (.slice ua un uc)).heap.size = w8.heap.size := by simp [World.setCell]
     refine ⟨(uh HKO8).trans (KeepsOthers.setCell _ _ _), ⟨by rw [hz9]; have := hk5.size; omega, fun k hk hks => ?_⟩, ⟨s', sl ++ [ev], by rw [uh HSTEP]; exact if_pos (uh HGOOD), (uh H6x).of ((h9 _ (by omega)).trans (hrb _ (by omega))), _, (uh H8).set2 _, (uh HO8).keep (fun g hg _ => h9 g (by omega)), by rw [List.length_append, List.length_append, uh HSL]; rfl⟩, ⟨(uh HR1).of ((h9 _ (by omega)).trans ((hrb _ (by omega)).trans (hk7.block _ (uh HR1).lt))), (h9 _ (by omega)).trans ((hrb _ (by omega)).trans ((hk7.block _ (Boxed.lt (uh HR2))).trans (uh HR2))), by rw [hz9]; omega⟩, (uh HB8).setCell (p := ⟨(w.heap.size + 1 + 1 + 1), 2, none⟩) (by simp <;> omega) _⟩
     simp only [List.mem_cons, List.not_mem_nil, or_false, not_or] at hks
     exact (h9 k hks.2).trans ((hrb k hk).trans ((hk7.block k (by have := hk5.size; omega)).trans ((hob k hks.1).trans (hk5.block k (by omega)))))
    have HBAD := hide ((uh HCN).1 rfl)
    have c20 : ((W7).setRow (w.heap.size + 1) #[.int .i64 0, .int .i64 0, .slice none 0 0]).cell? ⟨(w.heap.size + 1 + 1), 0, none⟩ = some (.int .i64 0) := (World.cell?_of_block (setRow_other _ _ _ _ (by simp))).trans (Boxed.cell (uh HR2x))
    have f20 : ((W7).setRow (w.heap.size + 1) #[.int .i64 0, .int .i64 0, .slice none 0 0]).frozen? ⟨(w.heap.size + 1 + 1), 0, none⟩ = false := (World.frozen?_of_block (a := ⟨(w.heap.size + 1 + 1), 0, none⟩) (setRow_other _ _ _ _ (by simp))).trans (Boxed.frozen (uh HR2x))
    gi_wp2_with (refine wpListIn_store_row11 rfl 37 _ _ rfl (w.heap.size + 1) #[.int .i64 0, .int .i64 0, .slice none 0 0] rfl rfl 37 _ (uh HR1x).blk (by kernel_rfl) rfl (one_row11 _ _ _ _ _) ?_)
    refine ⟨((uh HKO).trans (kept_of_below (uh HK7))).trans ((keeps_setRow (uh HR1x).blk).trans (KeepsOthers.setCell _ _ _)), ⟨rfl, ?_, ?_, ?_⟩, ?_⟩
    ·rw [uh HSTEP]; exact if_neg (uh HBAD)
    ·exact RwAt.of ⟨setRow_heap _ _ _ _ _ _ (uh HR1x).blk⟩ (Below.heap_setCell _ _ _ _ (by simp))
    ·exact Boxed.set (.int .i64 5) (show Boxed _ (w.heap.size + 1 + 1) 26 (.int .i64 0) from (setRow_other _ _ _ _ (by simp)).trans (uh HR2x))
    exact (below_setRow11 (uh HBx) (by omega) _).setCell (p := ⟨(w.heap.size + 1 + 1), 0, none⟩) (by simp <;> omega) _
   have hpe1 : (pe != 0) = true := by simp [bne, hpe]
   refine wpIn_region_round (S := fun V => Below W6.heap.size W6 V) (by kernel_rfl) (by kernel_rfl) (fun ⟨_, _, h⟩ => h) ((Below.refl _ W6).drew) (fun hHeld => ?_)
   have HH := hide hHeld
   clear hHeld
   refine tkL 0 (uh HH) ?_
   (try simp only [layB])
   refine takeL (i := 1) (v := .bool true) rfl (by kernel_rfl) (by kernel_rfl) (by kernel_rfl) (fun _ _ _ h => h) (Or.inl ⟨by rfl, ?_⟩) (uh HH) ?_
   ·intro W1 hSW; have hne := hpe1; clear hSW; go_simp; all_goals (with_reducible rfl)
   (try simp only [layB])
   refine tkL 2 (uh HH) ?_
   (try simp only [layB])
   refine tkU 3 (uh HH) ?_
   (try simp only [layB])
   refine tkU 4 (uh HH) ?_
   (try simp only [layB])
   refine tkU 5 (uh HH) ?_
   (try simp only [layB])
   refine tkU 6 (uh HH) ?_
   (try simp only [layB])
   refine tkU 7 (uh HH) ?_
   (try simp only [layB])
   refine tkL 8 (uh HH) ?_
   (try simp only [layB])
   refine wpAnyH_done (by kernel_rfl) ?_ _
   have HR1x := hide ((uh HR1).below (Below.refl _ W6).drew)
   have HR2x := hide (Boxed.below (uh HR2) (Below.refl _ W6).drew)
   have HBx := hide (uh HB6).drew
   have HBAD : Hid (¬ (pe = 0 ∧ p0 = s' ∧ p1 = super ∧ p2 = at' ∧ p3 = (y.val : Int))) := fun h => hpe h.1
   have c20 : ((W6.drew).setRow (w.heap.size + 1) #[.int .i64 0, .int .i64 0, .slice none 0 0]).cell? ⟨(w.heap.size + 1 + 1), 0, none⟩ = some (.int .i64 0) := (World.cell?_of_block (setRow_other _ _ _ _ (by simp))).trans (Boxed.cell (uh HR2x))
   have f20 : ((W6.drew).setRow (w.heap.size + 1) #[.int .i64 0, .int .i64 0, .slice none 0 0]).frozen? ⟨(w.heap.size + 1 + 1), 0, none⟩ = false := (World.frozen?_of_block (a := ⟨(w.heap.size + 1 + 1), 0, none⟩) (setRow_other _ _ _ _ (by simp))).trans (Boxed.frozen (uh HR2x))
   gi_wp2_with (refine wpListIn_store_row11 rfl 37 _ _ rfl (w.heap.size + 1) #[.int .i64 0, .int .i64 0, .slice none 0 0] rfl rfl 37 _ (uh HR1x).blk (by kernel_rfl) rfl (one_row11 _ _ _ _ _) ?_)
   refine ⟨((uh HKO).trans (kept_of_below (Below.refl _ W6).drew)).trans ((keeps_setRow (uh HR1x).blk).trans (KeepsOthers.setCell _ _ _)), ⟨rfl, ?_, ?_, ?_⟩, ?_⟩
   ·rw [uh HSTEP]; exact if_neg (uh HBAD)
   ·exact RwAt.of ⟨setRow_heap _ _ _ _ _ _ (uh HR1x).blk⟩ (Below.heap_setCell _ _ _ _ (by simp))
   ·exact Boxed.set (.int .i64 5) (show Boxed _ (w.heap.size + 1 + 1) 26 (.int .i64 0) from (setRow_other _ _ _ _ (by simp)).trans (uh HR2x))
   exact (below_setRow11 (uh HBx) (by omega) _).setCell (p := ⟨(w.heap.size + 1 + 1), 0, none⟩) (by simp <;> omega) _
  have hy1 : ((y.val : Int) == 0) = false := by rw [beq_eq_false_iff_ne]; exact hy0
  gi_wp2_with (first | (refine wpListIn_store_new12 rfl 44 _ _ rfl _ ev.ar 44 (W3.heap.size + 1) rfl (World.size_alloc _ _) rfl (by rw [EV.ar_size (uh HEV)]; kernel_rfl) (by rw [EV.ar_size (uh HEV)]; rfl) ev.ar_one ?_) | (rw [hW5]))
  obtain ⟨W6, hW6⟩ : ∃ W6, W5 = W6 := ⟨_, rfl⟩
  have H6 : Hid (HdAt W6 w.heap.size s' super at' 0) := by rw [← hW6, (uh HS').2 (by omega)]; exact (uh HHD)
  have hz6 : W6.heap.size = W5.heap.size := by rw [← hW6]
  have hob : ∀ k, k ≠ w.heap.size → W6.heap[k]? = W5.heap[k]? := fun k hk => by rw [← hW6]
  have HKO : Hid (KeepsOthers W W6) := by rw [← hW6]; exact (kept_of_below (uh HK5))
  have HB6 : Hid (Below w.heap.size w W6) := by rw [← hW6]; exact ((uh HB).trans ((uh HK5).mono (uh HB).size))
  rw [hW6]
  have hzz := (uh HRW).lt
  have hzw1 := uh HZW
  have h9z := (uh H9).lt
  replace H9 := hide ((uh H9).of (hob _ (by omega)))
  replace H10 : Hid (EvAt W6 (W3.heap.size + 1) ev) := ⟨(hob _ (by omega)).trans (uh H10).blk⟩
  replace HRW := hide ((uh HRW).of (hob _ (by omega)))
  replace HR1 := hide ((uh HR1).of (hob _ (by omega)))
  replace HR2 : Hid (Boxed W6 (w.heap.size + 1 + 1) 26 (.int .i64 0)) := (hob _ (by omega)).trans (uh HR2)
  replace HOWN := hide ((uh HOWN).keep (fun g hg _ => hob g (by omega)))
  clear hc0 hf0 h90 hW5
  have HOB := hide hob
  clear hob hW6 HHD
  by_cases hpe : pe = 0
  ·have hpe1 : (pe != 0) = false := by rw [hpe]; rfl
   have HPE := hide hpe
   obtain ⟨r, hr⟩ : ∃ r, (!(decide (p0 = s') && (decide (p1 = super) && (decide (p2 = at') && decide (p3 = (y.val : Int)))))) = r := ⟨_, rfl⟩
   have HNE := hide (fun W => neTH p0 p1 p2 p3 s' super at' (y.val : Int) r hr W)
   have HCN : Hid ((r = true → ¬ (pe = 0 ∧ p0 = s' ∧ p1 = super ∧ p2 = at' ∧ p3 = (y.val : Int))) ∧ (r = false → pe = 0 ∧ p0 = s' ∧ p1 = super ∧ p2 = at' ∧ p3 = (y.val : Int))) := cmp11 hpe hr (by omega)
   clear hr
   refine wpIn_region_round (S := fun V => Below W6.heap.size W6 V) (by kernel_rfl) (by kernel_rfl) (fun ⟨_, _, h⟩ => h) ((Below.refl _ W6).drew) (fun hHeld => ?_)
   have HH := hide hHeld
   clear hHeld
   refine tkL 0 (uh HH) ?_
   (try simp only [layB])
   refine takeL (i := 1) (v := .bool false) rfl (by kernel_rfl) (by kernel_rfl) (by kernel_rfl) (fun _ _ _ h => h) (Or.inl ⟨by rfl, ?_⟩) (uh HH) ?_
   ·intro W1 hSW; have hne := hpe1; clear hSW; go_simp; all_goals (with_reducible rfl)
   (try simp only [layB])
   refine tkL 2 (uh HH) ?_
   (try simp only [layB])
   refine takeL (i := 3) (v := .agg (headA p0 p1 p2 p3)) rfl (by kernel_rfl) (by kernel_rfl) (by kernel_rfl) (fun _ _ _ h => h) (Or.inl ⟨by rfl, fun W1 hSW => run_load_agg9 rfl rfl (((uh H9).below hSW).load)⟩) (uh HH) ?_
   (try simp only [layB])
   refine takeL (i := 4) (v := .agg (headA s' super at' 0)) rfl (by kernel_rfl) (by kernel_rfl) (by kernel_rfl) (fun _ _ _ h => h) (Or.inl ⟨by rfl, fun W1 hSW => run_load_agg9 rfl rfl (((uh H6).below hSW).load)⟩) (uh HH) ?_
   (try simp only [layB])
   refine tkL 5 (uh HH) ?_
   (try simp only [layB])
   refine wpAnyH_ready (rs := [6]) (by kernel_rfl) (by simp) ?_
   refine consL rfl (fun K hK => ?_) AllReadyH.nil
   go_simp
   refine (on_any _ _ _ _ _ W6.drew).mono ?_
   rintro e W7 ⟨rfl, hk⟩
   have HK7 : Hid (Below W6.heap.size W6 W7) := (Below.refl _ W6).drew.trans hk
   clear hk
   go_wp2_with fail
   refine hK.out _ _ (uh HK7) (fun hHeld => ?_)
   clear hK K HH
   have HH := hide hHeld
   clear hHeld
   (try simp only [layB])
   refine takeL (i := 7) (v := .bool r) rfl (by kernel_rfl) (by kernel_rfl) (by kernel_rfl) (fun _ _ _ h => h) (Or.inl ⟨by rfl, fun W1 hSW => run_bin11 rfl rfl rfl (guard_TH _ _ _ _ _ _) (uh HNE W1)⟩) (uh HH) ?_
   (try simp only [layB])
   refine tkL 8 (uh HH) ?_
   (try simp only [layB])
   refine wpAnyH_done (by kernel_rfl) ?_ _
   have HR1x := hide ((uh HR1).below (uh HK7))
   have HR2x := hide (Boxed.below (uh HR2) (uh HK7))
   have HBx := hide ((uh HB6).trans ((uh HK7).mono (uh HB6).size))
   cases r
   ·have HGOOD := hide ((uh HCN).2 rfl)
    have H10x := hide ((uh H10).below (uh HK7))
    have HRWx := hide ((uh HRW).below (uh HK7))
    have HOWx := hide ((uh HOWN).below (uh HK7))
    have H6x := hide ((uh H6).below (uh HK7))
    have hz7 := (uh HK7).size
    have hzw2 := uh HZW
    have hcs := (uh HRWx).cells.2.2
    have hal : Below W7.heap.size W7 (W7.alloc (.cells ev.ar 44)) := (Below.refl _ _).alloc (Nat.le_refl _) _
    obtain ⟨v8, w8, hr8, ho8, hg8⟩ := run_append_ev (W7.alloc (.cells ev.ar 44)) w2.heap.size 22 (.slice va vn vc) sl ((uh HOWx).below hal) W7.heap.size 0 ev (range_ev W7 ev 44) (uh HEV) (by rw [uh HSL]; omega) (by have := hal.size; omega)
    have hrb : ∀ k, k < w2.heap.size → w8.heap[k]? = W7.heap[k]? := fun k hk => (hg8.block k (by have := hal.size; omega) (fun e => by have := ((uh HOWx).below hal).1.ownBlock e.symm; omega)).trans (hal.block k (by omega))
    obtain ⟨ua, un, uc, hu⟩ : ∃ a n c, v8 = .slice a n c := by obtain ⟨a, c, h, _⟩ := ho8.1.shape; exact ⟨_, _, _, h⟩
    subst hu
    have HRA := hide hr8
    have H8 : Hid (RwAt w8 (w.heap.size + 1 + 1 + 1) 0 at' (.slice va vn vc)) := (uh HRWx).of (hrb _ (by omega))
    have hf8 := (uh H8).free 2
    have hc8 := (uh H8).cells.2.2
    have HKO8 : Hid (KeepsOthers W w8) := ((uh HKO).trans ((kept_of_below (uh HK7)).trans (kept_of_below hal))).trans (KeepsOthers.of_grownBy hg8 (fun j o ej hj => by
     obtain ⟨-, cur, hcur⟩ := ((uh HOWx).below hal).1.ownBlock ej
     rw [hcur] at hj; cases hj; rfl))
    have HRB := hide hrb
    have HO8 := hide ho8
    have HZ8 : Hid (W7.heap.size ≤ w8.heap.size) := by have h1 := hal.size; have h2 := hg8.size; show _ ≤ _; omega
    have HB8 : Hid (Below w.heap.size w w8) := ((uh HBx).trans (hal.mono (uh HBx).size)).trans ⟨hg8.os, hg8.tape, hg8.output, hg8.size, fun k hk => hg8.block k (by have := (uh HBx).size; have := hal.size; omega) (fun e => by have := ((uh HOWx).below hal).1.ownBlock e.symm; omega)⟩
    clear hr8 ho8 hg8 hrb hal
    gi_wp2_with (first | (refine wpListIn_load_ev11 rfl _ rfl (W3.heap.size + 1) 0 rfl ev (uh HEV) (uh H10x).range ?_) | (refine wpListIn_build_ev11 rfl _ rfl ev (uh HEV) rfl ?_) | (gi_at_builtin; refine wpListIn_append_run11 rfl _ _ _ _ _ rfl _ _ rfl rfl (uh HRA) ?_))
    have h9 : ∀ k, k ≠ (w.heap.size + 1 + 1 + 1) → (w8.setCell ⟨(w.heap.size + 1 + 1 + 1), 2, none⟩ (.slice ua un uc)).heap[k]? = w8.heap[k]? := fun k hk => Below.heap_setCell _ _ _ _ (fun e => hk e)
    have hrb := uh HRB
    have hk7 := uh HK7
    have hk5 := uh HK5
    have hob := uh HOB
    have hz8 := uh HZ8
    have hz9 : (w8.setCell ⟨(w.heap.size + 1 + 1 + 1), 2, none⟩ (.slice ua un uc)).heap.size = w8.heap.size := by simp [World.setCell]
    refine ⟨(uh HKO8).trans (KeepsOthers.setCell _ _ _), ⟨by rw [hz9]; have := hk5.size; omega, fun k hk hks => ?_⟩, ⟨s', sl ++ [ev], by rw [uh HSTEP]; exact if_pos (uh HGOOD), (uh H6x).of ((h9 _ (by omega)).trans (hrb _ (by omega))), _, (uh H8).set2 _, (uh HO8).keep (fun g hg _ => h9 g (by omega)), by rw [List.length_append, List.length_append, uh HSL]; rfl⟩, ⟨(uh HR1).of ((h9 _ (by omega)).trans ((hrb _ (by omega)).trans (hk7.block _ (uh HR1).lt))), (h9 _ (by omega)).trans ((hrb _ (by omega)).trans ((hk7.block _ (Boxed.lt (uh HR2))).trans (uh HR2))), by rw [hz9]; omega⟩, (uh HB8).setCell (p := ⟨(w.heap.size + 1 + 1 + 1), 2, none⟩) (by simp <;> omega) _⟩
    simp only [List.mem_cons, List.not_mem_nil, or_false, not_or] at hks
    exact (h9 k hks.2).trans ((hrb k hk).trans ((hk7.block k (by have := hk5.size; omega)).trans ((hob k hks.1).trans (hk5.block k (by omega)))))
   have HBAD := hide ((uh HCN).1 rfl)
   have c20 : ((W7).setRow (w.heap.size + 1) #[.int .i64 0, .int .i64 0, .slice none 0 0]).cell? ⟨(w.heap.size + 1 + 1), 0, none⟩ = some (.int .i64 0) := (World.cell?_of_block (setRow_other _ _ _ _ (by simp))).trans (Boxed.cell (uh HR2x))
   have f20 : ((W7).setRow (w.heap.size + 1) #[.int .i64 0, .int .i64 0, .slice none 0 0]).frozen? ⟨(w.heap.size + 1 + 1), 0, none⟩ = false := (World.frozen?_of_block (a := ⟨(w.heap.size + 1 + 1), 0, none⟩) (setRow_other _ _ _ _ (by simp))).trans (Boxed.frozen (uh HR2x))
   gi_wp2_with (refine wpListIn_store_row11 rfl 37 _ _ rfl (w.heap.size + 1) #[.int .i64 0, .int .i64 0, .slice none 0 0] rfl rfl 37 _ (uh HR1x).blk (by kernel_rfl) rfl (one_row11 _ _ _ _ _) ?_)
   refine ⟨((uh HKO).trans (kept_of_below (uh HK7))).trans ((keeps_setRow (uh HR1x).blk).trans (KeepsOthers.setCell _ _ _)), ⟨rfl, ?_, ?_, ?_⟩, ?_⟩
   ·rw [uh HSTEP]; exact if_neg (uh HBAD)
   ·exact RwAt.of ⟨setRow_heap _ _ _ _ _ _ (uh HR1x).blk⟩ (Below.heap_setCell _ _ _ _ (by simp))
   ·exact Boxed.set (.int .i64 5) (show Boxed _ (w.heap.size + 1 + 1) 26 (.int .i64 0) from (setRow_other _ _ _ _ (by simp)).trans (uh HR2x))
   exact (below_setRow11 (uh HBx) (by omega) _).setCell (p := ⟨(w.heap.size + 1 + 1), 0, none⟩) (by simp <;> omega) _
  have hpe1 : (pe != 0) = true := by simp [bne, hpe]
  refine wpIn_region_round (S := fun V => Below W6.heap.size W6 V) (by kernel_rfl) (by kernel_rfl) (fun ⟨_, _, h⟩ => h) ((Below.refl _ W6).drew) (fun hHeld => ?_)
  have HH := hide hHeld
  clear hHeld
  refine tkL 0 (uh HH) ?_
  (try simp only [layB])
  refine takeL (i := 1) (v := .bool true) rfl (by kernel_rfl) (by kernel_rfl) (by kernel_rfl) (fun _ _ _ h => h) (Or.inl ⟨by rfl, ?_⟩) (uh HH) ?_
  ·intro W1 hSW; have hne := hpe1; clear hSW; go_simp; all_goals (with_reducible rfl)
  (try simp only [layB])
  refine tkL 2 (uh HH) ?_
  (try simp only [layB])
  refine tkU 3 (uh HH) ?_
  (try simp only [layB])
  refine tkU 4 (uh HH) ?_
  (try simp only [layB])
  refine tkU 5 (uh HH) ?_
  (try simp only [layB])
  refine tkU 6 (uh HH) ?_
  (try simp only [layB])
  refine tkU 7 (uh HH) ?_
  (try simp only [layB])
  refine tkL 8 (uh HH) ?_
  (try simp only [layB])
  refine wpAnyH_done (by kernel_rfl) ?_ _
  have HR1x := hide ((uh HR1).below (Below.refl _ W6).drew)
  have HR2x := hide (Boxed.below (uh HR2) (Below.refl _ W6).drew)
  have HBx := hide (uh HB6).drew
  have HBAD : Hid (¬ (pe = 0 ∧ p0 = s' ∧ p1 = super ∧ p2 = at' ∧ p3 = (y.val : Int))) := fun h => hpe h.1
  have c20 : ((W6.drew).setRow (w.heap.size + 1) #[.int .i64 0, .int .i64 0, .slice none 0 0]).cell? ⟨(w.heap.size + 1 + 1), 0, none⟩ = some (.int .i64 0) := (World.cell?_of_block (setRow_other _ _ _ _ (by simp))).trans (Boxed.cell (uh HR2x))
  have f20 : ((W6.drew).setRow (w.heap.size + 1) #[.int .i64 0, .int .i64 0, .slice none 0 0]).frozen? ⟨(w.heap.size + 1 + 1), 0, none⟩ = false := (World.frozen?_of_block (a := ⟨(w.heap.size + 1 + 1), 0, none⟩) (setRow_other _ _ _ _ (by simp))).trans (Boxed.frozen (uh HR2x))
  gi_wp2_with (refine wpListIn_store_row11 rfl 37 _ _ rfl (w.heap.size + 1) #[.int .i64 0, .int .i64 0, .slice none 0 0] rfl rfl 37 _ (uh HR1x).blk (by kernel_rfl) rfl (one_row11 _ _ _ _ _) ?_)
  refine ⟨((uh HKO).trans (kept_of_below (Below.refl _ W6).drew)).trans ((keeps_setRow (uh HR1x).blk).trans (KeepsOthers.setCell _ _ _)), ⟨rfl, ?_, ?_, ?_⟩, ?_⟩
  ·rw [uh HSTEP]; exact if_neg (uh HBAD)
  ·exact RwAt.of ⟨setRow_heap _ _ _ _ _ _ (uh HR1x).blk⟩ (Below.heap_setCell _ _ _ _ (by simp))
  ·exact Boxed.set (.int .i64 5) (show Boxed _ (w.heap.size + 1 + 1) 26 (.int .i64 0) from (setRow_other _ _ _ _ (by simp)).trans (uh HR2x))
  exact (below_setRow11 (uh HBx) (by omega) _).setCell (p := ⟨(w.heap.size + 1 + 1), 0, none⟩) (by simp <;> omega) _
 case done =>
  rintro D xs W hD hxs ⟨⟨se, sl, v, hst, hhd, hrw, hown, hsl⟩, ⟨hr1, hr2, hzw⟩, hB⟩ hK
  obtain ⟨va, vn, vc, hv⟩ : ∃ a n c, v = .slice a n c := by obtain ⟨a, c, h, _⟩ := hown.1.shape; exact ⟨_, _, _, h⟩
  subst hv
  have hrf : rowF super at' x = (⟨se, at', sl⟩, 0) := rowF_good (d := d) (by rw [uh HLN, uh HDN]; omega) (by have := uh HDN; omega) (by rw [← (show xs.map Fin.val = List.range d from hxs)]; exact hst)
  have HRF := hide hrf
  obtain ⟨hh0, -, -, -, -⟩ := hhd.cells
  have hf0 := hrw.free 0
  obtain ⟨hc0, -, -⟩ := hrw.cells
  have hw1 := hrw.set0 se
  obtain ⟨e0, e1, e2⟩ := hw1.cells
  have q1 : RwAt (W.setCell ⟨w.heap.size + 1 + 1 + 1, 0, none⟩ (.int .i64 se)) (w.heap.size + 1) 0 0 (.slice none 0 0) := hr1.of (Below.heap_setCell _ _ _ _ (by simp))
  have q2 : Boxed ((W.setCell ⟨w.heap.size + 1 + 1 + 1, 0, none⟩ (.int .i64 se)).setRow (w.heap.size + 1) #[.int .i64 se, .int .i64 at', .slice va vn vc]) (w.heap.size + 1 + 1) 26 (.int .i64 0) := (setRow_other _ _ _ _ (by simp)).trans ((Below.heap_setCell _ _ _ _ (by simp)).trans hr2)
  have hc2 := Boxed.cell q2
  have hf2 := Boxed.frozen q2
  have q3 : RwAt ((W.setCell ⟨w.heap.size + 1 + 1 + 1, 0, none⟩ (.int .i64 se)).setRow (w.heap.size + 1) #[.int .i64 se, .int .i64 at', .slice va vn vc]) (w.heap.size + 1) se at' (.slice va vn vc) := ⟨setRow_heap _ _ _ _ _ _ q1.blk⟩
  obtain ⟨W9, hW9⟩ : ∃ W9, ((W.setCell ⟨w.heap.size + 1 + 1 + 1, 0, none⟩ (.int .i64 se)).setRow (w.heap.size + 1) #[.int .i64 se, .int .i64 at', .slice va vn vc]).setCell ⟨w.heap.size + 1 + 1, 0, none⟩ (.int .i64 0) = W9 := ⟨_, rfl⟩
  have hoth : ∀ k, k ≠ w.heap.size + 1 → k ≠ w.heap.size + 1 + 1 → k ≠ w.heap.size + 1 + 1 + 1 → W9.heap[k]? = W.heap[k]? := fun k h1 h2 h3 => by
   rw [← hW9]; exact (Below.heap_setCell _ _ _ _ (fun e => h2 e)).trans ((setRow_other _ _ _ _ h1).trans (Below.heap_setCell _ _ _ _ (fun e => h3 e)))
  have Q1 : Hid (RwAt W9 (w.heap.size + 1) se at' (.slice va vn vc)) := by rw [← hW9]; exact q3.of (Below.heap_setCell _ _ _ _ (by simp))
  have Q2 : Hid (Boxed W9 (w.heap.size + 1 + 1) 26 (.int .i64 0)) := by rw [← hW9]; exact q2.set _
  have QD : Hid (W9.heap[D]? = some (.deferred (some []))) := (hoth D (by omega) (by omega) (by omega)).trans hK
  have QO : Hid (OwnE w2.heap.size W9 (.slice va vn vc) sl) := hown.keep (fun g hg _ => hoth g (by omega) (by omega) (by omega))
  have QB : Hid (Below w.heap.size w W9) := by rw [← hW9]; exact (below_setRow11 (hB.setCell (p := ⟨w.heap.size + 1 + 1 + 1, 0, none⟩) (by simp <;> omega) _) (by omega) _).setCell (p := ⟨w.heap.size + 1 + 1, 0, none⟩) (by simp <;> omega) _
  have HR1 := hide q1.blk
  have HZD : Hid (w.heap.size ≤ D) := by show _ ≤ _; omega
  clear hst hhd hrw hown hsl hr1 hr2 hB hK hrf q1 q2 q3 hw1 hoth
  gi_wp2_with (refine wpListIn_store_row11 rfl 37 _ _ rfl (w.heap.size + 1) #[.int .i64 se, .int .i64 at', .slice va vn vc] rfl rfl 37 _ (uh HR1) (by kernel_rfl) rfl (one_row11 _ _ _ _ _) ?_)
  (try rw [hW9])
  refine ⟨by simp, .inl ⟨_, _, rfl, run_takeDeferred (uh QD), ?_⟩⟩
  have b1 : RwAt (W9.putObj D (.deferred none)) (w.heap.size + 1) se at' (.slice va vn vc) := (uh Q1).of (World.putObj_heap_other (by have := hD; omega))
  have b2 : Boxed (W9.putObj D (.deferred none)) (w.heap.size + 1 + 1) 26 (.int .i64 0) := (World.putObj_heap_other (by have := hD; omega)).trans (uh Q2)
  have b3 : OwnE w2.heap.size (W9.putObj D (.deferred none)) (.slice va vn vc) sl := ⟨(uh QO).1.keep (fun g cur _ hg => World.putObj_heap_other (fun e => by rw [e, uh QD] at hg; cases hg)), (uh QO).2⟩
  obtain ⟨g9, hg9, hg9b⟩ := b3.arg
  exact ⟨_, results_cells2 rfl _ _ ⟨w.heap.size + 1, 0, none⟩ ⟨w.heap.size + 1 + 1, 0, none⟩ _ _ rfl rfl b1.load (load_er11 _ _ _ b2.cell), (uh QB).trans (below_put _ _ (uh HZD)), _, by rw [uh HRF], by rw [uh HRF]; exact ⟨_, g9, rfl, hg9, fun h => by have := hg9b h; omega⟩⟩
 case stop =>
  rintro D cc pre W hD hpre ⟨⟨rfl, hst, hr1, hr2⟩, hB⟩ hK
  have hrf : rowF super at' x = (zRow, 5) := by
   have hd2 : x.length - 2 = d := by rw [uh HLN, uh HDN]; omega
   rw [hpre, stR_range] at hst
   by_cases hg : ∀ i, i < pre.length → goodR super at' x i
   ·rw [if_pos hg] at hst; cases hst
   have hpd : pre.length ≤ d := by
    rcases Nat.eq_zero_or_pos pre.length with h | h
    ·omega
    have hm : pre.length - 1 ∈ pre.map Fin.val := by rw [hpre]; exact List.mem_range.2 (by omega)
    obtain ⟨y, -, hy⟩ := List.mem_map.1 hm
    have := y.isLt
    omega
   unfold rowF
   rw [hd2, if_neg (fun h => hg (fun i hi => h i (by omega)))]
  gi_wp2
  refine ⟨by simp, .inl ⟨_, _, rfl, run_takeDeferred hK, ?_⟩⟩
  have b1 : RwAt (W.putObj D (.deferred none)) (w.heap.size + 1) 0 0 (.slice none 0 0) := hr1.of (World.putObj_heap_other (by omega))
  have b2 : Boxed (W.putObj D (.deferred none)) (w.heap.size + 1 + 1) 26 (.int .i64 5) := (World.putObj_heap_other (by omega)).trans hr2
  exact ⟨_, results_cells2 rfl _ _ ⟨w.heap.size + 1, 0, none⟩ ⟨w.heap.size + 1 + 1, 0, none⟩ _ _ rfl rfl b1.load (load_er11 _ _ _ b2.cell), hB.trans (below_put _ _ (by omega)), _, by rw [hrf], by rw [hrf]; exact ⟨_, 0, rfl, EArg.nil _, fun h => absurd rfl h⟩⟩
end Go.Proofs.YtjdikhelabibnaaGreat
