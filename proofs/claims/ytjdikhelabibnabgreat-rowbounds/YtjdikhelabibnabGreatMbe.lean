/-
  Steps with great items: built rows of one, appends, loads, stores.
-/
import Derived.Test.YtjdikhelabibnabGreatMbc
import Derived.Great.BuildSlice
namespace Go.Proofs.YtjdikhelabibnabGreat
open Go Go.RowKit Go.Shelf

theorem wpListIn_append_run11 {F : Fence} {n : Nat} {ops : Array Oper} {rest : List Oper} {o : Oper} {a : Act} {Q : Exit → Act → World → Prop} (hgd : o.guard = none) (w : World) (d s : Operand) (t t' : TypeId)
    (ho : o.op = .call { callee := .builtin .append, args := #[d, s], argTypes := #[t, t'] }) (v u : Value) (hd : a.eval d = v) (hs : a.eval s = u) {v' : Value} {w' : World}
    (hr : (Builtin.append_ #[t, t'] o.type #[v, u]).run Tryz.prog w = .ok v' w') (h : wpListIn F n Tryz.prog ops Q rest (a.put o.dst v') w') : wpListIn F n Tryz.prog ops Q (o :: rest) a w := by
  refine wpListIn_plain hgd fun K hK' => ?_
  unfold Oper.wpIn
  refine ⟨?_, ?_⟩
  · simp [Oper.about, ho, resolve, Target.leads, Sem.run_pure]
  · rw [Oper.semAt_plain F _ _ (by rw [ho]; intro c hc'; cases hc')]
    simp [execOp, ho, resolve, invoke, builtin, hd, hs, hr, Result.andThen]
    exact hK' _ _ h
theorem wpListIn_store_new12 {F : Fence} {n : Nat} {ops : Array Oper} {rest : List Oper} {o : Oper} {a : Act} {w : World} {Q : Exit → Act → World → Prop} (hgd : o.guard = none) (ty : TypeId) (x y : Operand) (ho : o.op = .store ty x y)
    (old cells : Array Value) (t : TypeId) (b : Nat) (hx : a.eval x = .pointer (some ⟨b, 0, none⟩)) (hb : w.heap.size = b) (hy : a.eval y = .agg cells) (hi : (Tryz.prog.info? ty).map (·.size) = some cells.size)
    (hold : old.size = cells.size) (h1 : cells.all (·.oneCell') = true)
    (h : wpListIn F n Tryz.prog ops Q rest (a.put o.dst undef) (w.alloc (.cells cells t))) : wpListIn F n Tryz.prog ops Q (o :: rest) a (w.alloc (.cells old t)) := by
  subst hb
  exact wpListIn_store_new11 hgd ty x y ho old cells t hx hy hi hold h1 h
theorem wpListIn_load_new12 {F : Fence} {n : Nat} {ops : Array Oper} {rest : List Oper} {o : Oper} {a : Act} {w : World} {Q : Exit → Act → World → Prop} (hgd : o.guard = none) (ty : TypeId) (x : Operand) (ho : o.op = .load ty x)
    (cs : Array Value) (t : TypeId) (b : Nat) (hx : a.eval x = .pointer (some ⟨b, 0, none⟩)) (hb : w.heap.size = b) (d : TypeDesc)
    (hu : Tryz.prog.underlying ty = some d) (hd : d.isRow = true) (hi : (Tryz.prog.info? ty).map (·.size) = some cs.size)
    (h : wpListIn F n Tryz.prog ops Q rest (a.put o.dst (.agg cs)) (w.alloc (.cells cs t))) : wpListIn F n Tryz.prog ops Q (o :: rest) a (w.alloc (.cells cs t)) := by
  subst hb
  exact wpListIn_load_new11 hgd ty x ho cs t hx d hu hd hi h
theorem wpListIn_store_row11 {F : Fence} {n : Nat} {ops : Array Oper} {rest : List Oper} {o : Oper} {a : Act} {w : World} {Q : Exit → Act → World → Prop} (hgd : o.guard = none) (ty : TypeId) (x y : Operand) (ho : o.op = .store ty x y)
    (g : Nat) (cells : Array Value) (hx : a.eval x = .pointer (some ⟨g, 0, none⟩)) (hy : a.eval y = .agg cells) (t : TypeId) (old : Array Value) (hg : w.heap[g]? = some (.cells old t (0, 0)))
    (hi : (Tryz.prog.info? ty).map (·.size) = some cells.size) (hold : old.size = cells.size) (h1 : cells.all (·.oneCell') = true)
    (h : wpListIn F n Tryz.prog ops Q rest (a.put o.dst undef) (w.setRow g cells)) : wpListIn F n Tryz.prog ops Q (o :: rest) a w := by
  refine wpListIn_plain hgd fun K hK => ?_
  unfold Oper.wpIn
  refine ⟨?_, ?_⟩
  · simp [Oper.about, ho]
  · rw [Oper.semAt_plain F _ _ (by rw [ho]; intro c hc'; cases hc')]
    unfold execOp
    simp only [ho, hx, hy, Instr.storeAt, Instr.sureAddr, Sem.run_bind, Sem.run_pure, Result.andThen_ok, run_storeVar_row w g t ty old cells hg hi hold h1]
    exact hK _ _ h
theorem keeps_setRow {w : World} {g : Nat} {old cs : Array Value} {t : TypeId} (hg : w.heap[g]? = some (.cells old t (0, 0))) : KeepsOthers w (w.setRow g cs) :=
  ⟨by rw [size_setRow]; exact Nat.le_refl _, fun k o hk ho => by
    by_cases e : k = g
    · subst e; rw [hg] at hk; cases hk; cases ho
    · rw [setRow_other w g k cs e]; exact hk⟩
theorem below_setRow11 {n : Nat} {a w : World} {g : Nat} (h : Below n a w) (hg : n ≤ g) (cs : Array Value) : Below n a (w.setRow g cs) :=
  ⟨h.os, h.tape, h.output, by rw [size_setRow]; exact h.size, fun k hk => (setRow_other w g k cs (by omega)).trans (h.block k hk)⟩
theorem run_bin11 {o : Oper} {a : Act} {W : World} {op : BinOp} {t u : TypeId} {x y : Operand} {vx vy v : Value} (ho : o.op = .binOp op t x y u) (hx : a.eval x = vx) (hy : a.eval y = vy) (hq : (eqGuard op t x y vx vy).run Tryz.prog W = .ok () W) (h : (binOp op t vx vy).run Tryz.prog W = .ok v W) : (execOp a.eval o).run Tryz.prog W = .ok (.value v) W := by
  unfold execOp
  simp only [ho, hx, hy, Sem.run_bind, hq, h, Result.andThen_ok]
  rfl
set_option maxRecDepth 100000 in
theorem run_build_ev (e : EV) (he : e.Ok) (w : World) : (Instr.buildSlice 22 1 #[(0, .agg e.ar)]).run Tryz.prog w = .ok (.slice (some ⟨w.heap.size, 0, none⟩) 1 1) (w.alloc (.cells e.ar 46)) := by
  obtain ⟨i0, hi0, hz0, hz1, hz2⟩ := info_parts infoTE
  refine run_buildSlice w 22 46 1 _ _ i0 _ Tryz.underlying22 hi0 hz0 (by rw [hz1]; omega) (by rw [hz1]; omega) ?_
  rw [hz1]
  obtain ⟨k, l, s, d⟩ := e
  obtain ⟨a0, a1, a2, a3, a4, a5, a6, a7, a8, a9, a10, a11, a12, a13, a14, a15, rfl⟩ := len16 he.len
  kernel_rfl
set_option maxRecDepth 100000 in
theorem run_build_pv (p : PV) (w : World) : (Instr.buildSlice 30 1 #[(0, .agg #[.int .i64 p.st, p.b])]).run Tryz.prog w = .ok (.slice (some ⟨w.heap.size, 0, none⟩) 1 1) (w.alloc (.cells #[.int .i64 p.st, p.b] 35)) := by
  obtain ⟨i0, hi0, hz0, hz1, hz2⟩ := info_parts infoTP
  refine run_buildSlice w 30 35 1 _ _ i0 _ Tryz.underlying30 hi0 hz0 (by rw [hz1]; omega) (by rw [hz1]; omega) ?_
  rw [hz1]
  kernel_rfl
theorem wpListIn_build_ev11 {F : Fence} {n : Nat} {ops : Array Oper} {rest : List Oper} {o : Oper} {a : Act} {w : World} {Q : Exit → Act → World → Prop} (hgd : o.guard = none) (x : Operand) (ho : o.op = .buildSlice 22 1 #[(0, x)])
    (e : EV) (he : e.Ok) (hx : a.eval x = .agg e.ar)
    (h : wpListIn F n Tryz.prog ops Q rest (a.put o.dst (.slice (some ⟨w.heap.size, 0, none⟩) 1 1)) (w.alloc (.cells e.ar 46))) : wpListIn F n Tryz.prog ops Q (o :: rest) a w := by
  refine wpListIn_plain hgd fun K hK => ?_
  unfold Oper.wpIn
  refine ⟨?_, ?_⟩
  · simp [Oper.about, ho]
  · rw [Oper.semAt_plain F _ _ (by rw [ho]; intro c hc'; cases hc')]
    unfold execOp
    have hp : (#[(0, x)] : Array (Nat × Operand)).map (fun (i, x) => (i, a.eval x)) = #[(0, .agg e.ar)] := by simp [hx]
    simp only [ho, Sem.run_bind, hp, run_build_ev e he w, Result.andThen_ok]
    exact hK _ _ h
theorem wpList_build_ev11 {ops : Array Oper} {rest : List Oper} {o : Oper} {a : Act} {w : World} {Q : Exit → Act → World → Prop} (hgd : o.guard = none) (x : Operand) (ho : o.op = .buildSlice 22 1 #[(0, x)])
    (e : EV) (he : e.Ok) (hx : a.eval x = .agg e.ar)
    (h : wpList Tryz.prog ops Q rest (a.put o.dst (.slice (some ⟨w.heap.size, 0, none⟩) 1 1)) (w.alloc (.cells e.ar 46))) : wpList Tryz.prog ops Q (o :: rest) a w := by
  refine wpList_plain hgd fun K hK => ?_
  unfold Oper.wp execOp
  have hp : (#[(0, x)] : Array (Nat × Operand)).map (fun (i, x) => (i, a.eval x)) = #[(0, .agg e.ar)] := by simp [hx]
  simp only [ho, Sem.run_bind, hp, run_build_ev e he w, Result.andThen_ok]
  exact hK _ _ h
theorem guard_TH (op : BinOp) (x y : Operand) (a b : Array Value) (W : World) : (eqGuard op 52 x y (.agg a) (.agg b)).run Tryz.prog W = .ok () W := by
  have h : Tryz.prog.eqGuardType Tryz.prog.depth 52 = false := by kernel_rfl
  unfold eqGuard
  cases op <;> simp [h, go_sem]
theorem guard_TE (op : BinOp) (x y : Operand) (a b : Array Value) (W : World) : (eqGuard op 46 x y (.agg a) (.agg b)).run Tryz.prog W = .ok () W := by
  have h : Tryz.prog.eqGuardType Tryz.prog.depth 46 = false := by kernel_rfl
  unfold eqGuard
  cases op <;> simp [h, go_sem]
theorem range_ev (w : World) (e : EV) (t : TypeId) : (w.alloc (.cells e.ar t)).rangeAt w.heap.size 0 e.cs := fun j v hv => cell_blk (World.alloc_heap_new w _) (by rw [Nat.zero_add]; simpa [EV.cs, EV.ar] using hv)
/-- A slot's cells at a block. -/
structure EvAt (w : World) (b : Nat) (e : EV) : Prop where
  blk : w.heap[b]? = some (.cells e.ar 46 (0, 0))
theorem EvAt.below {w w' : World} {b : Nat} {e : EV} (h : EvAt w b e) (k : Below w.heap.size w w') : EvAt w' b e := ⟨(k.block b (Array.getElem?_eq_some_iff.1 h.blk).1).trans h.blk⟩
theorem EvAt.range {w : World} {b : Nat} {e : EV} (h : EvAt w b e) : w.rangeAt b 0 e.cs := fun j v hv => cell_blk h.blk (by rw [Nat.zero_add]; simpa [EV.cs, EV.ar] using hv)
theorem EvAt.load {w : World} {b : Nat} {e : EV} (h : EvAt w b e) (he : e.Ok) : (loadVar 46 ⟨b, 0, none⟩).run Tryz.prog w = .ok (.agg e.ar) w := load_ev h.range he
/-- A head's cells at a block. -/
structure HdAt (w : World) (b : Nat) (x0 x1 x2 x3 : Int) : Prop where
  blk : w.heap[b]? = some (.cells #[.int .i64 x0, .int .i64 x1, .int .i64 x2, .int .i64 x3] 52 (0, 0))
theorem HdAt.below {w w' : World} {b : Nat} {x0 x1 x2 x3 : Int} (h : HdAt w b x0 x1 x2 x3) (k : Below w.heap.size w w') : HdAt w' b x0 x1 x2 x3 := ⟨(k.block b (Array.getElem?_eq_some_iff.1 h.blk).1).trans h.blk⟩
theorem HdAt.lt {w : World} {b : Nat} {x0 x1 x2 x3 : Int} (h : HdAt w b x0 x1 x2 x3) : b < w.heap.size := (Array.getElem?_eq_some_iff.1 h.blk).1
theorem HdAt.cells {w : World} {b : Nat} {x0 x1 x2 x3 : Int} (h : HdAt w b x0 x1 x2 x3) : w.cell? ⟨b, 0, none⟩ = some (.int .i64 x0) ∧ w.cell? ⟨b, 1, none⟩ = some (.int .i64 x1) ∧ w.cell? ⟨b, 2, none⟩ = some (.int .i64 x2) ∧ w.cell? ⟨b, 3, none⟩ = some (.int .i64 x3) ∧ w.frozen? ⟨b, 0, none⟩ = false := ⟨cell_blk h.blk rfl, cell_blk h.blk rfl, cell_blk h.blk rfl, cell_blk h.blk rfl, free_blk h.blk⟩
theorem HdAt.load {w : World} {b : Nat} {x0 x1 x2 x3 : Int} (h : HdAt w b x0 x1 x2 x3) : (loadVar 52 ⟨b, 0, none⟩).run Tryz.prog w = .ok (.agg (headA x0 x1 x2 x3)) w := load_hd h.blk
theorem HdAt.set0 {w : World} {b : Nat} {x0 x1 x2 x3 : Int} (h : HdAt w b x0 x1 x2 x3) (y : Int) : HdAt (w.setCell ⟨b, 0, none⟩ (.int .i64 y)) b y x1 x2 x3 := ⟨by
  rw [setCell_eq_setRow w b 0 _ 52 (0, 0) _ h.blk]
  exact setRow_heap w b _ _ 52 (0, 0) h.blk⟩
theorem HdAt.of {w w' : World} {b : Nat} {x0 x1 x2 x3 : Int} (h : HdAt w b x0 x1 x2 x3) (k : w'.heap[b]? = w.heap[b]?) : HdAt w' b x0 x1 x2 x3 := ⟨k.trans h.blk⟩

end Go.Proofs.YtjdikhelabibnabGreat
