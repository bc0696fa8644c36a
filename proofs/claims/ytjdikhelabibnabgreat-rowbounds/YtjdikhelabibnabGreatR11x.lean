/-
  Ahead of the laws' own Decode (ramekinref11): rows that a call makes in memory, what is lost, what Fix makes of it.
-/
import Derived.Test.YtjdikhelabibnabGreatR11w
import Derived.Test.YtjdikhelabibnabGreatT6
import Derived.Test.YtjdikhelabibnabGreatR5a
namespace Go.Proofs.YtjdikhelabibnabGreat
open Go Go.RowKit Go.Shelf

/-- Guards, to be tried with 'with_reducible': they fail at once where the next operation is another one. -/
theorem gateS {P : Program} {ops : Array Oper} {Q : Exit → Act → World → Prop} {rest : List Oper} {o : Oper} {a : Act} {w : World} (ty : TypeId) (x y : Operand) (_ : o.op = .store ty x y) (h : wpList P ops Q (o :: rest) a w) : wpList P ops Q (o :: rest) a w := h
theorem gateL {P : Program} {ops : Array Oper} {Q : Exit → Act → World → Prop} {rest : List Oper} {o : Oper} {a : Act} {w : World} (ty : TypeId) (x : Operand) (_ : o.op = .load ty x) (h : wpList P ops Q (o :: rest) a w) : wpList P ops Q (o :: rest) a w := h
theorem gateB {P : Program} {ops : Array Oper} {Q : Exit → Act → World → Prop} {rest : List Oper} {o : Oper} {a : Act} {w : World} (ty : TypeId) (k : Nat) (x : Array (Nat × Operand)) (_ : o.op = .buildSlice ty k x) (h : wpList P ops Q (o :: rest) a w) : wpList P ops Q (o :: rest) a w := h
theorem gateR {P : Program} {fn : Func} {R : Ending → World → Prop} {a : Act} {w : World} (h : bodyPost P fn R .ret a w) : bodyPost P fn R .ret a w := h
theorem own_block11 {w : World} {base m n : Nat} {e : TypeId} {v : Value} {xs : List Value} (h : w.ownsRow base e m v n xs) {g : Nat} (hg : v.ownBlock = some g) : base ≤ g ∧ ∃ cur, w.heap[g]? = some (.cells cur e (0, 0)) := by
  rcases h.2 with ⟨h', h0⟩ | ⟨g', cap, cur, h1, h2, h3, -⟩
  · rw [h'] at hg; cases hg
  · rw [h1] at hg; cases hg; exact ⟨h2, cur, h3⟩
theorem own_keep11 {w w' : World} {base m n : Nat} {e : TypeId} {v : Value} {xs : List Value} (h : w.ownsRow base e m v n xs) (k : ∀ (g : Nat) (cur : Array Value), base ≤ g → w.heap[g]? = some (.cells cur e (0, 0)) → w'.heap[g]? = w.heap[g]?) : w'.ownsRow base e m v n xs := by
  refine ⟨h.1, ?_⟩
  rcases h.2 with h' | ⟨g, cap, cur, h1, h2, h3, h4⟩
  · exact .inl h'
  · exact .inr ⟨g, cap, cur, h1, h2, (k g cur h2 h3).trans h3, h4⟩
theorem own_shape11 {w : World} {base m n : Nat} {e : TypeId} {v : Value} {xs : List Value} (h : w.ownsRow base e m v n xs) : ∃ a c, v = .slice a n c ∧ n ≤ c ∧ c ≤ maxLen := by
  rcases h.2 with ⟨h', h0⟩ | ⟨g, cap, cur, h1, h2, h3, h4, h5, h6, h7⟩
  · exact ⟨none, 0, by rw [h', h0], by omega, by unfold maxLen; omega⟩
  · exact ⟨_, cap, h1, h4, h5⟩
/-- What grows by one row of another type leaves a row as it was. -/
theorem own_apart11 {w w' : World} {base m n base' m' n' : Nat} {e e' : TypeId} {v v' : Value} {xs xs' : List Value} (h : w.ownsRow base e m v n xs) (h' : w.ownsRow base' e' m' v' n' xs') (hne : e ≠ e') (hg : w.grownBy w' v'.ownBlock) : w'.ownsRow base e m v n xs :=
  own_keep11 h (fun g cur _ hc => hg.block g (Array.getElem?_eq_some_iff.1 hc).1 (fun eq => by
    obtain ⟨-, cur', hc'⟩ := own_block11 h' eq.symm
    rw [hc] at hc'
    simp only [Option.some.injEq, Obj.cells.injEq] at hc'
    exact hne hc'.2.1))
theorem below_own11 {w0 w w' : World} {base m n k : Nat} {e : TypeId} {v : Value} {xs : List Value} (hB : Below k w0 w) (hk0 : k ≤ w0.heap.size) (h : w.ownsRow base e m v n xs) (hk : k ≤ base) (hg : w.grownBy w' v.ownBlock) : Below k w0 w' :=
  hB.trans ⟨hg.os, hg.tape, hg.output, hg.size, fun q hq => hg.block q (Nat.lt_of_lt_of_le hq (Nat.le_trans hk0 hB.size)) (fun e => by have := (own_block11 h e.symm).1; omega)⟩

/-- Which of the first k are not good. -/
def lostK (l : List PV) (k : Nat) : List Nat := (List.range k).filter (fun i => !((l.getD i zPV).st == 2))
theorem lostK_yes {l : List PV} {k : Nat} (h : (l.getD k zPV).st = 2) : lostK l (k + 1) = lostK l k := by
  rw [lostK, List.range_succ, List.filter_append, List.filter_cons, h]; simp [lostK]
theorem lostK_no {l : List PV} {k : Nat} (h : ¬ (l.getD k zPV).st = 2) : lostK l (k + 1) = lostK l k ++ [k] := by
  rw [lostK, List.range_succ, List.filter_append, List.filter_cons, if_pos (by simpa using h)]; rfl
theorem lostK_all {l : List PV} (h : ∀ j, j < l.length → ¬ (l.getD j zPV).st = 0) : lostK l l.length = lostG l := by
  unfold lostK lostG atL
  refine List.filter_congr (fun i hi => ?_)
  have h1 := h i (List.mem_range.1 hi)
  have h2 : ((l.getD i zPV).st == 0) = false := by simpa using h1
  rw [h2]; rfl
theorem lostK_len (l : List PV) (k : Nat) : (lostK l k).length ≤ k := by
  have := List.length_filter_le (fun i => !((l.getD i zPV).st == 2)) (List.range k)
  rw [List.length_range] at this
  exact this
/-- The bytes of the first k, as values. -/
def valK (l : List PV) (k : Nat) : List Value := (List.range k).map (fun i => (l.getD i zPV).b)
theorem valK_snoc (l : List PV) (k : Nat) : valK l (k + 1) = valK l k ++ [(l.getD k zPV).b] := by rw [valK, List.range_succ, List.map_append]; rfl
theorem getD_map11 (l : List PV) (i : Nat) : (l.map (·.x)).getD i [] = (l.getD i zPV).x := by
  rw [List.getD_eq_getElem?_getD, List.getD_eq_getElem?_getD, List.getElem?_map]
  cases l[i]? <;> rfl
theorem rargK {w : World} {base n : Nat} {v : Value} {l : List PV} (hn : l.length = n) (h0 : 0 < n) (h : w.ownsRow base 33 1 v n (valK l n)) (hok : ∀ i, i < n → (l.getD i zPV).Ok w) :
    ∃ G, RArg w v G (fun i => (l.getD i zPV).bo) (fun i => (l.getD i zPV).bc) (l.map (·.x)) := by
  rcases h.2 with ⟨h', h0'⟩ | ⟨g, cap, cur, h1, h2, h3, h4, h5, h6, h7⟩
  · omega
  · refine ⟨g, ⟨⟨some ⟨g, 0, none⟩, cap, by rw [h1, List.length_map, hn], by rw [List.length_map, hn]; exact h4, h5, (fun h => by cases h), .inr ⟨0, rfl, fun j hj => ?_⟩⟩, fun i hi => ?_⟩⟩
    · rw [List.length_map, hn] at hj
      have e : (cur.toList.take (n * 1))[j]? = (valK l n)[j]? := by rw [h7]
      rw [List.getElem?_take, if_pos (by omega), Array.getElem?_toList, valK, List.getElem?_map, List.getElem?_range hj] at e
      dsimp only
      rw [getD_map11]
      exact cell_blk h3 (by rw [Nat.zero_add]; exact e)
    · rw [List.length_map, hn] at hi
      rw [getD_map11]
      exact ⟨_, hok i hi⟩

/-- Fix of what stands there: rows of the good ones, whatever is held by the others. -/
theorem pay_fix2 {l : List PV} {n : Nat} (hln : l.length = n) (h6 : 6 ≤ n) (h8 : n ≤ 8) (hnb : ∀ p ∈ l, p.st ≠ 0) (h2 : (lostG l).length ≤ 2) (hro : l.any oddP = false) :
    fixOk (l.map (·.x)) (ints (lostG l)) = true ∧ ∀ out m, IsFix (l.map (·.x)) (ints (lostG l)) out m → fixL (l.map (·.x)) (ints (lostG l)) = out ∧ out.length = n ∧ ∀ i, i < n → (out.getD i []).length = 48 := by
  have hml : (l.map (·.x)).length = n := by rw [List.length_map, hln]
  have hpk := lostG_pk h2
  rw [hln, ← hml] at hpk
  have hget : ∀ i, i < n → keep (ints (lostG l)) i = true → ((l.map (·.x)).getD i []).length = 48 := by
    intro i hi hk
    rw [lostG_mem hnb (by omega)] at hk
    rw [getD_map11]
    have h3 := List.any_eq_false.1 hro _ (getD_mem11 (z := zPV) (i := i) (by omega))
    unfold oddP at h3
    rw [hk] at h3
    simpa using h3
  have hfo : fixOk (l.map (·.x)) (ints (lostG l)) = true := fixOk_of hpk (by omega) (by omega) (fun i hi hk => hget i (by omega) hk)
  refine ⟨hfo, fun out m hf => ?_⟩
  have hol : out.length = n := by rw [hf.len, hml]
  refine ⟨fixL_of (by omega) (by omega) hpk (by rw [ints_len]; exact h2) hf, hol, fun i hi => ?_⟩
  obtain ⟨j, hj, hkj⟩ := some_kept (zs := ints (lostG l)) (N := n) (by rw [ints_len]; exact h2) (by omega)
  have hm : m = 48 := by rw [← hf.szl j (by omega) hkj]; exact hget j hj hkj
  rw [hf.sz i (by omega), hm]
/-- One payload is no slot: nothing is told. -/
theorem rowF_bad {super at' : Int} {x : List (List Nat)} {d k : Nat} (hd : x.length - 2 = d) (hk : k < d) (h : stR super at' x (List.range (k + 1)) = none) : rowF super at' x = (zRow, 5) := by
  rw [stR_range] at h
  by_cases hg : ∀ i, i < k + 1 → goodR super at' x i
  · rw [if_pos hg] at h; cases h
  · unfold rowF
    rw [hd, if_neg (fun h => hg (fun i hi => h i (by omega)))]
theorem stR_succ (super at' : Int) (x : List (List Nat)) (k : Nat) : stR super at' x (List.range (k + 1)) = stepR super at' x (stR super at' x (List.range k)) k := by rw [List.range_succ, stR_snoc]

theorem wp_build_ev11 {o : Oper} {a : Act} {w : World} {K : Act → World → Prop} {Q : Exit → Act → World → Prop} (x : Operand) (ho : o.op = .buildSlice 22 1 #[(0, x)])
    (e : EV) (he : e.Ok) (hx : a.eval x = .agg e.ar) (h : K (a.put o.dst (.slice (some ⟨w.heap.size, 0, none⟩) 1 1)) (w.alloc (.cells e.ar 46))) : o.wp Tryz.prog a w K Q := by
  unfold Oper.wp execOp
  have hp : (#[(0, x)] : Array (Nat × Operand)).map (fun (i, x) => (i, a.eval x)) = #[(0, .agg e.ar)] := by simp [hx]
  simp only [ho, Sem.run_bind, hp, run_build_ev e he w, Result.andThen_ok]
  exact h
/-- The rows' data alone is what Decode tells, whatever the result. -/
theorem decF_sta2 {super at' : Int} {l : List PV} {most c : Int} (h : (6 ≤ l.length ∧ l.length ≤ 8) ∧ 0 ≤ most ∧ most ≤ 2) (hs : staF l most = c) (hc : c ≠ 0) : decF super at' l most = (zRow, c) := by
  rw [decF_sta h (by rw [hs]; exact hc), hs]
theorem staF_all {l : List PV} {most : Int} (h : l.any (fun p => !(p.st == 0)) = false) : staF l most = 2 := by
  unfold staF
  rw [if_pos]
  rw [List.all_eq_true]
  intro p hp
  have := List.any_eq_false.1 h p hp
  simpa using this
theorem staF_some {l : List PV} {most : Int} {i : Nat} (h : l.any (fun p => !(p.st == 0)) = true) (hi : i < l.length) (h0 : (l.getD i zPV).st = 0) : staF l most = 5 := by
  unfold staF
  obtain ⟨q, hq, hq2⟩ := List.any_eq_true.1 h
  rw [if_neg (fun ha => by have := List.all_eq_true.1 ha q hq; rw [this] at hq2; cases hq2), if_pos]
  rw [List.any_eq_true]
  exact ⟨_, getD_mem11 (z := zPV) hi, by rw [h0]; rfl⟩
theorem staF_rest {l : List PV} {most : Int} (h : l.any (fun p => !(p.st == 0)) = true) (h0 : ∀ j, j < l.length → ¬ (l.getD j zPV).st = 0) : staF l most = if most < ((lostG l).length : Int) then 11 else 0 := by
  unfold staF
  obtain ⟨q, hq, hq2⟩ := List.any_eq_true.1 h
  rw [if_neg (fun ha => by have := List.all_eq_true.1 ha q hq; rw [this] at hq2; cases hq2), if_neg]
  intro ha
  obtain ⟨p, hp, hp2⟩ := List.any_eq_true.1 ha
  obtain ⟨i, hi, he⟩ := mem_getD11 (z := zPV) hp
  exact h0 i hi (by rw [he]; simpa using hp2)

end Go.Proofs.YtjdikhelabibnabGreat
