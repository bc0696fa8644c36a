/-
  
-/
import Derived.Test.YtjdikhelabibnaaGreatMay
import Derived.Test.YtjdikhelabibnaaGreatMau
import Derived.Test.YtjdikhelabibnaaGreatMah
import Derived.OpenShut
import Derived.ChangeSlices
import Derived.DataReads
import Derived.Deep.Slices
import Derived.Test.YtjdikhelabibnaaGreatMbe
import Derived.Test.YtjdikhelabibnaaGreatMal
import Derived.Test.YtjdikhelabibnaaGreatMaw
import Derived.Test.YtjdikhelabibnaaGreatMam
namespace Go.Proofs.YtjdikhelabibnaaGreat
open Go Go.RowKit Go.ChangeShapes Go.WideShapes Go.ChangeAt
section
variable {H : Type} {enc : TypeId × Value → H} {w : World} {base : Nat} {spare : Nat → Bool} {held : Bool} {fuel : Nat} {cs : List Value} {x : DataW H × List MemPlace}
theorem addr_shape11 {w : World} {a : Addr} {v : Value} (h : w.cell? a = some v) : a = ⟨a.block, a.off, none⟩ := by
 unfold World.cell? at h
 obtain ⟨b, o, s⟩ := a
 cases s with
 | none => rfl
 | some s =>
  simp only at h
  split at h <;> simp_all
theorem cells_B11 : Tryz.prog.cellsOf 47 = 1 := by kernel_rfl
theorem cells_TP11 : Tryz.prog.cellsOf 49 = 2 := by kernel_rfl
theorem open_bs11 (h : DataW.trod enc Tryz.prog w base spare held fuel 47 cs = some x) : ∃ a n c g s, cs = [.slice a n c] ∧ Arg w (.slice a n c) g s := by
 rcases open_ints Tryz.underlying47 Tryz.underlying5 (by kernel_rfl) h with ⟨hcs, _⟩ | ⟨y, l, c, zs, hcs, _, hl, hm, hz, _, hcell, hwz⟩
 ·exact ⟨none, 0, 0, 0, [], hcs, ⟨⟨none, 0, rfl, by simp, by simp, fun _ => rfl, .inl rfl⟩, Bs.nil⟩⟩
 have hlz : l ≤ zs.length := by rw [hz]; split <;> omega
 obtain ⟨g, p1, p2, p3⟩ := row_in hlz rfl hcell hwz
 exact ⟨some y, l, c, g, _, hcs, arg_in p1 p2 p3 hl (fun h => by cases h) hm⟩
theorem open_ev (h : DataW.trod enc Tryz.prog w base spare held fuel 44 cs = some x) : ∃ e : EV, cs = e.cs ∧ e.Ok := by
 obtain ⟨k, l, s, d, e, e1, e2⟩ := open_ent h
 exact ⟨⟨k, l, s, d⟩, e, e1, e2⟩
set_option maxRecDepth 100000 in
theorem open_pv (h : DataW.trod enc Tryz.prog w base spare held fuel 49 cs = some x) : ∃ p : PV, cs = p.cs ∧ p.Ok w := by
 obtain ⟨xs, n, _, _, hl, hlen, hf⟩ := DataW.trod_struct Tryz.underlying49 h
 rw [cells_TP11] at hl
 match xs, hlen with
 | [y0, y1], _ =>
  obtain ⟨a, e0, _⟩ := DataW.trod_int Tryz.underlying3 (by simpa using hf 0 _ rfl)
  obtain ⟨bo, bn, bc, gb, s, e1, hb⟩ := open_bs11 (by simpa using hf 1 _ rfl)
  rw [cells_I10] at e0
  rw [cells_B11] at e1
  match cs, hl with
  | [c0, c1], _ =>
   simp at e0 e1
   have hn : bn = s.length := by obtain ⟨_, _, h, -⟩ := hb.ex; cases h; rfl
   subst hn
   exact ⟨⟨a, bo, bc, gb, s⟩, by rw [e0, e1]; rfl, hb⟩
set_option maxRecDepth 100000 in
theorem open_evs {fuel : Nat} (h : DataW.trod enc Tryz.prog w base spare held fuel 22 cs = some x) : ∃ v g l, cs = [v] ∧ EArg w v g l := by
 rcases Go.Deep.open_slice Tryz.underlying22 h with ⟨rfl, _⟩ | ⟨a, len, cap, m, n, D, Pl, rfl, _, hl, hm, hm2, _, hel⟩
 ·exact ⟨_, 0, [], rfl, EArg.nil w⟩
 have hlm : len ≤ m := by rw [hm2]; split <;> omega
 have hp : ∀ i : Nat, i < len → ∃ p : EV, (∀ j v, p.cs[j]? = some v → w.cell? ((a.add (i * 19)).add j) = some v) ∧ p.Ok := fun i hi => by
  obtain ⟨cs', h1, h2⟩ := hel i (by omega)
  rw [cells_TE10] at h1
  obtain ⟨p, rfl, hok⟩ := open_ev h2
  refine ⟨p, fun j v hj => ?_, hok⟩
  have hj7 : j < 19 := by have := (List.getElem?_eq_some_iff.1 hj).1; rw [EV.cs_len hok] at this; exact this
  have := World.cells?_some h1
  rw [this.2.2 j hj7]
  exact hj
 have hfun : ∃ f : Nat → EV, ∀ i : Nat, i < len → (∀ j v, (f i).cs[j]? = some v → w.cell? ((a.add (i * 19)).add j) = some v) ∧ (f i).Ok :=
  ⟨fun i => if h : i < len then (hp i h).choose else zEV, fun i hi => by simp only [dif_pos hi]; exact (hp i hi).choose_spec⟩
 obtain ⟨f, hf⟩ := hfun
 have hz0 : ∀ h0 : 0 < len, a = ⟨a.block, a.off, none⟩ := fun h0 => by
  obtain ⟨v, hv⟩ : ∃ v, (f 0).cs[0]? = some v := ⟨(f 0).cs[0]'(by rw [EV.cs_len (hf 0 h0).2]; omega), List.getElem?_eq_getElem _⟩
  have := (hf 0 h0).1 0 v hv
  rw [Nat.zero_mul] at this
  have e : a.add 0 = a := by simp [Addr.add]
  rw [e, e] at this
  exact addr_shape11 this
 have hget : ∀ i, i < len → ((List.range len).map f).getD i zEV = f i := fun i hi => by rw [List.getD_eq_getElem?_getD, List.getElem?_map, List.getElem?_range hi]; rfl
 refine ⟨_, a.block, (List.range len).map f, rfl, ⟨some a, cap, by simp, by simpa using hl, hm, (fun h => by cases h), fun hne => ⟨a.off, ?_, fun i hi j v hj => ?_⟩⟩, fun p hp => ?_⟩
 ·have h0 : 0 < len := by
   rcases Nat.eq_zero_or_pos len with h | h
   ·subst h; exact absurd rfl hne
   exact h
  exact congrArg some (hz0 h0)
 ·have hi' : i < len := by simpa using hi
  rw [hget i hi'] at hj
  have hsh := hz0 (by omega)
  have h1 := (hf i hi').1 j v hj
  obtain ⟨b, o, s⟩ := a
  simp only [Addr.mk.injEq, true_and] at hsh
  subst hsh
  rw [Addr.add_lit, Addr.add_lit] at h1
  exact h1
 obtain ⟨i, hi, rfl⟩ := List.mem_map.1 hp
 exact (hf i (List.mem_range.1 hi)).2
set_option maxRecDepth 100000 in
theorem open_pgs {fuel : Nat} (h : DataW.trod enc Tryz.prog w base spare held fuel 40 cs = some x) : ∃ v g l, cs = [v] ∧ PgArg w v g l := by
 rcases Go.Deep.open_slice Tryz.underlying40 h with ⟨rfl, _⟩ | ⟨a, len, cap, m, n, D, Pl, rfl, _, hl, hm, hm2, _, hel⟩
 ·exact ⟨_, 0, [], rfl, PgArg.nil w⟩
 have hlm : len ≤ m := by rw [hm2]; split <;> omega
 have hp : ∀ i : Nat, i < len → ∃ p : PV, (∀ j v, p.cs[j]? = some v → w.cell? ((a.add (i * 2)).add j) = some v) ∧ p.Ok w := fun i hi => by
  obtain ⟨cs', h1, h2⟩ := hel i (by omega)
  rw [cells_TP11] at h1
  obtain ⟨p, rfl, hok⟩ := open_pv h2
  refine ⟨p, fun j v hj => ?_, hok⟩
  have hj7 : j < 2 := by have := (List.getElem?_eq_some_iff.1 hj).1; rw [show p.cs.length = 2 from rfl] at this; exact this
  have := World.cells?_some h1
  rw [this.2.2 j hj7]
  exact hj
 have hfun : ∃ f : Nat → PV, ∀ i : Nat, i < len → (∀ j v, (f i).cs[j]? = some v → w.cell? ((a.add (i * 2)).add j) = some v) ∧ (f i).Ok w :=
  ⟨fun i => if h : i < len then (hp i h).choose else zPV, fun i hi => by simp only [dif_pos hi]; exact (hp i hi).choose_spec⟩
 obtain ⟨f, hf⟩ := hfun
 have hz0 : ∀ h0 : 0 < len, a = ⟨a.block, a.off, none⟩ := fun h0 => by
  obtain ⟨v, hv⟩ : ∃ v, (f 0).cs[0]? = some v := ⟨(f 0).cs[0]'(by show 0 < 2; omega), List.getElem?_eq_getElem _⟩
  have := (hf 0 h0).1 0 v hv
  rw [Nat.zero_mul] at this
  have e : a.add 0 = a := by simp [Addr.add]
  rw [e, e] at this
  exact addr_shape11 this
 have hget : ∀ i, i < len → ((List.range len).map f).getD i zPV = f i := fun i hi => by rw [List.getD_eq_getElem?_getD, List.getElem?_map, List.getElem?_range hi]; rfl
 refine ⟨_, a.block, (List.range len).map f, rfl, ⟨some a, cap, by simp, by simpa using hl, hm, (fun h => by cases h), fun hne => ⟨a.off, ?_, fun i hi j v hj => ?_⟩⟩, fun p hp => ?_⟩
 ·have h0 : 0 < len := by
   rcases Nat.eq_zero_or_pos len with h | h
   ·subst h; exact absurd rfl hne
   exact h
  exact congrArg some (hz0 h0)
 ·have hi' : i < len := by simpa using hi
  rw [hget i hi'] at hj
  have hsh := hz0 (by omega)
  have h1 := (hf i hi').1 j v hj
  obtain ⟨b, o, s⟩ := a
  simp only [Addr.mk.injEq, true_and] at hsh
  subst hsh
  rw [Addr.add_lit, Addr.add_lit] at h1
  exact h1
 obtain ⟨i, hi, rfl⟩ := List.mem_map.1 hp
 exact (hf i (List.mem_range.1 hi)).2
end
end Go.Proofs.YtjdikhelabibnaaGreat

namespace Go.Proofs.YtjdikhelabibnaaGreat
open Go Go.RowKit Go.Shelf
theorem gdSl_okL {l : List EV} (m : Nat) : okL (gdSl l m) := by
 intro e he
 obtain ⟨x, hx, rfl⟩ := List.mem_map.1 he
 exact gd_ok11 _ _ _ _
theorem OwnE.arg' {base : Nat} {w : World} {v : Value} {l : List EV} (h : OwnE base w v l) : ∃ a n c g, v = .slice a n c ∧ EArg w (.slice a n c) g l := by
 obtain ⟨g, hg, -⟩ := h.arg
 obtain ⟨a, c, hv, -⟩ := hg.ex
 exact ⟨a, _, c, g, hv, by rw [← hv]; exact hg⟩
end Go.Proofs.YtjdikhelabibnaaGreat

namespace Go.Proofs.YtjdikhelabibnaaGreat
open Go Go.RowKit Go.Shelf
theorem gateS {P : Program} {ops : Array Oper} {Q : Exit → Act → World → Prop} {rest : List Oper} {o : Oper} {a : Act} {w : World} (ty : TypeId) (x y : Operand) (_ : o.op = .store ty x y) (h : wpList P ops Q (o :: rest) a w) : wpList P ops Q (o :: rest) a w := h
theorem gateL {P : Program} {ops : Array Oper} {Q : Exit → Act → World → Prop} {rest : List Oper} {o : Oper} {a : Act} {w : World} (ty : TypeId) (x : Operand) (_ : o.op = .load ty x) (h : wpList P ops Q (o :: rest) a w) : wpList P ops Q (o :: rest) a w := h
theorem gateR {P : Program} {fn : Func} {R : Ending → World → Prop} {a : Act} {w : World} (h : bodyPost P fn R .ret a w) : bodyPost P fn R .ret a w := h
theorem own_block11 {w : World} {base m n : Nat} {e : TypeId} {v : Value} {xs : List Value} (h : w.ownsRow base e m v n xs) {g : Nat} (hg : v.ownBlock = some g) : base ≤ g ∧ ∃ cur, w.heap[g]? = some (.cells cur e (0, 0)) := by
 rcases h.2 with ⟨h', h0⟩ | ⟨g', cap, cur, h1, h2, h3, -⟩
 ·rw [h'] at hg; cases hg
 rw [h1] at hg; cases hg; exact ⟨h2, cur, h3⟩
theorem own_keep11 {w w' : World} {base m n : Nat} {e : TypeId} {v : Value} {xs : List Value} (h : w.ownsRow base e m v n xs) (k : ∀ (g : Nat) (cur : Array Value), base ≤ g → w.heap[g]? = some (.cells cur e (0, 0)) → w'.heap[g]? = w.heap[g]?) : w'.ownsRow base e m v n xs := by
 refine ⟨h.1, ?_⟩
 rcases h.2 with h' | ⟨g, cap, cur, h1, h2, h3, h4⟩
 ·exact .inl h'
 exact .inr ⟨g, cap, cur, h1, h2, (k g cur h2 h3).trans h3, h4⟩
theorem own_shape11 {w : World} {base m n : Nat} {e : TypeId} {v : Value} {xs : List Value} (h : w.ownsRow base e m v n xs) : ∃ a c, v = .slice a n c ∧ n ≤ c ∧ c ≤ maxLen := by
 rcases h.2 with ⟨h', h0⟩ | ⟨g, cap, cur, h1, h2, h3, h4, h5, h6, h7⟩
 ·exact ⟨none, 0, by rw [h', h0], by omega, by unfold maxLen; omega⟩
 exact ⟨_, cap, h1, h4, h5⟩
theorem own_apart11 {w w' : World} {base m n base' m' n' : Nat} {e e' : TypeId} {v v' : Value} {xs xs' : List Value} (h : w.ownsRow base e m v n xs) (h' : w.ownsRow base' e' m' v' n' xs') (hne : e ≠ e') (hg : w.grownBy w' v'.ownBlock) : w'.ownsRow base e m v n xs :=
 own_keep11 h (fun g cur _ hc => hg.block g (Array.getElem?_eq_some_iff.1 hc).1 (fun eq => by
  obtain ⟨-, cur', hc'⟩ := own_block11 h' eq.symm
  rw [hc] at hc'
  simp only [Option.some.injEq, Obj.cells.injEq] at hc'
  exact hne hc'.2.1))
theorem below_own11 {w0 w w' : World} {base m n k : Nat} {e : TypeId} {v : Value} {xs : List Value} (hB : Below k w0 w) (hk0 : k ≤ w0.heap.size) (h : w.ownsRow base e m v n xs) (hk : k ≤ base) (hg : w.grownBy w' v.ownBlock) : Below k w0 w' :=
 hB.trans ⟨hg.os, hg.tape, hg.output, hg.size, fun q hq => hg.block q (Nat.lt_of_lt_of_le hq (Nat.le_trans hk0 hB.size)) (fun e => by have := (own_block11 h e.symm).1; omega)⟩
def lostK (l : List PV) (k : Nat) : List Nat := (List.range k).filter (fun i => !((l.getD i zPV).st == 2))
theorem lostK_yes {l : List PV} {k : Nat} (h : (l.getD k zPV).st = 2) : lostK l (k + 1) = lostK l k := by
 rw [lostK, List.range_succ, List.filter_append, List.filter_cons, h]; simp [lostK]
theorem lostK_no {l : List PV} {k : Nat} (h : ¬ (l.getD k zPV).st = 2) : lostK l (k + 1) = lostK l k ++ [k] := by
 rw [lostK, List.range_succ, List.filter_append, List.filter_cons, if_pos (by simpa using h)]; rfl
theorem lostK_all {l : List PV} (h : ∀ j, j < l.length → ¬ (l.getD j zPV).st = 0) : lostK l l.length = lostG l := by
 unfold lostK lostG atL
 refine List.filter_congr (fun i hi => ?_)
 have h1 := h i (List.mem_range.1 hi)
 have h2 : ((l.getD i zPV).st == 0) = false := by simpa using h1
 rw [h2]; rfl
theorem lostK_len (l : List PV) (k : Nat) : (lostK l k).length ≤ k := by
 have := List.length_filter_le (fun i => !((l.getD i zPV).st == 2)) (List.range k)
 rw [List.length_range] at this
 exact this
def valK (l : List PV) (k : Nat) : List Value := (List.range k).map (fun i => (l.getD i zPV).b)
theorem valK_snoc (l : List PV) (k : Nat) : valK l (k + 1) = valK l k ++ [(l.getD k zPV).b] := by rw [valK, List.range_succ, List.map_append]; rfl
theorem getD_map11 (l : List PV) (i : Nat) : (l.map (·.x)).getD i [] = (l.getD i zPV).x := by
 rw [List.getD_eq_getElem?_getD, List.getD_eq_getElem?_getD, List.getElem?_map]
 cases l[i]? <;> rfl
theorem rargK {w : World} {base n : Nat} {v : Value} {l : List PV} (hn : l.length = n) (h0 : 0 < n) (h : w.ownsRow base 47 1 v n (valK l n)) (hok : ∀ i, i < n → (l.getD i zPV).Ok w) :
  ∃ G, RArg w v G (fun i => (l.getD i zPV).bo) (fun i => (l.getD i zPV).bc) (l.map (·.x)) := by
 rcases h.2 with ⟨h', h0'⟩ | ⟨g, cap, cur, h1, h2, h3, h4, h5, h6, h7⟩
 ·omega
 refine ⟨g, ⟨⟨some ⟨g, 0, none⟩, cap, by rw [h1, List.length_map, hn], by rw [List.length_map, hn]; exact h4, h5, (fun h => by cases h), .inr ⟨0, rfl, fun j hj => ?_⟩⟩, fun i hi => ?_⟩⟩
 ·rw [List.length_map, hn] at hj
  have e : (cur.toList.take (n * 1))[j]? = (valK l n)[j]? := by rw [h7]
  rw [List.getElem?_take, if_pos (by omega), Array.getElem?_toList, valK, List.getElem?_map, List.getElem?_range hj] at e
  dsimp only
  rw [getD_map11]
  exact cell_blk h3 (by rw [Nat.zero_add]; exact e)
 rw [List.length_map, hn] at hi
 rw [getD_map11]
 exact ⟨_, hok i hi⟩
theorem pay_fix2 {l : List PV} {n : Nat} (hln : l.length = n) (h6 : 6 ≤ n) (h8 : n ≤ 8) (hnb : ∀ p ∈ l, p.st ≠ 0) (h2 : (lostG l).length ≤ 2) (hro : l.any oddP = false) :
  fixOk (l.map (·.x)) (ints (lostG l)) = true ∧ ∀ out m, IsFix (l.map (·.x)) (ints (lostG l)) out m → fixL (l.map (·.x)) (ints (lostG l)) = out ∧ out.length = n ∧ ∀ i, i < n → (out.getD i []).length = 48 := by
 have hml : (l.map (·.x)).length = n := by rw [List.length_map, hln]
 have hpk := lostG_pk h2
 rw [hln, ← hml] at hpk
 have hget : ∀ i, i < n → keep (ints (lostG l)) i = true → ((l.map (·.x)).getD i []).length = 48 := by
  intro i hi hk
  rw [lostG_mem hnb (by omega)] at hk
  rw [getD_map11]
  have h3 := List.any_eq_false.1 hro _ (getD_mem11 (z := zPV) (i := i) (by omega))
  unfold oddP at h3
  rw [hk] at h3
  simpa using h3
 have hfo : fixOk (l.map (·.x)) (ints (lostG l)) = true := fixOk_of hpk (by omega) (by omega) (fun i hi hk => hget i (by omega) hk)
 refine ⟨hfo, fun out m hf => ?_⟩
 have hol : out.length = n := by rw [hf.len, hml]
 refine ⟨fixL_of (by omega) (by omega) hpk (by rw [ints_len]; exact h2) hf, hol, fun i hi => ?_⟩
 obtain ⟨j, hj, hkj⟩ := some_kept (zs := ints (lostG l)) (N := n) (by rw [ints_len]; exact h2) (by omega)
 have hm : m = 48 := by rw [← hf.szl j (by omega) hkj]; exact hget j hj hkj
 rw [hf.sz i (by omega), hm]
theorem rowF_bad {super at' : Int} {x : List (List Nat)} {d k : Nat} (hd : x.length - 2 = d) (hk : k < d) (h : stR super at' x (List.range (k + 1)) = none) : rowF super at' x = (zRow, 5) := by
 rw [stR_range] at h
 by_cases hg : ∀ i, i < k + 1 → goodR super at' x i
 ·rw [if_pos hg] at h; cases h
 unfold rowF
 rw [hd, if_neg (fun h => hg (fun i hi => h i (by omega)))]
theorem stR_succ (super at' : Int) (x : List (List Nat)) (k : Nat) : stR super at' x (List.range (k + 1)) = stepR super at' x (stR super at' x (List.range k)) k := by rw [List.range_succ, stR_snoc]
theorem wp_build_ev11 {o : Oper} {a : Act} {w : World} {K : Act → World → Prop} {Q : Exit → Act → World → Prop} (x : Operand) (ho : o.op = .buildSlice 22 1 #[(0, x)])
  (e : EV) (he : e.Ok) (hx : a.eval x = .agg e.ar) (h : K (a.put o.dst (.slice (some ⟨w.heap.size, 0, none⟩) 1 1)) (w.alloc (.cells e.ar 44))) : o.wp Tryz.prog a w K Q := by
 unfold Oper.wp execOp
 have hp : (#[(0, x)] : Array (Nat × Operand)).map (fun (i, x) => (i, a.eval x)) = #[(0, .agg e.ar)] := by simp [hx]
 simp only [ho, Sem.run_bind, hp, run_build_ev e he w, Result.andThen_ok]
 exact h
theorem decF_sta2 {super at' : Int} {l : List PV} {most c : Int} (h : (6 ≤ l.length ∧ l.length ≤ 8) ∧ 0 ≤ most ∧ most ≤ 2) (hs : staF l most = c) (hc : c ≠ 0) : decF super at' l most = (zRow, c) := by
 rw [decF_sta h (by rw [hs]; exact hc), hs]
theorem staF_all {l : List PV} {most : Int} (h : l.any (fun p => !(p.st == 0)) = false) : staF l most = 2 := by
 unfold staF
 rw [if_pos]
 rw [List.all_eq_true]
 intro p hp
 have := List.any_eq_false.1 h p hp
 simpa using this
theorem staF_some {l : List PV} {most : Int} {i : Nat} (h : l.any (fun p => !(p.st == 0)) = true) (hi : i < l.length) (h0 : (l.getD i zPV).st = 0) : staF l most = 5 := by
 unfold staF
 obtain ⟨q, hq, hq2⟩ := List.any_eq_true.1 h
 rw [if_neg (fun ha => by have := List.all_eq_true.1 ha q hq; rw [this] at hq2; cases hq2), if_pos]
 rw [List.any_eq_true]
 exact ⟨_, getD_mem11 (z := zPV) hi, by rw [h0]; rfl⟩
theorem staF_rest {l : List PV} {most : Int} (h : l.any (fun p => !(p.st == 0)) = true) (h0 : ∀ j, j < l.length → ¬ (l.getD j zPV).st = 0) : staF l most = if most < ((lostG l).length : Int) then 11 else 0 := by
 unfold staF
 obtain ⟨q, hq, hq2⟩ := List.any_eq_true.1 h
 rw [if_neg (fun ha => by have := List.all_eq_true.1 ha q hq; rw [this] at hq2; cases hq2), if_neg]
 intro ha
 obtain ⟨p, hp, hp2⟩ := List.any_eq_true.1 ha
 obtain ⟨i, hi, he⟩ := mem_getD11 (z := zPV) hp
 exact h0 i hi (by rw [he]; simpa using hp2)
end Go.Proofs.YtjdikhelabibnaaGreat

namespace Go.Proofs.YtjdikhelabibnaaGreat
open Go Go.RowKit Go.Shelf
theorem Arg.setslot {w : World} {v : Value} {g : Nat} {s : List Nat} (h : Arg w v g s) {p : Addr} {x : Value} (hc : w.cell? p = some x) (hx : ∀ z, x ≠ .int .u8 z) (u : Value) : Arg (w.setCell p u) v g s := by
 obtain ⟨⟨ao, c, h1, h2, h3, h4, h5⟩, hb⟩ := h
 refine ⟨⟨ao, c, h1, h2, h3, h4, ?_⟩, hb⟩
 rcases h5 with h | ⟨o, h6, h7⟩
 ·exact .inl h
 refine .inr ⟨o, h6, fun j hj => ?_⟩
 rw [World.cell?_setCell_other]
 ·exact h7 j hj
 intro e
 have := h7 j hj
 rw [← e, hc] at this
 exact hx _ (Option.some.inj this)
theorem ownR_blk11 {base : Nat} {w : World} {v : Value} {ps : List (Option Addr × Nat)} {l : List (List Nat)} {n : Nat} (h : OwnR base w v ps l) (hl : l.length = n) (h0 : 0 < n) : ∃ g cap A C, v = .slice (some ⟨g, 0, none⟩) n cap ∧ base ≤ g ∧ n ≤ cap ∧ cap ≤ maxLen ∧ RArg w (.slice (some ⟨g, 0, none⟩) n cap) g A C l ∧ ∃ cur, w.heap[g]? = some (.cells cur 47 (0, 0)) := by
 rcases h.shape with ⟨_, h2⟩ | ⟨g, cap, h1, h2, h3, h4, h5, ⟨cur, h6, -⟩, h7⟩
 ·rw [h2] at hl; simp at hl; omega
 rw [hl] at h1 h4
 exact ⟨g, cap, psA ps, psC ps, h1, h2, h4, h5, ⟨⟨some ⟨g, 0, none⟩, cap, by rw [hl], by rw [hl]; exact h4, h5, (fun h => by cases h), .inr ⟨0, rfl, fun j hj => by rw [Nat.zero_add]; exact h7 j hj⟩⟩, h.rows⟩, cur, h6⟩
theorem PgBlk.putB {base : Nat} {w : World} {v : Value} {G : Nat} {P : List PV} (h : PgBlk base w v G P) {j : Nat} (hj : j < P.length) {a : Option Addr} {c g : Nat} {s : List Nat} (hs : Arg w (.slice a s.length c) g s) :
  PgBlk base (w.setCell ⟨G, j * 2 + 1, none⟩ (.slice a s.length c)) v G (P.set j ⟨(P.getD j zPV).st, a, c, g, s⟩) := by
 have hcell : w.cell? ⟨G, j * 2 + 1, none⟩ = some (P.getD j zPV).b := h.blk.cell hj (j := 1) rfl
 obtain ⟨cur, h1, h2, h3⟩ := h.blk
 have hgd : ∀ i, (P.set j ⟨(P.getD j zPV).st, a, c, g, s⟩).getD i zPV = if j = i then ⟨(P.getD j zPV).st, a, c, g, s⟩ else P.getD i zPV := fun i => by
  rw [List.getD_eq_getElem?_getD, List.getElem?_set]
  by_cases e : j = i
  ·rw [if_pos e, if_pos e, if_pos (by omega)]; rfl
  rw [if_neg e, if_neg e, ← List.getD_eq_getElem?_getD]
 refine ⟨⟨cur.setIfInBounds (j * 2 + 1) (.slice a s.length c), ?_, ?_, fun i hi => ?_⟩, ?_, h.le, fun p hp => ?_⟩
 ·rw [setCell_eq_setRow w G (j * 2 + 1) cur 49 (0, 0) _ h1]
  exact setRow_heap _ _ _ _ _ _ h1
 ·rw [List.length_set, Array.size_setIfInBounds]; exact h2
 ·rw [List.length_set] at hi
  obtain ⟨h4, h5⟩ := h3 i hi
  refine ⟨rfl, fun q u hu => ?_⟩
  have hq : q < 2 := by have := (List.getElem?_eq_some_iff.1 hu).1; simpa [PV.cs] using this
  dsimp only at hu
  rw [hgd] at hu
  rw [Array.getElem?_setIfInBounds]
  by_cases e : j = i
  ·subst e
   rw [if_pos rfl] at hu
   by_cases e1 : q = 1
   ·subst e1
    rw [if_pos rfl, if_pos (by have := RowM.at_lt (m := 2) hj (show 1 < 2 by omega); omega)]
    simpa [PV.cs, PV.b] using hu
   have e0 : q = 0 := by omega
   subst e0
   rw [if_neg (by omega)]
   refine h5 0 u ?_
   simpa [PV.cs] using hu
  rw [if_neg e] at hu
  rw [if_neg (by have := RowM.ne_at (show 1 < 2 by omega) hq e; omega)]
  exact h5 q u hu
 ·rw [List.length_set]; exact h.ex
 obtain ⟨i, hi, he⟩ := mem_getD11 (z := zPV) hp
 rw [List.length_set] at hi
 rw [hgd] at he
 rw [← he]
 by_cases e : j = i
 ·rw [if_pos e]
  exact hs.setslot hcell (by intro z hz; cases hz) _
 rw [if_neg e]
 exact (h.ok _ (getD_mem11 hi)).setslot hcell (by intro z hz; cases hz) _
end Go.Proofs.YtjdikhelabibnaaGreat
