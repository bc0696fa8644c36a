/-
  
-/
import Derived.Test.YtjdikhelabibnaaGreatMba
import Derived.Test.YtjdikhelabibnaaGreatMal
import Derived.Test.YtjdikhelabibnaaGreatMaw
import Derived.Test.YtjdikhelabibnaaGreatMam
namespace Go.Proofs.YtjdikhelabibnaaGreat
open Go Go.RowKit Go.Shelf
def nbE (a b c i : Int) (e : EV) : List Nat := nats (byT a b c i e.k e.l e.s e.d)
theorem nbE_ints {a b c i : Int} {e : EV} (he : e.Ok) : ints (nbE a b c i e) = byT a b c i e.k e.l e.s e.d := ints_nats (byW_byt (mem_lt10 he.bs) (by simp))
theorem nbE_len {a b c i : Int} {e : EV} (he : e.Ok) : (nbE a b c i e).length = 48 := by
 rw [nbE, nats, List.length_map]; exact byW_len he.len rfl
theorem nbE_bs {a b c i : Int} {e : EV} (he : e.Ok) : Bs (nbE a b c i e) := by
 have h : Byt (byT a b c i e.k e.l e.s e.d) := byW_byt (mem_lt10 he.bs) (by simp)
 intro j
 rw [← cf_getD, nbE, nats, List.getD_eq_getElem?_getD, List.getElem?_map]
 cases hq : (byT a b c i e.k e.l e.s e.d)[j]? with
 | none => simp
 | some z =>
  have := h z (List.mem_of_getElem? hq)
  simp
  omega
def dataL (d : Nat) (a b c : Int) (l : List EV) : List (List Nat) := (List.range d).map (fun (i : Nat) => nbE a b c (i : Int) (l.getD i zEV))
theorem dataL_len (d : Nat) (a b c : Int) (l : List EV) : (dataL d a b c l).length = d := by simp [dataL]
theorem dataL_get {d : Nat} {a b c : Int} {l : List EV} {i : Nat} (hi : i < d) : (dataL d a b c l).getD i [] = nbE a b c (i : Int) (l.getD i zEV) := by
 rw [dataL, List.getD_eq_getElem?_getD, List.getElem?_map, List.getElem?_range hi]; rfl
theorem dataL_sz {d : Nat} {a b c : Int} {l : List EV} (hok : ∀ i, (l.getD i zEV).Ok) {i : Nat} (hi : i < d) : ((dataL d a b c l).getD i []).length = 48 := by rw [dataL_get hi, nbE_len (hok i)]
theorem dataL_bs {d : Nat} {a b c : Int} {l : List EV} (hok : ∀ i, (l.getD i zEV).Ok) (i : Nat) : Bs ((dataL d a b c l).getD i []) := by
 by_cases hi : i < d
 ·rw [dataL_get hi]; exact nbE_bs (hok i)
 rw [List.getD_eq_getElem?_getD, List.getElem?_eq_none (by rw [dataL_len]; omega)]; exact Bs.nil
theorem dataL_of {d : Nat} {a b c : Int} {l : List EV} {xs : List (Fin d)} (h : xs.map Fin.val = List.range d) : xs.map (fun x => nbE a b c (x.val : Nat) (l.getD x.val zEV)) = dataL d a b c l := by
 rw [dataL, ← h, List.map_map]; rfl
theorem dataL_snoc (d : Nat) (a b c : Int) (l : List EV) : dataL (d + 1) a b c l = dataL d a b c l ++ [nbE a b c (d : Int) (l.getD d zEV)] := by
 rw [dataL, List.range_succ, List.map_append]; rfl
def encL (d : Nat) (a b c : Int) (l : List EV) : List (List Nat) := withP (dataL d a b c l)
theorem encL_len (d : Nat) (a b c : Int) (l : List EV) : (encL d a b c l).length = d + 2 := by rw [encL, withP_len, dataL_len]
theorem encL_facts {d : Nat} {a b c : Int} {l : List EV} (hok : ∀ i, (l.getD i zEV).Ok) (h2 : 2 ≤ d) (h14 : d ≤ 14) : (∀ i, i < d + 2 → ((encL d a b c l).getD i []).length = 48) ∧ (∀ i, Bs ((encL d a b c l).getD i [])) ∧
  (∀ k, k < 48 → sm (shP d) (encL d a b c l) (List.range (d + 2)) k = 0) ∧ (∀ k, k < 48 → sm (shQ d) (encL d a b c l) (List.range (d + 2)) k = 0) :=
 withP_facts (dataL_len d a b c l) h2 h14 (fun _ hi => dataL_sz hok hi) (dataL_bs hok)
def okRow (n a b c : Int) (l : List EV) : Prop := (6 ≤ n ∧ n ≤ 8) ∧ okH a b c ∧ (l.length : Int) ≤ n - 2 ∧ okL l
structure EncR (w w' : World) (x : Ending) (n a b c : Int) (l : List EV) : Prop where
 below : Below w.heap.size w w'
 res : (okRow n a b c l ∧ ∃ v ps, x = .returned (.tuple #[v, .int .i64 0]) ∧ OwnR w.heap.size w' v ps (encL (n - 2).toNat a b c l)) ∨ (¬ okRow n a b c l ∧ x = .returned (.tuple #[.slice none 0 0, .int .i64 1]))
noncomputable def pickL (P : List (List Nat) → Prop) : List (List Nat) := open Classical in if h : ∃ x, P x then Classical.choose h else []
theorem pickL_spec {P : List (List Nat) → Prop} (h : ∃ x, P x) : P (pickL P) := by
 rw [pickL, dif_pos h]; exact Classical.choose_spec h
noncomputable def fixL (l : List (List Nat)) (zs : List Int) : List (List Nat) := pickL (fun out => ∃ n, IsFix l zs out n)
theorem fixL_of {l out : List (List Nat)} {zs : List Int} {n : Nat} (h4 : 4 ≤ l.length) (h16 : l.length ≤ 16) (hpk : pk zs l.length = true) (hz : zs.length ≤ 2) (h : IsFix l zs out n) : fixL l zs = out := by
 obtain ⟨n', h'⟩ : ∃ n, IsFix l zs (fixL l zs) n := pickL_spec (P := fun out => ∃ n, IsFix l zs out n) ⟨out, n, h⟩
 have hn := IsFix.size_eq h h' hz h4
 subst hn
 exact fix_once h4 h16 hpk h' h
theorem IsFix.other {l l' out : List (List Nat)} {zs : List Int} {n : Nat} (h : IsFix l zs out n) (hl : l'.length = l.length) (hk : ∀ i, i < l.length → keep zs i = true → l'.getD i [] = l.getD i []) : IsFix l' zs out n :=
 ⟨by rw [hl]; exact h.len, fun i hi hki => by rw [hl] at hi; rw [hk i hi hki]; exact h.szl i hi hki, fun i hi => h.sz i (by rw [← hl]; exact hi), fun i hi hki => by rw [hl] at hi; rw [hk i hi hki]; exact h.same i hi hki, h.bs, by rw [hl]; exact h.p, by rw [hl]; exact h.q⟩
structure RowV where
 se : Int
 at' : Int
 sl : List EV
def zRow : RowV := ⟨0, 0, []⟩
noncomputable def parV (zs : List Int) : EV := ⟨parN zs 0, parN zs 1, parN zs 2, parD zs⟩
def goodR (super at' : Int) (x : List (List Nat)) (i : Nat) : Prop := parE (ints (x.getD i [])) = 0 ∧ parH (ints (x.getD i [])) 1 = super ∧ parH (ints (x.getD i [])) 2 = at' ∧ parH (ints (x.getD i [])) 3 = (i : Int) ∧ parH (ints (x.getD i [])) 0 = parH (ints (x.getD 0 [])) 0
noncomputable def rowF (super at' : Int) (x : List (List Nat)) : RowV × Int := open Classical in
 if ∀ i, i < x.length - 2 → goodR super at' x i then (⟨parH (ints (x.getD 0 [])) 0, at', (List.range (x.length - 2)).map (fun i => parV (ints (x.getD i [])))⟩, 0) else (zRow, 5)
def lostG (l : List PV) : List Nat := atL (fun i => !((l.getD i zPV).st == 0) && !((l.getD i zPV).st == 2)) l.length
def oddP (p : PV) : Bool := (p.st == 2) && !(p.x.length == 48)
noncomputable def decF (super at' : Int) (l : List PV) (most : Int) : RowV × Int :=
 if ¬ ((6 ≤ l.length ∧ l.length ≤ 8) ∧ 0 ≤ most ∧ most ≤ 2) then (zRow, 1)
 else if l.all (fun p => p.st == 0) then (zRow, 2)
 else if l.any (fun p => p.st == 0) then (zRow, 5)
 else if most < ((lostG l).length : Int) then (zRow, 11)
 else if l.any oddP then (zRow, 5)
 else if chk (fixL (l.map (·.x)) (ints (lostG l))) then rowF super at' (fixL (l.map (·.x)) (ints (lostG l))) else (zRow, 5)
structure RowAt (base : Nat) (w : World) (v : Value) (r : RowV) : Prop where
 ex : ∃ sv g, v = .agg #[.int .i64 r.se, .int .i64 r.at', sv] ∧ EArg w sv g r.sl ∧ (r.sl ≠ [] → base ≤ g)
structure DecW (w w' : World) (x : Ending) (super at' : Int) (l : List PV) (most : Int) : Prop where
 below : Below w.heap.size w w'
 res : ∃ v, x = .returned (.tuple #[v, .int .i64 (decF super at' l most).2]) ∧ RowAt w.heap.size w' v (decF super at' l most).1
end Go.Proofs.YtjdikhelabibnaaGreat

namespace Go.Proofs.YtjdikhelabibnaaGreat
open Go Go.RowKit Go.Shelf
attribute [local go_sem] Oper.semAt_some
theorem atL_all {α : Type} {l : List α} {z : α} {p : α → Bool} : (atL (fun i => p (l.getD i z)) l.length).length = l.length ↔ l.all p = true := by
 have key : ((List.range l.length).filter (fun i => p (l.getD i z))).length = (List.range l.length).length ↔ ∀ i ∈ List.range l.length, p (l.getD i z) = true := List.length_filter_eq_length_iff
 rw [List.length_range] at key
 rw [atL, key, List.all_eq_true]
 constructor
 ·intro h x hx
  obtain ⟨i, hi, he⟩ := mem_getD11 (z := z) hx
  rw [← he]
  exact h i (List.mem_range.2 hi)
 intro h i hi
 exact h _ (getD_mem11 (List.mem_range.1 hi))
theorem atL_any {α : Type} {l : List α} {z : α} {p : α → Bool} : 0 < (atL (fun i => p (l.getD i z)) l.length).length ↔ l.any p = true := by
 rw [← any_range11 l z, List.length_pos_iff, ne_eq, atL, List.filter_eq_nil_iff, List.any_eq_true]
 constructor
 ·intro h
  refine Classical.byContradiction (fun hn => h (fun i hi hp => hn ⟨i, hi, hp⟩))
 rintro ⟨i, hi, hp⟩ h
 exact h i hi hp
theorem atL_le (K : Nat → Bool) (N : Nat) : (atL K N).length ≤ N := by
 have := List.length_filter_le K (List.range N)
 rw [List.length_range] at this
 exact this
def staF (l : List PV) (most : Int) : Int := if l.all (fun p => p.st == 0) then 2 else if l.any (fun p => p.st == 0) then 5 else if most < ((lostG l).length : Int) then 11 else 0
set_option maxRecDepth 100000 in
set_option maxHeartbeats 4000000 in
theorem stM_any (ao : Option Addr) (n c g : Nat) (l : List PV) (hn : n ≤ 8) (most : Int) (w : World) (hL : PgArg w (.slice ao n c) g l) :
  Calls Tryz.prog 35 #[.slice ao n c, .int .i64 most] w fun e w' => e = .returned (.int .i64 (staF l most)) ∧ Below w.heap.size w w' := by
 obtain ⟨h1, h2, h3, hrow⟩ := hL.mrow
 have HR := hide hrow
 have HPG := hide hL
 have hb1 : ∀ i, i < n → ∀ W, Calls Tryz.prog 63 #[.agg ((l.getD i zPV).cs).toArray] W fun e W' => e = .returned (.bool ((fun i => (l.getD i zPV).st == 0) i)) ∧ Below W.heap.size W W' := fun i _ W => blank_any _ _ W
 have hb2 : ∀ i, i < n → ∀ W, Calls Tryz.prog 64 #[.agg ((l.getD i zPV).cs).toArray] W fun e W' => e = .returned (.bool ((fun i => !((l.getD i zPV).st == 0) && !((l.getD i zPV).st == 2)) i)) ∧ Below W.heap.size W W' := fun i _ W => badp_any _ _ W
 have HB1 := hide hb1
 have HB2 := hide hb2
 have HN := hide h1
 clear hb1 hb2 hrow hL h2 h3
 obtain ⟨B, hB⟩ : ∃ B, (atL (fun i => (l.getD i zPV).st == 0) n).length = B := ⟨_, rfl⟩
 obtain ⟨L, hLl⟩ : ∃ L, (lostG l).length = L := ⟨_, rfl⟩
 have hBle : B ≤ n := by rw [← hB]; exact atL_le _ _
 have hall : (B = n) ↔ l.all (fun p => p.st == 0) = true := by rw [← hB, ← h1]; exact atL_all (l := l) (z := zPV) (p := fun p => p.st == 0)
 have hany : (0 < B) ↔ l.any (fun p => p.st == 0) = true := by rw [← hB, ← h1]; exact atL_any (l := l) (z := zPV) (p := fun p => p.st == 0)
 have hL2 : (atL (fun i => !((l.getD i zPV).st == 0) && !((l.getD i zPV).st == 2)) n).length = L := by rw [← hLl, lostG, h1]
 have hLle : L ≤ n := by rw [← hL2]; exact atL_le _ _
 have HBl := hide hB
 have HLl := hide hL2
 have HALL := hide hall
 have HANY := hide hany
 have HLG := hide hLl
 clear h1 hB hLl hall hany hL2
 go_enter Tryz.func35, Tryz.ntmps35
 go_wp2_with fail
 refine (suchP_any ao n c 63 w).mono ?_
 rintro e w1 ⟨rfl, k1, k2, -, hk⟩
 have HS := hide (suchP_seq (by omega) (fun i => rfl) (fun i => PV.cs_one _) k1 k2 ((uh HR).of (fun h => hk.block g ((uh HR).lt h (by simp [PV.cs])))) (enters_of Tryz.func63 (by kernel_rfl) rfl) (uh HB1))
 have HT := hide hk
 clear k1 k2 hk
 go_wp2_with fail
 refine (colP_any _ _ n (by omega) _ _ w1 (uh HS)).mono ?_
 rintro e w2 ⟨v, rfl, hO, hk⟩
 obtain ⟨gv, hA, -⟩ := hO.arg
 obtain ⟨ao2, c2, hv, -⟩ := hA.ex
 rw [uh HBl] at hv
 subst hv
 have HT2 := hide ((uh HT).trans (hk.mono (uh HT).size))
 clear hO hA hk HS HT
 by_cases e1 : B = n
 ·have hr : staF l most = 2 := by rw [staF, if_pos ((uh HALL).1 e1)]
  have HX := hide hr
  clear hr
  subst e1
  go_wp2
  go_ret
  exact ⟨by rw [uh HX]; rfl, uh HT2⟩
 have ha : ¬ l.all (fun p => p.st == 0) = true := fun h => e1 ((uh HALL).2 h)
 by_cases e2 : 0 < B
 ·have hr : staF l most = 5 := by rw [staF, if_neg ha, if_pos ((uh HANY).1 e2)]
  have HX := hide hr
  have e1' : ((B : Int) == (n : Int)) = false := by rw [beq_eq_false_iff_ne]; omega
  clear hr ha
  go_wp2
  go_ret
  exact ⟨by rw [uh HX]; rfl, uh HT2⟩
 have hy : ¬ l.any (fun p => p.st == 0) = true := fun h => e2 ((uh HANY).2 h)
 have e1' : ((B : Int) == (n : Int)) = false := by rw [beq_eq_false_iff_ne]; omega
 have hr : staF l most = if most < (L : Int) then 11 else 0 := by rw [staF, if_neg ha, if_neg hy, uh HLG]
 have HX := hide hr
 clear hr ha hy
 have HR2 := hide ((uh HR).of (fun h => (uh HT2).block g ((uh HR).lt h (by simp [PV.cs]))))
 go_wp2_with fail
 refine (suchP_any ao n c 64 _).mono ?_
 rintro e w3 ⟨rfl, k1, k2, -, hk⟩
 have HS := hide (suchP_seq (by omega) (fun i => rfl) (fun i => PV.cs_one _) k1 k2 ((uh HR2).of (fun h => hk.block g ((uh HR2).lt h (by simp [PV.cs])))) (enters_of Tryz.func64 (by kernel_rfl) rfl) (uh HB2))
 have HT := hide ((uh HT2).trans (hk.mono (uh HT2).size))
 clear k1 k2 hk
 go_wp2_with fail
 refine (colP_any _ _ n (by omega) _ _ w3 (uh HS)).mono ?_
 rintro e w4 ⟨v, rfl, hO, hk⟩
 obtain ⟨gv, hA, -⟩ := hO.arg
 obtain ⟨ao4, c4, hv, -⟩ := hA.ex
 rw [uh HLl] at hv
 subst hv
 have HT4 := hide ((uh HT).trans (hk.mono (uh HT).size))
 clear hO hA hk HS HT
 by_cases e3 : most < (L : Int)
 ·go_wp2
  go_ret
  exact ⟨by rw [uh HX, if_pos e3]; rfl, uh HT4⟩
 have e4 : (L : Int) ≤ most := by omega
 go_wp2
 go_ret
 exact ⟨by rw [uh HX, if_neg (by omega)]; rfl, uh HT4⟩
end Go.Proofs.YtjdikhelabibnaaGreat

namespace Go.Proofs.YtjdikhelabibnaaGreat
open Go Go.RowKit Go.Shelf
attribute [local go_sem] Oper.semAt_some
theorem Torn.nils (w : World) (n : Nat) (W : World) (hk : Below w.heap.size w W) : Torn w (W.alloc (.cells (List.replicate n (Value.slice none 0 0)).toArray 47)) W.heap.size n (List.replicate n (none, 0)) (List.replicate n []) := by
 refine ⟨⟨_, World.alloc_heap_new W _, fun j hj => ?_⟩, by simp, by simp, fun j hj => ⟨0, ?_⟩, hk.trans (((Below.refl _ W).alloc (Nat.le_refl _) _).mono hk.size), hk.size⟩
 ·rw [List.getElem?_toArray, List.getElem?_replicate, if_pos hj, psA, psC, List.getD_eq_getElem?_getD, List.getD_eq_getElem?_getD, List.getElem?_replicate, List.getElem?_replicate, if_pos hj, if_pos hj]
  rfl
 rw [psA, psC, List.getD_eq_getElem?_getD, List.getD_eq_getElem?_getD, List.getElem?_replicate, List.getElem?_replicate, if_pos hj, if_pos hj]
 exact ⟨⟨none, 0, rfl, by simp, by simp, fun _ => rfl, .inl rfl⟩, Bs.nil⟩
theorem Torn.kept {w8 W W' : World} {gT N : Nat} {ps : List (Option Addr × Nat)} {t : List (List Nat)} (h : Torn w8 W gT N ps t) (k : W'.heap[gT]? = W.heap[gT]?) (hb : Below w8.heap.size w8 W') : Torn w8 W' gT N ps t := by
 obtain ⟨cur, h1, h2⟩ := h.cells
 exact ⟨⟨cur, k.trans h1, h2⟩, h.pl, h.tl, h.rows, hb, h.hg⟩
def Part (l : List PV) (n : Nat) (is : List Nat) (t : List (List Nat)) : Prop := ∀ i, i < n → t.getD i [] = if i ∈ is then (l.getD i zPV).x else []
theorem Part.set {l : List PV} {n : Nat} {is : List Nat} {t : List (List Nat)} (h : Part l n is t) (ht : t.length = n) {i : Nat} (_hi : i < n) : Part l n (is ++ [i]) (t.set i (l.getD i zPV).x) := by
 intro j hj
 rw [List.getD_eq_getElem?_getD, List.getElem?_set]
 by_cases e : i = j
 ·subst e
  rw [if_pos rfl, if_pos (by omega), if_pos (by simp)]
  rfl
 rw [if_neg e, ← List.getD_eq_getElem?_getD, h j hj]
 by_cases e2 : j ∈ is
 ·rw [if_pos e2, if_pos (by simp [e2])]
 rw [if_neg e2, if_neg (by simp; exact ⟨e2, fun e3 => e e3.symm⟩)]
theorem Torn.own {β : Type} {w8 : World} {gT N m : Nat} (hm : w8.heap.size ≤ m) (f : β → List Nat) (l : List PV) : OwnFrom m (fun s W => ∃ ps t, Torn w8 W gT N ps t ∧ Part l N (f s) t) := by
 rintro s A B row ⟨ps, t, h1, h2⟩ hg hr
 refine ⟨ps, t, h1.kept (hg.block gT h1.lt (fun e => ?_)) (h1.below.trans ⟨hg.os, hg.tape, hg.output, hg.size, fun k hk => hg.block k (Nat.lt_of_lt_of_le hk h1.below.size) (fun e => ?_)⟩), h2⟩
 ·obtain ⟨-, o, ho, hc⟩ := hr gT e.symm
  obtain ⟨cur, h3, -⟩ := h1.cells
  rw [h3] at ho; cases ho; cases hc
 have := (hr k e.symm).1; omega
structure ObjAt (w : World) (k : Nat) (o : Obj) : Prop where
 at' : w.heap[k]? = some o
theorem ObjAt.below {w w' : World} {k : Nat} {o : Obj} (h : ObjAt w k o) (b : Below w.heap.size w w') : ObjAt w' k o := ⟨(b.block k (Array.getElem?_eq_some_iff.1 h.at').1).trans h.at'⟩
structure BoxW (w : World) (k : Nat) (t : TypeId) (v : Value) : Prop where
 bx : Boxed w k t v
theorem BoxW.below {w w' : World} {k : Nat} {t : TypeId} {v : Value} (h : BoxW w k t v) (b : Below w.heap.size w w') : BoxW w' k t v := ⟨Boxed.below h.bx b⟩
theorem BoxW.cell {w : World} {k : Nat} {t : TypeId} {v : Value} (h : BoxW w k t v) : w.cell? ⟨k, 0, none⟩ = some v := h.bx.cell
structure MRowW (w : World) (ao : Option Addr) (G m N : Nat) (f : Nat → List Value) : Prop where
 row : MRow w ao G m N f
 lt : 0 < N → G < w.heap.size
theorem MRowW.below {w w' : World} {ao : Option Addr} {G m N : Nat} {f : Nat → List Value} (h : MRowW w ao G m N f) (b : Below w.heap.size w w') : MRowW w' ao G m N f := ⟨h.row.of (fun hn => b.block G (h.lt hn)), fun hn => Nat.lt_of_lt_of_le (h.lt hn) b.size⟩
theorem lostG_mem {l : List PV} {i : Nat} (hb : ∀ p ∈ l, p.st ≠ 0) (hi : i < l.length) : keep (ints (lostG l)) i = ((l.getD i zPV).st == 2) := by
 have h0 : ((l.getD i zPV).st == 0) = false := by rw [beq_eq_false_iff_ne]; exact hb _ (getD_mem11 hi)
 unfold keep
 have : ((i : Int) ∈ ints (lostG l)) ↔ ¬ ((l.getD i zPV).st == 2) = true := by
  unfold ints
  rw [List.mem_map]
  constructor
  ·rintro ⟨j, hj, he⟩
   have : j = i := by omega
   subst this
   have := (List.mem_filter.1 hj).2
   rw [h0] at this
   simpa using this
  intro h
  refine ⟨i, List.mem_filter.2 ⟨List.mem_range.2 hi, ?_⟩, rfl⟩
  rw [h0]
  simpa using h
 by_cases e : ((l.getD i zPV).st == 2) = true
 ·rw [e, decide_eq_false (fun h => (this.1 h) e)]; rfl
 rw [decide_eq_true (this.2 e)]
 rw [Bool.not_eq_true] at e
 rw [e]; rfl
theorem lostG_pk {l : List PV} (h2 : (lostG l).length ≤ 2) : pk (ints (lostG l)) l.length = true := by
 refine pk_of ⟨by rw [ints_len]; exact h2, fun z hz => ?_, ints_nodup (List.Pairwise.filter _ List.nodup_range)⟩
 unfold ints at hz
 obtain ⟨j, hj, rfl⟩ := List.mem_map.1 hz
 have := List.mem_range.1 (List.mem_filter.1 hj).1
 omega
theorem tlen_le {l : List PV} {n : Nat} {is : List Nat} {t : List (List Nat)} (hpt : Part l n is t) (hlen : ∀ i, (l.getD i zPV).x.length ≤ 100000) (htl : t.length = n) (i : Nat) : (t.getD i []).length ≤ 100000 := by
 by_cases hi : i < n
 ·rw [hpt i hi]
  split
  ·exact hlen i
  simp
 rw [List.getD_eq_getElem?_getD, List.getElem?_eq_none (by omega)]; simp
theorem pay_fix {l : List PV} {n : Nat} {t : List (List Nat)} (hln : l.length = n) (h6 : 6 ≤ n) (h8 : n ≤ 8) (hnb : ∀ p ∈ l, p.st ≠ 0) (h2 : (lostG l).length ≤ 2) (hro : l.any oddP = false) (hpt : Part l n ((List.range n).filter (fun i => (l.getD i zPV).st == 2)) t) (htl : t.length = n) :
  fixOk t (ints (lostG l)) = true ∧ ∀ out m, IsFix t (ints (lostG l)) out m → fixL (l.map (·.x)) (ints (lostG l)) = out ∧ out.length = n ∧ ∀ i, (out.getD i []).length ≤ 100000 := by
 have hpk := lostG_pk h2
 rw [hln, ← htl] at hpk
 have hget : ∀ i, i < n → keep (ints (lostG l)) i = true → t.getD i [] = (l.map (·.x)).getD i [] ∧ (t.getD i []).length = 48 := by
  intro i hi hk
  have hk' := hk
  rw [lostG_mem hnb (by omega)] at hk
  have e1 : t.getD i [] = (l.getD i zPV).x := by rw [hpt i hi, if_pos (List.mem_filter.2 ⟨List.mem_range.2 hi, hk⟩)]
  refine ⟨?_, ?_⟩
  ·rw [e1, List.getD_eq_getElem?_getD, List.getD_eq_getElem?_getD, List.getElem?_map, List.getElem?_eq_getElem (by omega)]; rfl
  rw [e1]
  have h3 := List.any_eq_false.1 hro _ (getD_mem11 (z := zPV) (i := i) (by omega))
  unfold oddP at h3
  rw [hk] at h3
  simpa using h3
 have hfo : fixOk t (ints (lostG l)) = true := fixOk_of hpk (by omega) (by omega) (fun i hi hk => (hget i (by omega) hk).2)
 refine ⟨hfo, fun out m hf => ?_⟩
 have hlm : (l.map (·.x)).length = t.length := by rw [List.length_map, hln, htl]
 have hf2 : IsFix (l.map (·.x)) (ints (lostG l)) out m := hf.other hlm (fun i hi hk => ((hget i (by omega) hk).1).symm)
 have hol : out.length = n := by rw [hf.len, htl]
 refine ⟨fixL_of (by omega) (by omega) (by rw [hlm]; exact hpk) (by rw [ints_len]; exact h2) hf2, hol, fun i => ?_⟩
 obtain ⟨j, hj, hkj⟩ := some_kept (zs := ints (lostG l)) (N := n) (by rw [ints_len]; exact h2) (by omega)
 have hm : m = 48 := by rw [← hf.szl j (by omega) hkj]; exact (hget j hj hkj).2
 by_cases hi : i < n
 ·rw [hf.sz i (by omega), hm]; omega
 rw [List.getD_eq_getElem?_getD, List.getElem?_eq_none (by omega)]; simp
set_option maxRecDepth 100000 in
set_option maxHeartbeats 8000000 in
theorem payO_any (ao : Option Addr) (n c g : Nat) (l : List PV) (h6 : 6 ≤ n) (h8 : n ≤ 8) (hlen : ∀ i, (l.getD i zPV).x.length ≤ 100000) (hb0 : ∀ p ∈ l, p.st ≠ 0) (h2 : (lostG l).length ≤ 2) (w : World) (hL : PgArg w (.slice ao n c) g l) :
  Calls Tryz.prog 36 #[.slice ao n c] w fun e w' => Below w.heap.size w w' ∧ ∃ v r, e = .returned (.tuple #[v, .bool r]) ∧ (!l.any oddP && chk (fixL (l.map (·.x)) (ints (lostG l)))) = r ∧ (r = true → (fixL (l.map (·.x)) (ints (lostG l))).length = n ∧ (∀ i, ((fixL (l.map (·.x)) (ints (lostG l))).getD i []).length ≤ 100000) ∧ ∃ G A C, RArg w' v G A C (fixL (l.map (·.x)) (ints (lostG l)))) := by
 obtain ⟨hln, -, -, hrow⟩ := hL.mrow
 have HR := hide hrow
 have HPG := hide hL
 have hb1 : ∀ i, i < n → ∀ W, Calls Tryz.prog 66 #[.agg ((l.getD i zPV).cs).toArray] W fun e W' => e = .returned (.bool ((fun i => oddP (l.getD i zPV)) i)) ∧ Below W.heap.size W W' := fun i _ W => odd_any _ _ _ _ W
 have hb2 : ∀ i, i < n → ∀ W, Calls Tryz.prog 64 #[.agg ((l.getD i zPV).cs).toArray] W fun e W' => e = .returned (.bool ((fun i => !((l.getD i zPV).st == 0) && !((l.getD i zPV).st == 2)) i)) ∧ Below W.heap.size W W' := fun i _ W => badp_any _ _ W
 have hb3 : ∀ i, i < n → ∀ W, Calls Tryz.prog 67 #[.agg ((l.getD i zPV).cs).toArray] W fun e W' => e = .returned (.bool ((fun i => (l.getD i zPV).st == 2) i)) ∧ Below W.heap.size W W' := fun i _ W => goodp_any _ _ W
 have HO := hide hb1
 have HBD := hide hb2
 have HGD := hide hb3
 have HLEN := hide hlen
 have HNB := hide hb0
 have HL2 := hide h2
 have HLN := hide hln
 clear hb1 hb2 hb3 hrow hL hlen hb0 h2 hln
 have hnl := fun W => run_nils n (by omega) W
 have HTN := hide (fun W hk => Torn.nils w n W hk)
 obtain ⟨nils, hnils⟩ : ∃ x, (List.replicate n (Value.slice none 0 0)).toArray = x := ⟨_, rfl⟩
 rw [hnils] at HTN
 simp only [hnils] at hnl
 clear hnils
 refine (callsIn_wide (n := 3)).1 ?_
 refine callsIn_of_wp_marks Tryz.func36 rfl trivial ?_ rfl
 simp only [Tryz.ntmps36, List.size_toArray, List.length_cons, List.length_nil, Nat.reduceAdd, Nat.reduceSub, Array.replicate_succ, Array.replicate_zero, List.push_toArray, List.append_toArray, List.nil_append, List.cons_append]
 gi_wp2
 have b0 : Boxed (w.alloc (.cells #[.slice ao n c] 112)) w.heap.size 112 (.slice ao n c) := Boxed.new _ _ _
 have hal := (Below.refl w.heap.size w).alloc (Nat.le_refl _) (.cells #[.slice ao n c] 112)
 have hz1 : (w.alloc (.cells #[.slice ao n c] 112)).heap.size = w.heap.size + 1 := World.size_alloc _ _
 generalize w.alloc (.cells #[.slice ao n c] 112) = w1 at b0 hal hz1 ⊢
 have HR1 := hide ((uh HR).of (fun h => hal.block g ((uh HR).lt h (by simp [PV.cs]))))
 refine ⟨trivial, (callsIn_wide.2 (hasP_any ao g n c 66 _ _ (by omega) (fun i => rfl) (fun i => PV.cs_one _) w1 (uh HR1) (enters_of Tryz.func66 (by kernel_rfl) rfl) (uh HO))).mono ?_⟩
 rintro e w2 ⟨rfl, hk⟩
 have HA : Hid ((List.range n).any (fun i => oddP (l.getD i zPV)) = l.any oddP) := by
  show _ = _
  rw [← any_range11 l zPV, uh HLN]
 rw [uh HA]
 have HT := hide (hal.trans (hk.mono (by omega)))
 have HB0 := hide (Boxed.below b0 hk)
 have hz2 : w.heap.size + 1 ≤ w2.heap.size := by have := hk.size; omega
 clear b0 hal hz1 hk HR1 HA
 obtain ⟨ro, hro⟩ : ∃ ro, l.any oddP = ro := ⟨_, rfl⟩
 have HRO := hide hro
 rw [hro]
 clear hro
 cases ro
 ·have hgl : 0 < n := by omega
  have hgw : g < w.heap.size := (uh HR).lt hgl (by simp [PV.cs])
  have hcw2 := Boxed.cell (uh HB0)
  have hcw3 : ((w2.alloc (.cells nils 47)).alloc (.cells #[.slice (some ⟨w2.heap.size, 0, none⟩) n n] 25)).cell? ⟨w.heap.size, 0, none⟩ = some (.slice ao n c) := ((((Below.refl w2.heap.size w2).alloc (Nat.le_refl _) (.cells nils 47)).alloc (by simp) (.cells #[.slice (some ⟨w2.heap.size, 0, none⟩) n n] 25)).cell (p := ⟨w.heap.size, 0, none⟩) (by dsimp only; omega)).trans hcw2
  gi_wp2
  clear hcw2 hcw3
  have hb3 : Boxed ((w2.alloc (.cells nils 47)).alloc (.cells #[.slice (some ⟨w2.heap.size, 0, none⟩) n n] 25)) (w2.heap.size + 1) 25 (.slice (some ⟨w2.heap.size, 0, none⟩) n n) := by
   have h := Boxed.new (w2.alloc (.cells nils 47)) 25 (.slice (some ⟨w2.heap.size, 0, none⟩) n n)
   rwa [World.size_alloc] at h
  have hal : Below w2.heap.size w2 ((w2.alloc (.cells nils 47)).alloc (.cells #[.slice (some ⟨w2.heap.size, 0, none⟩) n n] 25)) := ((Below.refl _ _).alloc (Nat.le_refl _) _).alloc (by simp) _
  have htn := (uh HTN w2 (uh HT)).more (((Below.refl _ (w2.alloc (.cells nils 47))).alloc (Nat.le_refl _) (.cells #[.slice (some ⟨w2.heap.size, 0, none⟩) n n] 25)))
  have hz3 : ((w2.alloc (.cells nils 47)).alloc (.cells #[.slice (some ⟨w2.heap.size, 0, none⟩) n n] 25)).heap.size = w2.heap.size + 2 := by simp
  generalize (w2.alloc (.cells nils 47)).alloc (.cells #[.slice (some ⟨w2.heap.size, 0, none⟩) n n] 25) = w3 at hb3 hal htn hz3 ⊢
  obtain ⟨gT, hgT⟩ : ∃ gT, w2.heap.size = gT := ⟨_, rfl⟩
  rw [hgT] at hb3 hz3 hz2 htn ⊢
  have HT3 := hide ((uh HT).trans (hal.mono (uh HT).size))
  have HB3 := hide (Boxed.below (uh HB0) hal)
  have HP3 := hide hb3
  have HTN3 := hide htn
  have HR3 := hide ((uh HR).of (fun h => (uh HT3).block g ((uh HR).lt h (by simp [PV.cs]))))
  have hc0 := Boxed.cell (uh HB3)
  have hgTle := Nat.le_of_eq hgT
  clear hb3 hal htn hgT
  clear hnl HTN HO HB0 HT
  refine ⟨trivial, (callsIn_wide.2 (suchP_any ao n c 67 w3)).mono ?_⟩
  rintro e w4 ⟨rfl, k1, k2, hz4, hk⟩
  have HS := hide (suchP_seq (by omega) (fun i => rfl) (fun i => PV.cs_one _) k1 k2 ((uh HR3).of (fun h => hk.block g ((uh HR3).lt h (by simp [PV.cs])))) (enters_of Tryz.func67 (by kernel_rfl) rfl) (uh HGD))
  have HT4 := hide ((uh HT3).trans (hk.mono (uh HT3).size))
  have HB4 := hide (Boxed.below (uh HB3) hk)
  have HP4 := hide (Boxed.below (uh HP3) hk)
  have HTN4 := hide ((uh HTN3).more hk)
  have hz4a : gT + 2 ≤ w4.heap.size := by omega
  have hz3a := Nat.le_of_eq hz3
  have hz3b := Nat.le_of_eq hz3.symm
  clear k1 k2 hk hz4 hz3 hc0 HT3 HB3 HP3 HTN3 HR3 HGD
  have HPT := hide (show Part l n [] (List.replicate n []) from fun i hi => by rw [List.getD_eq_getElem?_getD, List.getElem?_replicate, if_pos hi, if_neg (by simp)]; rfl)
  gi_wp2
  refine wpIn_rangeFunc_ownF rfl (by omega) (gf := 96) (lb := #[.pointer (some ⟨w3.heap.size, 0, none⟩), .pointer (some ⟨w3.heap.size + 1, 0, none⟩)]) rfl trivial (uh HS).enters
   ((uh HS).seq w4 [gT] w4.heap.size (Below.refl _ _) (by intro s hs; rw [List.mem_singleton.1 hs]; rintro (h | ⟨-, h⟩) <;> omega) (Nat.le_refl _))
   (fun h k => h.trans k) (kq_b (Nat.le_refl _)) (Below.refl _ _) (fun _ => rfl)
   (fun pre W => (∃ ps t, Torn w W gT n ps t ∧ Part l n (pre.map Subtype.val) t) ∧ (Boxed W w.heap.size 112 (.slice ao n c) ∧ Boxed W (gT + 1) 25 (.slice (some ⟨gT, 0, none⟩) n n) ∧ w4.heap.size ≤ W.heap.size) ∧ Below w.heap.size w W)
   (fun _ _ _ => False)
   (OwnFrom.and (Torn.own (by omega) _ l) (OwnFrom.and (Own.from (fun s A B row hs hg hr => ⟨boxed_own _ _ _ s A B row hs.1 hg hr, boxed_own _ _ _ s A B row hs.2.1 hg hr, Nat.le_trans hs.2.2 hg.size⟩) _) (ownFrom_below (Nat.le_refl _) (by omega))))
   (fun c => fun _ _ _ _ hs _ _ => hs)
   ⟨⟨_, _, uh HTN4, uh HPT⟩, ⟨uh HB4, uh HP4, Nat.le_refl _⟩, uh HT4⟩
   ?act ?assign ?body ?done ?stop
  case assign =>
   intro l x W K hK
   gi_wp2
   exact hK
  case stop =>
   rintro D c pre W hD hpre h hK
   exact h.elim
  case body =>
   rintro l' pre x W ⟨⟨ps, t, htn, hpt⟩, ⟨hb0, hbp, hzw⟩, hB⟩ hlt
   have HZW := hide hzw
   have hx := x.property.1
   have HTNW := hide htn
   have HPTW := hide hpt
   have HBW := hide hb0
   have HPW := hide hbp
   have HB := hide hB
   obtain ⟨o, hao, hcl⟩ := ((uh HR).of (fun h => hB.block g ((uh HR).lt h (by simp [PV.cs])))).at (by omega)
   subst hao
   have hcx : W.cell? ⟨g, o + x.val * 2 + 1, none⟩ = some ((l.getD x.val zPV).b) := hcl x.val hx 1 _ rfl
   have HCX := hide hcx
   have hx1 : (x.val : Int) < (n : Int) := by omega
   have HGN : Hid (g ≠ gT) := by show _ ≠ _; omega
   have hzT := htn.hg
   have HGT := hide htn.cells
   have hct := (htn.cell hx)
   have HCT := hide hct
   clear htn hpt hb0 hbp hB hcl hcx hct
   have HNE : Hid (w.heap.size ≠ gT) := by show _ ≠ _; omega
   obtain ⟨p, hp⟩ : ∃ p, l.getD x.val zPV = p := ⟨_, rfl⟩
   have HXB : Hid (Arg w (.slice p.bo p.x.length p.bc) p.gb p.x) := by have h := (uh HPG).get_ok x.val; rw [hp] at h; exact h
   rw [hp] at HCX
   replace HCX : Hid (W.cell? ⟨g, o + x.val * 2 + 1, none⟩ = some (.slice p.bo p.x.length p.bc)) := HCX
   have HP := hide hp
   clear hp
   dsimp only
   gi_wp2
   refine wpIn_region_round (S := fun W' => Kp [gT] W W') (by kernel_rfl) (by kernel_rfl) (fun ⟨_, _, h⟩ => h) ((Kp.refl _ _).drew) (fun hHeld => ?_)
   have HH := hide hHeld
   clear hHeld
   refine tkW 0 (v := ?_) ?_ (uh HH) ?_
   rotate_left 1
   ·intro W1 hSW; have hc := hSW.cell (uh HPW).cell (by simp); clear hSW; go_simp; all_goals (with_reducible rfl)
   (try simp only [layB])
   refine tkL 1 (uh HH) ?_
   (try simp only [layB])
   refine tkW 2 (v := ?_) ?_ (uh HH) ?_
   rotate_left 1
   ·intro W1 hSW; have hc := hSW.cell (uh HBW).cell (by simpa using (uh HNE)); clear hSW; go_simp; all_goals (with_reducible rfl)
   (try simp only [layB])
   refine tkL 3 (uh HH) ?_
   (try simp only [layB])
   refine tkL 4 (uh HH) ?_
   (try simp only [layB])
   refine tkL 5 (uh HH) ?_
   (try simp only [layB])
   refine tkW 6 (v := ?_) ?_ (uh HH) ?_
   rotate_left 1
   ·intro W1 hSW; have hc := hSW.cell (uh HCX) (by simpa using (uh HGN)); clear hSW; go_simp; all_goals (with_reducible rfl)
   (try simp only [layB])
   refine tkL 7 (uh HH) ?_
   (try simp only [layB])
   refine wpAnyH_ready (rs := [8]) (by kernel_rfl) (by simp) ?_
   refine consL rfl (fun K hK => ?_) AllReadyH.nil
   have hct := uh HCT
   go_simp
   refine hK.out _ _ ((uh HH).setCell ⟨gT, x.val, none⟩ _ (.inl (by simp))) (fun hHeld => ?_)
   clear hHeld hK K HH
   (try simp only [layB])
   refine wpAnyH_done (by kernel_rfl) ?_ _
   have hk9 : Kp [gT] W (W.setCell ⟨gT, x.val, none⟩ (.slice p.bo p.x.length p.bc)).drew := ((Kp.refl [gT] W).setCell _ _ (.inl (by simp))).drew
   have hb9 : Below w.heap.size w (W.setCell ⟨gT, x.val, none⟩ (.slice p.bo p.x.length p.bc)).drew := ((uh HB).setCell (p := ⟨gT, x.val, none⟩) hzT _).drew
   obtain ⟨cur, hcur, -⟩ := uh HGT
   refine ⟨keeps_kp hk9 hcur, kp_kq hk9 (uh HZW), ⟨_, _, ((uh HTNW).set hx (uh HXB)).kept rfl hb9, ?_⟩, ⟨(hk9.block _ (Boxed.lt (uh HBW)) (by simpa using uh HNE)).trans (uh HBW), (hk9.block _ (Boxed.lt (uh HPW)) (by simp)).trans (uh HPW), by simpa [World.setCell] using uh HZW⟩, hb9⟩
   rw [List.map_append, ← uh HP]
   exact (uh HPTW).set (uh HTNW).tl hx
  case done =>
   rintro D xs wd hD hxs ⟨⟨ps, t, htn, hpt⟩, ⟨hb0, hbp, hzw⟩, hB⟩ hK
   have HT := hide hB
   have HDZ : Hid (w.heap.size ≤ D) := by show _ ≤ _; omega
   have HQPW := hide ((uh HPG).below hB)
   have HRG := hide (htn.arg (Nat.le_refl n) (by unfold maxLen; omega))
   have HB0 := hide (show BoxW wd w.heap.size 112 (.slice ao n c) from ⟨hb0⟩)
   have HBP := hide (show BoxW wd (gT + 1) 25 (.slice (some ⟨gT, 0, none⟩) n n) from ⟨hbp⟩)
   have HDD := hide (show ObjAt wd D (.deferred (some [])) from ⟨hK⟩)
   have HRW := hide (show MRowW wd ao g 2 n (fun i => (l.getD i zPV).cs) from ⟨(uh HR).of (fun h => hB.block g ((uh HR).lt h (by simp [PV.cs]))), fun h => by have := (uh HR).lt h (by simp [PV.cs]); have := hB.size; omega⟩)
   have HTL : Hid (t.length = n) := htn.tl
   have HPTF : Hid (Part l n ((List.range n).filter (fun i => (l.getD i zPV).st == 2)) t) := by
    have : xs.map Subtype.val = (List.range n).filter (fun i => (l.getD i zPV).st == 2) := hxs
    rw [← this]; exact hpt
   clear htn hpt hb0 hbp hB hK hxs hD hzw
   obtain ⟨hX1, hX2⟩ := pay_fix (uh HLN) h6 h8 (uh HNB) (uh HL2) (uh HRO) (uh HPTF) (uh HTL)
   have HX1 := hide hX1
   have HX2 := hide hX2
   clear hX1 hX2
   dsimp only
   gi_wp2
   refine wpIn_wide.2 ?_
   replace HT := hide ((uh HT).drew)
   replace HQPW := hide ((uh HQPW).below (Below.refl _ _).drew)
   replace HRG := hide ((uh HRG).below (Below.refl _ _).drew)
   replace HB0 := hide ((uh HB0).below (Below.refl _ _).drew)
   replace HBP := hide ((uh HBP).below (Below.refl _ _).drew)
   replace HDD := hide ((uh HDD).below (Below.refl _ _).drew)
   replace HRW := hide ((uh HRW).below (Below.refl _ _).drew)
   refine wp_region_noPanic ?_
   refine wp_region_held_drew (S := fun W => Below wd.drew.heap.size wd.drew W) (by kernel_rfl) (Below.refl _ _) (fun hHeld => ?_)
   have HH := hide hHeld
   clear hHeld
   generalize wd.drew = w1 at HT HQPW HRG HB0 HBP HDD HRW HH ⊢
   refine tkW 0 (v := ?_) ?_ (uh HH) ?_
   rotate_left 1
   ·intro W1 hSW; have hc := ((uh HBP).below hSW).cell; clear hSW; go_simp; all_goals (with_reducible rfl)
   (try simp only [layB])
   refine tkW 1 (v := ?_) ?_ (uh HH) ?_
   rotate_left 1
   ·intro W1 hSW; have hc := ((uh HB0).below hSW).cell; clear hSW; go_simp; all_goals (with_reducible rfl)
   (try simp only [layB])
   refine wpAnyH_ready (rs := [2]) (by kernel_rfl) (by simp) ?_
   refine consL rfl (fun K hK => ?_) AllReadyH.nil
   go_simp
   refine (suchP_any ao n c 64 w1).mono ?_
   rintro e w2 ⟨rfl, k1, k2, -, hk⟩
   replace HQPW := hide ((uh HQPW).below hk)
   replace HRG := hide ((uh HRG).below hk)
   replace HB0 := hide ((uh HB0).below hk)
   replace HBP := hide ((uh HBP).below hk)
   replace HDD := hide ((uh HDD).below hk)
   replace HRW := hide ((uh HRW).below hk)
   replace HT := hide ((uh HT).trans (hk.mono (uh HT).size))
   have HSQ := hide (suchP_seq (by omega) (fun i => rfl) (fun i => PV.cs_one _) k1 k2 (uh HRW).row (enters_of Tryz.func64 (by kernel_rfl) rfl) (uh HBD))
   clear k1 k2
   refine hK.out _ _ hk (fun hHeld => ?_)
   clear hK K HH hHeld
   (try simp only [layB])
   refine stronger (S' := fun W => Below w2.heap.size w2 W) (fun W h => hk.trans (h.mono hk.size)) _ _ _ _ ?_
   have HH : Hid (Below w2.heap.size w2 w2) := Below.refl _ _
   clear hk
   refine wpAnyH_ready (rs := [3]) (by kernel_rfl) (by simp) ?_
   refine consL rfl (fun K hK => ?_) AllReadyH.nil
   go_simp
   refine (colP_any _ _ n (by omega) _ _ w2 (uh HSQ)).mono ?_
   rintro e w3 ⟨v3, rfl, hO, hk⟩
   clear HSQ
   obtain ⟨gz, hZ, -⟩ := places_z (n := n) hO (by omega) (fun i hi => List.mem_range.1 (List.mem_filter.1 hi).1)
   replace hZ : ZArg w3 v3 gz (ints (lostG l)) := by have h : atL (fun i => !((l.getD i zPV).st == 0) && !((l.getD i zPV).st == 2)) n = lostG l := (by rw [lostG, uh HLN]); rw [h] at hZ; exact hZ
   obtain ⟨zo, zc, hzv, -⟩ := hZ.ex
   subst hzv
   rw [ints_len] at hZ ⊢
   obtain ⟨Lz, hLz⟩ : ∃ Lz, (lostG l).length = Lz := ⟨_, rfl⟩
   rw [hLz] at hZ ⊢
   clear hLz hO
   replace HQPW := hide ((uh HQPW).below hk)
   replace HRG := hide ((uh HRG).below hk)
   replace HB0 := hide ((uh HB0).below hk)
   replace HBP := hide ((uh HBP).below hk)
   replace HDD := hide ((uh HDD).below hk)
   replace HRW := hide ((uh HRW).below hk)
   replace HT := hide ((uh HT).trans (hk.mono (uh HT).size))
   have HZ := hide hZ
   clear hZ
   refine hK.out _ _ hk (fun hHeld => ?_)
   clear hK K HH hHeld
   (try simp only [layB])
   refine stronger (S' := fun W => Below w3.heap.size w3 W) (fun W h => hk.trans (h.mono hk.size)) _ _ _ _ ?_
   have HH : Hid (Below w3.heap.size w3 w3) := Below.refl _ _
   clear hk
   refine wpAnyH_ready (rs := [4]) (by kernel_rfl) (by simp) ?_
   refine consL rfl (fun K hK => ?_) AllReadyH.nil
   go_simp
   refine (fix_any _ gT _ _ t _ gz _ w3 (uh HRG) (uh HZ) (fun i => tlen_le (uh HPTF) (uh HLEN) (uh HTL) i)).mono ?_
   rintro e w4 ⟨hk, (⟨-, v4, G4, A4, C4, out, m, rfl, hOUT, hFX⟩ | ⟨h, -⟩)⟩
   rotate_left 1
   ·rw [uh HX1] at h; cases h
   obtain ⟨ov, oc, hov, -⟩ := hOUT.ex
   subst hov
   obtain ⟨hq1, hq2, hq3⟩ := (uh HX2) out m hFX
   have HQ1 := hide hq1
   have HQ3 := hide hq3
   have HQ2 := hide hq2
   rw [hq2] at hOUT ⊢
   clear hq1 hq2 hq3 hFX
   replace HQPW := hide ((uh HQPW).below hk)
   replace HRG := hide ((uh HRG).below hk)
   replace HB0 := hide ((uh HB0).below hk)
   replace HBP := hide ((uh HBP).below hk)
   replace HDD := hide ((uh HDD).below hk)
   replace HRW := hide ((uh HRW).below hk)
   replace HZ := hide ((uh HZ).below hk)
   replace HT := hide ((uh HT).trans (hk.mono (uh HT).size))
   have HOUT := hide hOUT
   clear hOUT
   refine hK.out _ _ hk (fun hHeld => ?_)
   clear hK K HH hHeld
   (try simp only [layB])
   refine stronger (S' := fun W => Below w4.heap.size w4 W) (fun W h => hk.trans (h.mono hk.size)) _ _ _ _ ?_
   have HH : Hid (Below w4.heap.size w4 w4) := Below.refl _ _
   clear hk
   refine tkL 5 (uh HH) ?_
   (try simp only [layB])
   refine tkL 6 (uh HH) ?_
   (try simp only [layB])
   refine tkL 7 (uh HH) ?_
   (try simp only [layB])
   refine tkL 8 (uh HH) ?_
   (try simp only [layB])
   refine tkL 9 (uh HH) ?_
   (try simp only [layB])
   refine wpAnyH_done (by kernel_rfl) ?_ _
   refine NoPanic.normal ?_
   gi_wp2
   refine ⟨trivial, (callsIn_wide.2 (check_any5 _ G4 A4 C4 out w4 (uh HOUT) (uh HQ3))).mono ?_⟩
   rintro e w9 ⟨rfl, hk⟩
   have HOUT9 := hide ((uh HOUT).below hk)
   have HT9 := hide ((uh HT).trans (hk.mono (uh HT).size))
   have HDD9 := hide ((uh HDD).below hk)
   clear hk
   obtain ⟨rc, hrc⟩ : ∃ rc, chk out = rc := ⟨_, rfl⟩
   have HRC := hide hrc
   rw [hrc]
   clear hrc
   gi_wp2
   refine ⟨by simp, .inl ⟨_, _, rfl, run_takeDeferred (uh HDD9).at', ?_⟩⟩
   exact ⟨_, results_tmp2 rfl _ _ _, (uh HT9).trans (below_put _ _ (uh HDZ)), _, rc, rfl, by rw [uh HRO, uh HQ1, uh HRC]; rfl, fun _ => ⟨by rw [uh HQ1]; exact uh HQ2, by rw [uh HQ1]; exact uh HQ3, _, _, _, by rw [uh HQ1]; exact (uh HOUT9).kept (grownBy_putObj' _ D _) (fun r e => by cases e; exact ⟨_, (uh HDD9).at', rfl⟩)⟩⟩
 gi_wp2
 exact ⟨_, results_tmp2 rfl _ _ _, uh HT, _, false, rfl, by rw [uh HRO]; rfl, fun h => by cases h⟩
end Go.Proofs.YtjdikhelabibnaaGreat
