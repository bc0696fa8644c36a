/-
  A row that was encoded is read back, whatever pages are lost.
  Slots that are appended: where they lie; slots that are filled up.
  Ahead of the laws' own Decode (ramekinref11): rows that a call makes in memory, what is lost, what Fix makes of it.
  Rows of which one page is wrong, or stands elsewhere, or is blank: what Decode tells of them, by itself.
-/
import Derived.Test.YtjdikhelabibnabGreatMbh
import Derived.Test.YtjdikhelabibnabGreatMaz
import Derived.Test.YtjdikhelabibnabGreatMas
namespace Go.Proofs.YtjdikhelabibnabGreat
open Go Go.RowKit Go.Shelf

theorem entA_inj11 {k l s k' l' s' : Int} {d d' : List Nat} (h : entA k l s d = entA k' l' s' d') : k = k' ∧ l = l' ∧ s = s' ∧ d = d' := by
  have h1 := congrArg Array.toList h
  simp only [entA] at h1
  simp at h1
  obtain ⟨h0, h1, h2, h3⟩ := h1
  refine ⟨h0, h1, h2, ?_⟩
  have h4 := congrArg (List.map (fun v : Value => match v with | .int _ z => z.toNat | _ => 0)) h3
  simpa [datL, ints, Function.comp_def] using h4
theorem back_nbE {a b c i : Int} {e : EV} (he : e.Ok) (ha : 1 ≤ a ∧ a ≤ 1099511627776) (hb : 0 ≤ b ∧ b ≤ 255) (hc : 0 ≤ c ∧ c ≤ 255) (hi : 0 ≤ i ∧ i ≤ 255) (hok : okE e.k e.l e.s e.d) :
    parE (ints (nbE a b c i e)) = 0 ∧ parH (ints (nbE a b c i e)) 0 = a ∧ parH (ints (nbE a b c i e)) 1 = b ∧ parH (ints (nbE a b c i e)) 2 = c ∧ parH (ints (nbE a b c i e)) 3 = i ∧ parV (ints (nbE a b c i e)) = e := by
  have h : ParR _ (ints (nbE a b c i e)) := rfl
  rw [nbE_ints he] at h ⊢
  have h2 := parse_back he.len (fun x hx => by obtain ⟨j, hj, hj2⟩ := mem_getD11 (z := 0) hx; rw [← hj2, cf_getD]; exact he.bs j) ha hb hc hi hok h
  clear h
  unfold parV
  generalize byT a b c i e.k e.l e.s e.d = zs at h2 ⊢
  generalize parH zs 0 = p0 at h2 ⊢
  generalize parH zs 1 = p1 at h2 ⊢
  generalize parH zs 2 = p2 at h2 ⊢
  generalize parH zs 3 = p3 at h2 ⊢
  generalize parN zs 0 = n0 at h2 ⊢
  generalize parN zs 1 = n1 at h2 ⊢
  generalize parN zs 2 = n2 at h2 ⊢
  generalize parD zs = dd at h2 ⊢
  generalize parE zs = pe at h2 ⊢
  simp only [Ending.returned.injEq, Value.tuple.injEq, headA] at h2
  simp at h2
  obtain ⟨⟨h0, h1, h2, h3⟩, h4, h5⟩ := h2
  obtain ⟨e0, e1, e2, e3⟩ := entA_inj11 h4
  exact ⟨h5, h0, h1, h2, h3, by obtain ⟨k, l, s, d⟩ := e; simp only at e0 e1 e2 e3; rw [e0, e1, e2, e3]⟩

theorem encL_goodR {d : Nat} {a b c : Int} {S : List EV} (hok : ∀ i, (S.getD i zEV).Ok) (hoe : okL S) (h6 : d ≤ 6) (hh : okH a b c) {i : Nat} (hi : i < d) : goodR b c (encL d a b c S) i ∧ parV (ints ((encL d a b c S).getD i [])) = S.getD i zEV := by
  obtain ⟨ha, hb, hc1, hc2⟩ := hh
  have h0 : 0 < d := by omega
  obtain ⟨p1, p2, p3, p4, p5, p6⟩ := back_nbE (i := (i : Int)) (hok i) ha hb ⟨hc1, hc2⟩ ⟨by omega, by omega⟩ (okL_get hoe i)
  obtain ⟨q1, q2, -, -, -, -⟩ := back_nbE (i := ((0 : Nat) : Int)) (hok 0) ha hb ⟨hc1, hc2⟩ ⟨by omega, by omega⟩ (okL_get hoe 0)
  unfold goodR
  rw [encL_get hi, encL_get h0]
  exact ⟨⟨p1, p3, p4, p5, by rw [p2, q2]⟩, p6⟩
theorem rowF_encL {d : Nat} {a b c : Int} {S : List EV} (hok : ∀ i, (S.getD i zEV).Ok) (hoe : okL S) (h4 : 4 ≤ d) (h6 : d ≤ 6) (hh : okH a b c) : rowF b c (encL d a b c S) = (⟨a, c, (List.range d).map (fun i => S.getD i zEV)⟩, 0) := by
  have hl : (encL d a b c S).length - 2 = d := by rw [encL_len]; omega
  have hg : ∀ i, i < (encL d a b c S).length - 2 → goodR b c (encL d a b c S) i := fun i hi => (encL_goodR hok hoe h6 hh (by omega)).1
  obtain ⟨q1, q2, -, -, -, -⟩ := back_nbE (i := ((0 : Nat) : Int)) (hok 0) hh.1 hh.2.1 ⟨hh.2.2.1, hh.2.2.2⟩ ⟨by omega, by omega⟩ (okL_get hoe 0)
  have hm : (List.range ((encL d a b c S).length - 2)).map (fun i => parV (ints ((encL d a b c S).getD i []))) = (List.range d).map (fun i => S.getD i zEV) := by
    rw [hl]
    refine List.map_congr_left (fun i hi => ?_)
    exact (encL_goodR hok hoe h6 hh (List.mem_range.1 hi)).2
  unfold rowF
  rw [if_pos hg, hm, encL_get (by omega), q2]
theorem lost_len {n : Nat} {lost : List Nat} (hn : lost.Nodup) (hl : ∀ i ∈ lost, i < n) : ((List.range n).filter (fun i => decide (i ∈ lost))).length = lost.length := by
  refine List.Perm.length_eq ((List.perm_ext_iff_of_nodup (List.Pairwise.filter _ List.nodup_range) hn).2 (fun i => ?_))
  rw [List.mem_filter, List.mem_range, decide_eq_true_eq]
  exact ⟨fun h => h.2, fun h => ⟨hl i h, h⟩⟩
theorem pagesL_st {A : Nat → Option Addr} {C gf : Nat → Nat} {l : List (List Nat)} {n : Nat} {lost : List Nat} {i : Nat} (hi : i < n) : ((pagesL A C gf l n lost).getD i zPV).st = if i ∈ lost then 1 else 2 := by
  rw [pagesL_get hi]; split <;> rfl
theorem pagesL_lost {A : Nat → Option Addr} {C gf : Nat → Nat} {l : List (List Nat)} {n : Nat} {lost : List Nat} : lostG (pagesL A C gf l n lost) = (List.range n).filter (fun i => decide (i ∈ lost)) := by
  unfold lostG atL
  rw [pagesL_len]
  refine List.filter_congr (fun i hi => ?_)
  rw [pagesL_st (List.mem_range.1 hi)]
  by_cases h : i ∈ lost
  · rw [if_pos h, decide_eq_true h]; rfl
  · rw [if_neg h, decide_eq_false h]; rfl
theorem pagesL_mem {A : Nat → Option Addr} {C gf : Nat → Nat} {l : List (List Nat)} {n : Nat} {lost : List Nat} {p : PV} (hp : p ∈ pagesL A C gf l n lost) : p = lostP ∨ ∃ i, i < n ∧ p = ⟨2, A i, C i, gf i, l.getD i []⟩ := by
  obtain ⟨i, hi, rfl⟩ := List.mem_map.1 hp
  by_cases h : i ∈ lost
  · rw [if_pos h]; exact .inl rfl
  · rw [if_neg h]; exact .inr ⟨i, List.mem_range.1 hi, rfl⟩

theorem decF_back {d : Nat} {a b c : Int} {S : List EV} (hok : ∀ i, (S.getD i zEV).Ok) (hoe : okL S) (h4 : 4 ≤ d) (h6 : d ≤ 6) (hh : okH a b c) {A : Nat → Option Addr} {C gf : Nat → Nat} {lost : List Nat} (hn : lost.Nodup) (hl : ∀ i ∈ lost, i < d + 2) {most : Int} (hm : 0 ≤ most ∧ most ≤ 2) :
    decF b c (pagesL A C gf (encL d a b c S) (d + 2) lost) most = if most < (lost.length : Int) then (zRow, 11) else (⟨a, c, (List.range d).map (fun i => S.getD i zEV)⟩, 0) := by
  obtain ⟨f1, f2, f3, f4⟩ := encL_facts (a := a) (b := b) (c := c) (d := d) hok (by omega) (by omega)
  have hlen : (pagesL A C gf (encL d a b c S) (d + 2) lost).length = d + 2 := pagesL_len _ _ _ _ _ _
  have hll : (lostG (pagesL A C gf (encL d a b c S) (d + 2) lost)).length = lost.length := by rw [pagesL_lost]; exact lost_len hn hl
  have hnb : ∀ p ∈ pagesL A C gf (encL d a b c S) (d + 2) lost, p.st ≠ 0 := fun p hp => by
    rcases pagesL_mem hp with rfl | ⟨i, -, rfl⟩
    · simp [lostP]
    · simp
  have hany : (pagesL A C gf (encL d a b c S) (d + 2) lost).any (fun p => p.st == 0) = false := by
    rw [List.any_eq_false]
    intro p hp
    simpa using hnb p hp
  have hall : (pagesL A C gf (encL d a b c S) (d + 2) lost).all (fun p => p.st == 0) = false := by
    rw [Bool.eq_false_iff]
    intro h
    have hz := List.all_eq_true.1 h _ (getD_mem11 (z := zPV) (i := 0) (by rw [hlen]; omega))
    exact hnb _ (getD_mem11 (z := zPV) (i := 0) (by rw [hlen]; omega)) (by simpa using hz)
  have hodd : (pagesL A C gf (encL d a b c S) (d + 2) lost).any oddP = false := by
    rw [List.any_eq_false]
    intro p hp
    rcases pagesL_mem hp with rfl | ⟨i, hi, rfl⟩
    · simp [oddP, lostP]
    · simp [oddP]
      simpa using f1 i hi
  unfold decF
  rw [if_neg (by rw [hlen]; exact fun h => h ⟨⟨by omega, by omega⟩, hm⟩), hall, hany, hll, hodd]
  simp only [Bool.false_eq_true, if_false]
  by_cases hmo : most < (lost.length : Int)
  · rw [if_pos hmo, if_pos hmo]
  rw [if_neg hmo, if_neg hmo]
  have hlo : (lostG (pagesL A C gf (encL d a b c S) (d + 2) lost)).length ≤ 2 := by rw [hll]; omega
  have hml : ((pagesL A C gf (encL d a b c S) (d + 2) lost).map (·.x)).length = d + 2 := by rw [List.length_map, hlen]
  have hfix : fixL ((pagesL A C gf (encL d a b c S) (d + 2) lost).map (·.x)) (ints (lostG (pagesL A C gf (encL d a b c S) (d + 2) lost))) = encL d a b c S := by
    have hget : ∀ i, i < d + 2 → keep (ints (lostG (pagesL A C gf (encL d a b c S) (d + 2) lost))) i = true → ((pagesL A C gf (encL d a b c S) (d + 2) lost).map (·.x)).getD i [] = (encL d a b c S).getD i [] := by
      intro i hi hk
      rw [lostG_mem hnb (by rw [hlen]; exact hi), pagesL_st hi] at hk
      have hni : i ∉ lost := fun h => by rw [if_pos h] at hk; simp at hk
      rw [List.getD_eq_getElem?_getD, List.getElem?_map, List.getElem?_eq_getElem (by rw [hlen]; exact hi)]
      have := pagesL_get (A := A) (C := C) (gf := gf) (l := encL d a b c S) (lost := lost) hi
      rw [if_neg hni, List.getD_eq_getElem?_getD, List.getElem?_eq_getElem (by rw [hlen]; exact hi)] at this
      simp only [Option.getD_some] at this
      simp only [Option.map_some, Option.getD_some]
      rw [this]
    refine fixL_of (n := 48) (by rw [hml]; omega) (by rw [hml]; omega) (by have hp := lostG_pk hlo; rw [hlen] at hp; rw [hml]; exact hp) (by rw [ints_len]; exact hlo) ⟨?_, ?_, ?_, ?_, f2, ?_, ?_⟩
    · rw [hml, encL_len]
    · intro i hi hk
      rw [hml] at hi
      rw [hget i hi hk, f1 i hi]
    · intro i hi
      rw [hml] at hi
      exact f1 i hi
    · intro i hi hk
      rw [hml] at hi
      exact (hget i hi hk).symm
    · intro _
      rw [hml]
      exact f3
    · intro _
      rw [hml]
      exact f4
  rw [hfix, encL_chk hok (by omega) (by omega), if_pos rfl]
  exact rowF_encL hok hoe h4 h6 hh

end Go.Proofs.YtjdikhelabibnabGreat

namespace Go.Proofs.YtjdikhelabibnabGreat
open Go Go.RowKit Go.Shelf

theorem ok_fst11 {v v' : Value} {w w' : World} (h : (Result.ok v w : Result Value) = .ok v' w') : v = v' := by cases h; rfl
/-- The block of what append answers is the old one, or a new one. -/
theorem append_blk11 (w : World) (base : Nat) (ty : TypeId) (v : Value) (l : List EV) (hown : OwnE base w v l) (g o : Nat) (x : EV) (hc : w.rangeAt g o x.cs) (hx : x.Ok) (hb : l.length ≤ 100000) {v' : Value} {w' : World}
    (hr : (Builtin.append_ #[22, 22] ty #[v, .slice (some ⟨g, o, none⟩) 1 1]).run Tryz.prog w = .ok v' w') (b : Nat) (hv : v'.ownBlock = some b) : v.ownBlock = some b ∨ b = w.heap.size := by
  obtain ⟨i0, hi0, hz0, hz1, hz2⟩ := info_parts infoTE
  have hnews : ∀ j u, x.cs[j]? = some u → w.cell? ((⟨g, o, none⟩ : Addr).add j) = some u := fun j u hu => by rw [Addr.add_lit]; exact hc j u hu
  have hl : x.cs.length = 1 * i0.size := by rw [hz1, EV.cs_len hx]
  rcases hown.1.own.2 with ⟨rfl, h0⟩ | ⟨q, cap, cur, rfl, h2, h3, h4, h5, h6, h7⟩
  · have hr2 := run_append_nil (P := Tryz.prog) w 22 ty 46 i0 _ Tryz.underlying22 hi0 hz0 ⟨g, o, none⟩ 1 1 x.cs hl hnews (by omega) (by omega) (by rw [hz2]; omega)
    have := ok_fst11 (hr.symm.trans hr2)
    subst this
    simp only [Value.ownBlock, Option.some.injEq] at hv
    exact .inr hv.symm
  · by_cases hroom : l.length + 1 ≤ cap
    · have hr2 := run_append_room (P := Tryz.prog) w 22 ty 46 i0 Tryz.underlying22 hi0 q l.length cap cur h3 ⟨g, o, none⟩ 1 1 x.cs hl hnews x.cs_one hroom (by rw [hl, hz1, h6]; have := Nat.mul_le_mul_right 19 hroom; omega)
      have := ok_fst11 (hr.symm.trans hr2)
      subst this
      exact .inl hv
    · have hr2 := run_append_grow (P := Tryz.prog) w 22 ty 46 i0 _ Tryz.underlying22 hi0 hz0 ⟨q, 0, none⟩ l.length cap _ (by rw [hz1]; exact hown.1.own.1) (hown.1.own.cells (g := q) rfl) ⟨g, o, none⟩ 1 1 x.cs hl hnews (by omega) (by omega) (growslice_fits (by omega) (by rw [hz2]; omega))
      have := ok_fst11 (hr.symm.trans hr2)
      subst this
      simp only [Value.ownBlock, Option.some.injEq] at hv
      exact .inr hv.symm
def lenV : Value → Nat | .slice _ n _ => n | _ => 0
/-- Slots that are filled up with empty ones. -/
def padS (S : List EV) (k : Nat) : List EV := (List.range k).map (fun i => S.getD i zEV)
theorem padS_len (S : List EV) (k : Nat) : (padS S k).length = k := by simp [padS]
theorem padS_self (S : List EV) : padS S S.length = S := by
  refine List.ext_getElem (padS_len _ _) (fun i h1 h2 => ?_)
  simp only [padS, List.getElem_map, List.getElem_range]
  rw [List.getD_eq_getElem?_getD, List.getElem?_eq_getElem h2]
  rfl
theorem padS_snoc {S : List EV} {k : Nat} (h : S.length ≤ k) : padS S (k + 1) = padS S k ++ [zEV] := by
  rw [padS, padS, List.range_succ, List.map_append, List.map_singleton, List.getD_eq_getElem?_getD, List.getElem?_eq_none h]
  rfl

end Go.Proofs.YtjdikhelabibnabGreat

namespace Go.Proofs.YtjdikhelabibnabGreat
open Go Go.RowKit Go.Shelf

/-- Guards, to be tried with 'with_reducible': they fail at once where the next operation is another one. -/
theorem gateS {P : Program} {ops : Array Oper} {Q : Exit → Act → World → Prop} {rest : List Oper} {o : Oper} {a : Act} {w : World} (ty : TypeId) (x y : Operand) (_ : o.op = .store ty x y) (h : wpList P ops Q (o :: rest) a w) : wpList P ops Q (o :: rest) a w := h
theorem gateL {P : Program} {ops : Array Oper} {Q : Exit → Act → World → Prop} {rest : List Oper} {o : Oper} {a : Act} {w : World} (ty : TypeId) (x : Operand) (_ : o.op = .load ty x) (h : wpList P ops Q (o :: rest) a w) : wpList P ops Q (o :: rest) a w := h
theorem gateB {P : Program} {ops : Array Oper} {Q : Exit → Act → World → Prop} {rest : List Oper} {o : Oper} {a : Act} {w : World} (ty : TypeId) (k : Nat) (x : Array (Nat × Operand)) (_ : o.op = .buildSlice ty k x) (h : wpList P ops Q (o :: rest) a w) : wpList P ops Q (o :: rest) a w := h
theorem gateR {P : Program} {fn : Func} {R : Ending → World → Prop} {a : Act} {w : World} (h : bodyPost P fn R .ret a w) : bodyPost P fn R .ret a w := h
theorem own_block11 {w : World} {base m n : Nat} {e : TypeId} {v : Value} {xs : List Value} (h : w.ownsRow base e m v n xs) {g : Nat} (hg : v.ownBlock = some g) : base ≤ g ∧ ∃ cur, w.heap[g]? = some (.cells cur e (0, 0)) := by
  rcases h.2 with ⟨h', h0⟩ | ⟨g', cap, cur, h1, h2, h3, -⟩
  · rw [h'] at hg; cases hg
  · rw [h1] at hg; cases hg; exact ⟨h2, cur, h3⟩
theorem own_keep11 {w w' : World} {base m n : Nat} {e : TypeId} {v : Value} {xs : List Value} (h : w.ownsRow base e m v n xs) (k : ∀ (g : Nat) (cur : Array Value), base ≤ g → w.heap[g]? = some (.cells cur e (0, 0)) → w'.heap[g]? = w.heap[g]?) : w'.ownsRow base e m v n xs := by
  refine ⟨h.1, ?_⟩
  rcases h.2 with h' | ⟨g, cap, cur, h1, h2, h3, h4⟩
  · exact .inl h'
  · exact .inr ⟨g, cap, cur, h1, h2, (k g cur h2 h3).trans h3, h4⟩
theorem own_shape11 {w : World} {base m n : Nat} {e : TypeId} {v : Value} {xs : List Value} (h : w.ownsRow base e m v n xs) : ∃ a c, v = .slice a n c ∧ n ≤ c ∧ c ≤ maxLen := by
  rcases h.2 with ⟨h', h0⟩ | ⟨g, cap, cur, h1, h2, h3, h4, h5, h6, h7⟩
  · exact ⟨none, 0, by rw [h', h0], by omega, by unfold maxLen; omega⟩
  · exact ⟨_, cap, h1, h4, h5⟩
/-- What grows by one row of another type leaves a row as it was. -/
theorem own_apart11 {w w' : World} {base m n base' m' n' : Nat} {e e' : TypeId} {v v' : Value} {xs xs' : List Value} (h : w.ownsRow base e m v n xs) (h' : w.ownsRow base' e' m' v' n' xs') (hne : e ≠ e') (hg : w.grownBy w' v'.ownBlock) : w'.ownsRow base e m v n xs :=
  own_keep11 h (fun g cur _ hc => hg.block g (Array.getElem?_eq_some_iff.1 hc).1 (fun eq => by
    obtain ⟨-, cur', hc'⟩ := own_block11 h' eq.symm
    rw [hc] at hc'
    simp only [Option.some.injEq, Obj.cells.injEq] at hc'
    exact hne hc'.2.1))
theorem below_own11 {w0 w w' : World} {base m n k : Nat} {e : TypeId} {v : Value} {xs : List Value} (hB : Below k w0 w) (hk0 : k ≤ w0.heap.size) (h : w.ownsRow base e m v n xs) (hk : k ≤ base) (hg : w.grownBy w' v.ownBlock) : Below k w0 w' :=
  hB.trans ⟨hg.os, hg.tape, hg.output, hg.size, fun q hq => hg.block q (Nat.lt_of_lt_of_le hq (Nat.le_trans hk0 hB.size)) (fun e => by have := (own_block11 h e.symm).1; omega)⟩

/-- Which of the first k are not good. -/
def lostK (l : List PV) (k : Nat) : List Nat := (List.range k).filter (fun i => !((l.getD i zPV).st == 2))
theorem lostK_yes {l : List PV} {k : Nat} (h : (l.getD k zPV).st = 2) : lostK l (k + 1) = lostK l k := by
  rw [lostK, List.range_succ, List.filter_append, List.filter_cons, h]; simp [lostK]
theorem lostK_no {l : List PV} {k : Nat} (h : ¬ (l.getD k zPV).st = 2) : lostK l (k + 1) = lostK l k ++ [k] := by
  rw [lostK, List.range_succ, List.filter_append, List.filter_cons, if_pos (by simpa using h)]; rfl
theorem lostK_all {l : List PV} (h : ∀ j, j < l.length → ¬ (l.getD j zPV).st = 0) : lostK l l.length = lostG l := by
  unfold lostK lostG atL
  refine List.filter_congr (fun i hi => ?_)
  have h1 := h i (List.mem_range.1 hi)
  have h2 : ((l.getD i zPV).st == 0) = false := by simpa using h1
  rw [h2]; rfl
theorem lostK_len (l : List PV) (k : Nat) : (lostK l k).length ≤ k := by
  have := List.length_filter_le (fun i => !((l.getD i zPV).st == 2)) (List.range k)
  rw [List.length_range] at this
  exact this
/-- The bytes of the first k, as values. -/
def valK (l : List PV) (k : Nat) : List Value := (List.range k).map (fun i => (l.getD i zPV).b)
theorem valK_snoc (l : List PV) (k : Nat) : valK l (k + 1) = valK l k ++ [(l.getD k zPV).b] := by rw [valK, List.range_succ, List.map_append]; rfl
theorem getD_map11 (l : List PV) (i : Nat) : (l.map (·.x)).getD i [] = (l.getD i zPV).x := by
  rw [List.getD_eq_getElem?_getD, List.getD_eq_getElem?_getD, List.getElem?_map]
  cases l[i]? <;> rfl
theorem rargK {w : World} {base n : Nat} {v : Value} {l : List PV} (hn : l.length = n) (h0 : 0 < n) (h : w.ownsRow base 33 1 v n (valK l n)) (hok : ∀ i, i < n → (l.getD i zPV).Ok w) :
    ∃ G, RArg w v G (fun i => (l.getD i zPV).bo) (fun i => (l.getD i zPV).bc) (l.map (·.x)) := by
  rcases h.2 with ⟨h', h0'⟩ | ⟨g, cap, cur, h1, h2, h3, h4, h5, h6, h7⟩
  · omega
  · refine ⟨g, ⟨⟨some ⟨g, 0, none⟩, cap, by rw [h1, List.length_map, hn], by rw [List.length_map, hn]; exact h4, h5, (fun h => by cases h), .inr ⟨0, rfl, fun j hj => ?_⟩⟩, fun i hi => ?_⟩⟩
    · rw [List.length_map, hn] at hj
      have e : (cur.toList.take (n * 1))[j]? = (valK l n)[j]? := by rw [h7]
      rw [List.getElem?_take, if_pos (by omega), Array.getElem?_toList, valK, List.getElem?_map, List.getElem?_range hj] at e
      dsimp only
      rw [getD_map11]
      exact cell_blk h3 (by rw [Nat.zero_add]; exact e)
    · rw [List.length_map, hn] at hi
      rw [getD_map11]
      exact ⟨_, hok i hi⟩

/-- Fix of what stands there: rows of the good ones, whatever is held by the others. -/
theorem pay_fix2 {l : List PV} {n : Nat} (hln : l.length = n) (h6 : 6 ≤ n) (h8 : n ≤ 8) (hnb : ∀ p ∈ l, p.st ≠ 0) (h2 : (lostG l).length ≤ 2) (hro : l.any oddP = false) :
    fixOk (l.map (·.x)) (ints (lostG l)) = true ∧ ∀ out m, IsFix (l.map (·.x)) (ints (lostG l)) out m → fixL (l.map (·.x)) (ints (lostG l)) = out ∧ out.length = n ∧ ∀ i, i < n → (out.getD i []).length = 48 := by
  have hml : (l.map (·.x)).length = n := by rw [List.length_map, hln]
  have hpk := lostG_pk h2
  rw [hln, ← hml] at hpk
  have hget : ∀ i, i < n → keep (ints (lostG l)) i = true → ((l.map (·.x)).getD i []).length = 48 := by
    intro i hi hk
    rw [lostG_mem hnb (by omega)] at hk
    rw [getD_map11]
    have h3 := List.any_eq_false.1 hro _ (getD_mem11 (z := zPV) (i := i) (by omega))
    unfold oddP at h3
    rw [hk] at h3
    simpa using h3
  have hfo : fixOk (l.map (·.x)) (ints (lostG l)) = true := fixOk_of hpk (by omega) (by omega) (fun i hi hk => hget i (by omega) hk)
  refine ⟨hfo, fun out m hf => ?_⟩
  have hol : out.length = n := by rw [hf.len, hml]
  refine ⟨fixL_of (by omega) (by omega) hpk (by rw [ints_len]; exact h2) hf, hol, fun i hi => ?_⟩
  obtain ⟨j, hj, hkj⟩ := some_kept (zs := ints (lostG l)) (N := n) (by rw [ints_len]; exact h2) (by omega)
  have hm : m = 48 := by rw [← hf.szl j (by omega) hkj]; exact hget j hj hkj
  rw [hf.sz i (by omega), hm]
/-- One payload is no slot: nothing is told. -/
theorem rowF_bad {super at' : Int} {x : List (List Nat)} {d k : Nat} (hd : x.length - 2 = d) (hk : k < d) (h : stR super at' x (List.range (k + 1)) = none) : rowF super at' x = (zRow, 5) := by
  rw [stR_range] at h
  by_cases hg : ∀ i, i < k + 1 → goodR super at' x i
  · rw [if_pos hg] at h; cases h
  · unfold rowF
    rw [hd, if_neg (fun h => hg (fun i hi => h i (by omega)))]
theorem stR_succ (super at' : Int) (x : List (List Nat)) (k : Nat) : stR super at' x (List.range (k + 1)) = stepR super at' x (stR super at' x (List.range k)) k := by rw [List.range_succ, stR_snoc]

theorem wp_build_ev11 {o : Oper} {a : Act} {w : World} {K : Act → World → Prop} {Q : Exit → Act → World → Prop} (x : Operand) (ho : o.op = .buildSlice 22 1 #[(0, x)])
    (e : EV) (he : e.Ok) (hx : a.eval x = .agg e.ar) (h : K (a.put o.dst (.slice (some ⟨w.heap.size, 0, none⟩) 1 1)) (w.alloc (.cells e.ar 46))) : o.wp Tryz.prog a w K Q := by
  unfold Oper.wp execOp
  have hp : (#[(0, x)] : Array (Nat × Operand)).map (fun (i, x) => (i, a.eval x)) = #[(0, .agg e.ar)] := by simp [hx]
  simp only [ho, Sem.run_bind, hp, run_build_ev e he w, Result.andThen_ok]
  exact h
/-- The rows' data alone is what Decode tells, whatever the result. -/
theorem decF_sta2 {super at' : Int} {l : List PV} {most c : Int} (h : (6 ≤ l.length ∧ l.length ≤ 8) ∧ 0 ≤ most ∧ most ≤ 2) (hs : staF l most = c) (hc : c ≠ 0) : decF super at' l most = (zRow, c) := by
  rw [decF_sta h (by rw [hs]; exact hc), hs]
theorem staF_all {l : List PV} {most : Int} (h : l.any (fun p => !(p.st == 0)) = false) : staF l most = 2 := by
  unfold staF
  rw [if_pos]
  rw [List.all_eq_true]
  intro p hp
  have := List.any_eq_false.1 h p hp
  simpa using this
theorem staF_some {l : List PV} {most : Int} {i : Nat} (h : l.any (fun p => !(p.st == 0)) = true) (hi : i < l.length) (h0 : (l.getD i zPV).st = 0) : staF l most = 5 := by
  unfold staF
  obtain ⟨q, hq, hq2⟩ := List.any_eq_true.1 h
  rw [if_neg (fun ha => by have := List.all_eq_true.1 ha q hq; rw [this] at hq2; cases hq2), if_pos]
  rw [List.any_eq_true]
  exact ⟨_, getD_mem11 (z := zPV) hi, by rw [h0]; rfl⟩
theorem staF_rest {l : List PV} {most : Int} (h : l.any (fun p => !(p.st == 0)) = true) (h0 : ∀ j, j < l.length → ¬ (l.getD j zPV).st = 0) : staF l most = if most < ((lostG l).length : Int) then 11 else 0 := by
  unfold staF
  obtain ⟨q, hq, hq2⟩ := List.any_eq_true.1 h
  rw [if_neg (fun ha => by have := List.all_eq_true.1 ha q hq; rw [this] at hq2; cases hq2), if_neg]
  intro ha
  obtain ⟨p, hp, hp2⟩ := List.any_eq_true.1 ha
  obtain ⟨i, hi, he⟩ := mem_getD11 (z := zPV) hp
  exact h0 i hi (by rw [he]; simpa using hp2)

end Go.Proofs.YtjdikhelabibnabGreat

namespace Go.Proofs.YtjdikhelabibnabGreat
open Go Go.RowKit Go.Shelf

theorem getD_ext11 {l l' : List (List Nat)} (hl : l.length = l'.length) (h : ∀ i, i < l.length → l.getD i [] = l'.getD i []) : l = l' := by
  refine List.ext_getElem hl (fun i h1 h2 => ?_)
  have := h i h1
  rw [List.getD_eq_getElem?_getD, List.getD_eq_getElem?_getD, List.getElem?_eq_getElem h1, List.getElem?_eq_getElem h2] at this
  exact this
theorem getD_set11 {l : List (List Nat)} {k : Nat} (hk : k < l.length) (x : List Nat) (j : Nat) : (l.set k x).getD j [] = if k = j then x else l.getD j [] := by
  rw [List.getD_eq_getElem?_getD, List.getD_eq_getElem?_getD, List.getElem?_set]
  by_cases e : k = j
  · rw [if_pos e, if_pos e, if_pos (by omega)]; rfl
  · rw [if_neg e, if_neg e]
/-- One lost, another one wrong: told. -/
theorem detect11 {l t x : List (List Nat)} {d s i k : Nat} {bad : List Nat} (hl : l.length = d) (h2 : 2 ≤ d) (h14 : d ≤ 14) (hs : ∀ i, i < d → (l.getD i []).length = s) (hb : ∀ i, Bs (l.getD i [])) (hi : i < d + 2) (hk : k < d + 2) (hik : i ≠ k) (hbl : bad.length = s)
    (ht : t = (withP l).set k bad) (hx : IsFix t [(i : Int)] x s) (hne : bad ≠ (withP l).getD k []) : chk x = false := by
  obtain ⟨f1, f2, f3, f4⟩ := withP_facts hl h2 h14 hs hb
  have hwl : (withP l).length = d + 2 := by rw [withP_len, hl]
  have htl : t.length = d + 2 := by rw [ht, List.length_set, hwl]
  have hxl : x.length = d + 2 := by rw [hx.len, htl]
  have hkw : k < (withP l).length := by rw [hwl]; exact hk
  cases hc : chk x with
  | false => rfl
  | true =>
    exfalso
    obtain ⟨hok, hp, hq⟩ := chk_parts hc
    have hsz : size x = s := hx.sz 0 (by rw [htl]; omega)
    rw [hsz, hxl, show d + 2 - 2 = d from by omega] at hp hq
    have hpk2 : pk [(i : Int), (k : Int)] (d + 2) = true := pk_of ⟨by simp, by simp; omega, by simp; omega⟩
    have hxk : x.getD k [] = bad := by
      rw [hx.same k (by rw [htl]; exact hk) (by simp [keep]; omega), ht, getD_set11 hkw, if_pos rfl]
    refine hne (eq_of_cf (by rw [hbl, f1 k hk]) (fun c => ?_))
    by_cases hcs : c < s
    · have h0 := supp_zero (d := d) (N := d + 2) (zs := [(i : Int), (k : Int)]) (e := fun j => rc x j c ^^^ rc (withP l) j c) (by omega) rfl hpk2 (fun j => xor_lt (hx.bs j c) (f2 j c)) (fun j hj hkj => by
        have hji : i ≠ j := fun e2 => by rw [← e2] at hkj; simp [keep] at hkj
        have hjk : k ≠ j := fun e2 => by rw [← e2] at hkj; simp [keep] at hkj
        show rc x j c ^^^ rc (withP l) j c = 0
        unfold rc
        rw [hx.same j (by rw [htl]; exact hj) (by simp [keep]; omega), ht, getD_set11 hkw, if_neg hjk, Nat.xor_self])
        (fun _ => by rw [sm_diff (shP_lt _) hx.bs f2, hp c hcs, f3 c hcs, Nat.xor_self]) (fun _ => by rw [sm_diff (shQ_lt _) hx.bs f2, hq c hcs, f4 c hcs, Nat.xor_self]) k hk
      have h1 := xor_nil.1 h0
      unfold rc at h1
      rw [hxk] at h1
      exact h1
    · rw [cf_ge (by rw [hbl]; omega), cf_ge (by rw [f1 k hk]; omega)]
theorem chk_nil : chk [] = false := by
  cases h : chk [] with
  | false => rfl
  | true =>
    obtain ⟨h1, -, -⟩ := chk_parts h
    simp [okC] at h1
/-- None lost, or one, and another one wrong: what is made of it isn't right. -/
theorem wrong_chk {a b c : Int} {n : Nat} {S : List EV} {bad : List Nat} {l : List (List Nat)} {k : Nat} {zs : List Int} (hok : ∀ i, (S.getD i zEV).Ok) (h4 : 4 ≤ n) (h6 : n ≤ 6) (hk : k < n + 2) (hbl : bad.length = 48) (hbb : Bs bad) (hne : bad ≠ (encL n a b c S).getD k [])
    (hz : zs = [] ∨ ∃ j : Nat, zs = [(j : Int)] ∧ j < n + 2 ∧ j ≠ k) (hll : l.length = n + 2) (hl : ∀ i, i < n + 2 → keep zs i = true → l.getD i [] = ((encL n a b c S).set k bad).getD i []) : chk (fixL l zs) = false := by
  obtain ⟨f1, f2, f3, f4⟩ := encL_facts (a := a) (b := b) (c := c) (d := n) hok (by omega) (by omega)
  have hel : (encL n a b c S).length = n + 2 := encL_len _ _ _ _ _
  have htl : ((encL n a b c S).set k bad).length = n + 2 := by rw [List.length_set, hel]
  have hbs : ∀ i, Bs (((encL n a b c S).set k bad).getD i []) := fun i => by
    rw [getD_set11 (by rw [hel]; exact hk)]
    split
    · exact hbb
    · exact f2 i
  have hsz : ∀ i, i < n + 2 → (((encL n a b c S).set k bad).getD i []).length = 48 := fun i hi => by
    rw [getD_set11 (by rw [hel]; exact hk)]
    split
    · exact hbl
    · exact f1 i hi
  by_cases hex : ∃ out m, IsFix l zs out m
  · obtain ⟨m, hm⟩ : ∃ m, IsFix l zs (fixL l zs) m := pickL_spec (P := fun out => ∃ m, IsFix l zs out m) hex
    generalize fixL l zs = x at hm ⊢
    have hx : IsFix ((encL n a b c S).set k bad) zs x m := hm.other (by rw [htl, hll]) (fun i hi hki => (hl i (by rw [← hll]; exact hi) hki).symm)
    have hxl : x.length = n + 2 := by rw [hx.len, htl]
    have hm48 : m = 48 := by
      obtain ⟨j, hj, hkj⟩ : ∃ j, j < n + 2 ∧ keep zs j = true := by
        rcases hz with rfl | ⟨j, rfl, hj, -⟩
        · exact ⟨0, by omega, by simp [keep]⟩
        · by_cases h0 : j = 0
          · exact ⟨1, by omega, by simp [keep]; omega⟩
          · exact ⟨0, by omega, by simp [keep]; omega⟩
      rw [← hx.szl j (by rw [htl]; exact hj) hkj]; exact hsz j hj
    subst hm48
    have hd1 := fun (i : Nat) (hi : i < n + 2) (hik : i ≠ k) (h : IsFix ((encL n a b c S).set k bad) [(i : Int)] x 48) => detect11 (l := dataL n a b c S) (dataL_len _ _ _ _ _) (by omega) (by omega) (fun _ hi => dataL_sz hok hi) (dataL_bs hok) hi hk hik hbl rfl h hne
    rcases hz with rfl | ⟨j, rfl, hj, hjk⟩
    · cases hc : chk x with
      | false => rfl
      | true =>
        obtain ⟨-, hp, hq⟩ := chk_parts hc
        have hsx : size x = 48 := hx.sz 0 (by rw [htl]; omega)
        rw [hsx, hxl] at hp hq
        obtain ⟨i, hi, hik⟩ : ∃ i, i < n + 2 ∧ i ≠ k := by
          by_cases h0 : k = 0
          · exact ⟨1, by omega, by omega⟩
          · exact ⟨0, by omega, by omega⟩
        have hI : IsFix ((encL n a b c S).set k bad) [(i : Int)] x 48 := ⟨hx.len, fun q hq' _ => hsz q (by rw [← htl]; exact hq'), hx.sz, fun q hq' _ => hx.same q hq' (by simp [keep]), hx.bs, fun _ => by rw [htl]; exact hp, fun _ => by rw [htl]; exact hq⟩
        rw [← hd1 i hi hik hI, hc]
    · exact hd1 j hj hjk hx
  · have : fixL l zs = [] := by unfold fixL pickL; rw [dif_neg hex]
    rw [this]; exact chk_nil

/-- The pages of an encoded row: what Decode makes of them, wherever it is looked for. -/
theorem decF_enc {d : Nat} {a b c sup at' : Int} {S : List EV} (hok : ∀ i, (S.getD i zEV).Ok) (h4 : 4 ≤ d) (h6 : d ≤ 6) {A : Nat → Option Addr} {C gf : Nat → Nat} {most : Int} (hm : 0 ≤ most ∧ most ≤ 2) :
    decF sup at' (pagesL A C gf (encL d a b c S) (d + 2) []) most = rowF sup at' (encL d a b c S) := by
  obtain ⟨f1, f2, f3, f4⟩ := encL_facts (a := a) (b := b) (c := c) (d := d) hok (by omega) (by omega)
  have hlen : (pagesL A C gf (encL d a b c S) (d + 2) []).length = d + 2 := pagesL_len _ _ _ _ _ _
  have hlo : lostG (pagesL A C gf (encL d a b c S) (d + 2) []) = [] := by
    rw [pagesL_lost]; simp
  have hmem : ∀ p ∈ pagesL A C gf (encL d a b c S) (d + 2) [], ∃ i, i < d + 2 ∧ p = ⟨2, A i, C i, gf i, (encL d a b c S).getD i []⟩ := fun p hp => by
    obtain ⟨i, hi, rfl⟩ := List.mem_map.1 hp
    exact ⟨i, List.mem_range.1 hi, by rw [if_neg (by simp)]⟩
  have hany : (pagesL A C gf (encL d a b c S) (d + 2) []).any (fun p => p.st == 0) = false := by
    rw [List.any_eq_false]
    intro p hp
    obtain ⟨i, -, rfl⟩ := hmem p hp
    simp
  have hall : (pagesL A C gf (encL d a b c S) (d + 2) []).all (fun p => p.st == 0) = false := by
    rw [Bool.eq_false_iff]
    intro h
    have h0 := getD_mem11 (z := zPV) (i := 0) (l := pagesL A C gf (encL d a b c S) (d + 2) []) (by rw [hlen]; omega)
    have hz := List.all_eq_true.1 h _ h0
    have := List.any_eq_false.1 hany _ h0
    rw [hz] at this
    exact absurd rfl this
  have hodd : (pagesL A C gf (encL d a b c S) (d + 2) []).any oddP = false := by
    rw [List.any_eq_false]
    intro p hp
    obtain ⟨i, hi, rfl⟩ := hmem p hp
    simp [oddP]
    simpa using f1 i hi
  have hx : (pagesL A C gf (encL d a b c S) (d + 2) []).map (·.x) = encL d a b c S := by
    refine getD_ext11 (by rw [List.length_map, hlen, encL_len]) (fun i hi => ?_)
    rw [List.length_map, hlen] at hi
    rw [getD_map11, pagesL_get hi, if_neg (by simp)]
  unfold decF
  rw [if_neg (by rw [hlen]; exact fun h => h ⟨⟨by omega, by omega⟩, hm⟩), hall, hany, hlo, hodd, hx]
  simp only [Bool.false_eq_true, if_false]
  rw [if_neg (by simp; omega)]
  have hfix : fixL (encL d a b c S) (ints []) = encL d a b c S :=
    fixL_of (n := 48) (by rw [encL_len]; omega) (by rw [encL_len]; omega) (pk_of ⟨by simp [ints], by simp [ints], by simp [ints]⟩) (by simp [ints])
      ⟨rfl, fun i hi _ => f1 i (by rw [encL_len] at hi; exact hi), fun i hi => f1 i (by rw [encL_len] at hi; exact hi), fun _ _ _ => rfl, f2, by rw [encL_len]; exact fun _ => f3, by rw [encL_len]; exact fun _ => f4⟩
  rw [hfix, encL_chk hok (by omega) (by omega), if_pos rfl]
/-- It is looked for elsewhere. -/
theorem rowF_else {d : Nat} {a b c sup at' : Int} {S : List EV} (hok : ∀ i, (S.getD i zEV).Ok) (hoe : okL S) (h4 : 4 ≤ d) (h6 : d ≤ 6) (hh : okH a b c) (hne : b ≠ sup ∨ c ≠ at') : rowF sup at' (encL d a b c S) = (zRow, 5) := by
  obtain ⟨q1, q2, q3, q4, -, -⟩ := back_nbE (i := ((0 : Nat) : Int)) (hok 0) hh.1 hh.2.1 ⟨hh.2.2.1, hh.2.2.2⟩ ⟨by omega, by omega⟩ (okL_get hoe 0)
  unfold rowF
  rw [if_neg]
  intro h
  obtain ⟨-, g1, g2, -, -⟩ := h 0 (by rw [encL_len]; omega)
  rw [encL_get (by omega)] at g1 g2
  rcases hne with h | h
  · exact h (q3.symm.trans g1)
  · exact h (q4.symm.trans g2)
/-- A good page that is wrong, none lost or another one. -/
theorem decF_wrong {d : Nat} {a b c sup at' : Int} {S : List EV} (hok : ∀ i, (S.getD i zEV).Ok) (h4 : 4 ≤ d) (h6 : d ≤ 6) {A : Nat → Option Addr} {C gf : Nat → Nat} {k : Nat} {bad : List Nat} (hk : k < d + 2) (hbl : bad.length = 48) (hbb : Bs bad) (hne : bad ≠ (encL d a b c S).getD k [])
    {lost : List Nat} (hz : lost = [] ∨ ∃ j : Nat, lost = [j] ∧ j < d + 2 ∧ j ≠ k) {most : Int} (hm : 1 ≤ most ∧ most ≤ 2) : decF sup at' (pagesL A C gf ((encL d a b c S).set k bad) (d + 2) lost) most = (zRow, 5) := by
  obtain ⟨f1, f2, f3, f4⟩ := encL_facts (a := a) (b := b) (c := c) (d := d) hok (by omega) (by omega)
  have hel : (encL d a b c S).length = d + 2 := encL_len _ _ _ _ _
  have hlen : (pagesL A C gf ((encL d a b c S).set k bad) (d + 2) lost).length = d + 2 := pagesL_len _ _ _ _ _ _
  have hnd : lost.Nodup := by rcases hz with rfl | ⟨j, rfl, -, -⟩ <;> simp
  have hlt : ∀ i ∈ lost, i < d + 2 := by
    rcases hz with rfl | ⟨j, rfl, hj, -⟩
    · simp
    · intro i hi; rw [List.mem_singleton.1 hi]; exact hj
  have hl1 : lost.length ≤ 1 := by rcases hz with rfl | ⟨j, rfl, -, -⟩ <;> simp
  have hkl : k ∉ lost := by
    rcases hz with rfl | ⟨j, rfl, -, hjk⟩
    · simp
    · intro h; exact hjk (List.mem_singleton.1 h).symm
  have hnb : ∀ p ∈ pagesL A C gf ((encL d a b c S).set k bad) (d + 2) lost, p.st ≠ 0 := fun p hp => by
    rcases pagesL_mem hp with rfl | ⟨i, -, rfl⟩
    · simp [lostP]
    · simp
  have hlo : lostG (pagesL A C gf ((encL d a b c S).set k bad) (d + 2) lost) = lost := by
    rw [pagesL_lost]
    rcases hz with rfl | ⟨j, rfl, hj, -⟩
    · simp
    · refine List.Perm.eq_of_pairwise (le := (· ≤ ·)) (fun a b _ _ h1 h2 => Nat.le_antisymm h1 h2) (List.Pairwise.filter _ List.pairwise_le_range) (by simp) ((List.perm_ext_iff_of_nodup (List.Pairwise.filter _ List.nodup_range) (by simp)).2 (fun i => ?_))
      rw [List.mem_filter, List.mem_range, decide_eq_true_eq]
      exact ⟨fun h => h.2, fun h => ⟨by rw [List.mem_singleton.1 h]; exact hj, h⟩⟩
  have hany : (pagesL A C gf ((encL d a b c S).set k bad) (d + 2) lost).any (fun p => p.st == 0) = false := by
    rw [List.any_eq_false]
    intro p hp
    simpa using hnb p hp
  have hall : (pagesL A C gf ((encL d a b c S).set k bad) (d + 2) lost).all (fun p => p.st == 0) = false := by
    rw [Bool.eq_false_iff]
    intro h
    have hz := List.all_eq_true.1 h _ (getD_mem11 (z := zPV) (i := 0) (by rw [hlen]; omega))
    exact hnb _ (getD_mem11 (z := zPV) (i := 0) (by rw [hlen]; omega)) (by simpa using hz)
  have hchk : chk (fixL ((pagesL A C gf ((encL d a b c S).set k bad) (d + 2) lost).map (·.x)) (ints lost)) = false := by
    refine wrong_chk (a := a) (b := b) (c := c) (S := S) (bad := bad) (k := k) hok h4 h6 hk hbl hbb hne (by
      rcases hz with rfl | ⟨j, rfl, h1, h2⟩
      · exact .inl rfl
      · exact .inr ⟨j, rfl, h1, h2⟩) (by rw [List.length_map, hlen]) (fun i hi hki => ?_)
    rw [getD_map11, pagesL_get hi, if_neg (fun h => ?_)]
    unfold keep at hki
    simp [ints] at hki
    exact hki i h rfl
  unfold decF
  rw [if_neg (by rw [hlen]; exact fun h => h ⟨⟨by omega, by omega⟩, by omega, by omega⟩), hall, hany, hlo, hchk]
  simp only [Bool.false_eq_true, if_false]
  rw [if_neg (by omega)]
  simp
/-- Some are blank. -/
theorem decF_blank {d : Nat} {sup at' : Int} {P : List PV} (hl : P.length = d) (h6 : 6 ≤ d) (h8 : d ≤ 8) {most : Int} (hm : 0 ≤ most ∧ most ≤ 2) (hs : ∃ i, i < d ∧ (P.getD i zPV).st = 0) :
    decF sup at' P most = if ∀ i, i < d → (P.getD i zPV).st = 0 then (zRow, 2) else (zRow, 5) := by
  obtain ⟨i, hi, h0⟩ := hs
  have hc : (6 ≤ P.length ∧ P.length ≤ 8) ∧ 0 ≤ most ∧ most ≤ 2 := by rw [hl]; exact ⟨⟨h6, h8⟩, hm⟩
  by_cases h : ∀ i, i < d → (P.getD i zPV).st = 0
  · rw [if_pos h]
    refine decF_sta2 hc (staF_all ?_) (by decide)
    rw [List.any_eq_false]
    intro p hp
    obtain ⟨j, hj, he⟩ := mem_getD11 (z := zPV) hp
    rw [← he, h j (by rw [← hl]; exact hj)]
    decide
  · rw [if_neg h]
    refine decF_sta2 hc (staF_some ?_ (by rw [hl]; exact hi) h0) (by decide)
    rw [List.any_eq_true]
    obtain ⟨j, hj⟩ := Classical.not_forall.1 h
    obtain ⟨hj1, hj2⟩ := Classical.not_imp.1 hj
    exact ⟨_, getD_mem11 (z := zPV) (by rw [hl]; exact hj1), by simpa using hj2⟩
theorem turned_eq11 {r y : List Nat} {J : Nat} (hy : Bs y) (hJ : J ≤ r.length) : addK r y 1 J = r ↔ ¬ ∃ c, c < J ∧ cf y c ≠ 0 := by
  constructor
  · rintro e ⟨c, hc, hne⟩
    have h1 := congrArg (fun s => cf s c) e
    simp only [cf_addK] at h1
    rw [if_pos (by omega), if_pos hc, gmul_one (hy c)] at h1
    have h2 := congrArg (fun z => cf r c ^^^ z) h1
    simp only [← Nat.xor_assoc, Nat.xor_self, Nat.zero_xor] at h2
    exact hne h2
  · intro h
    refine eq_of_cf (addK_len _ _ _ _) (fun c => ?_)
    rw [cf_addK]
    by_cases h1 : c < r.length
    · rw [if_pos h1]
      split
      · rename_i h2
        have : cf y c = 0 := by
          by_cases h3 : cf y c = 0
          · exact h3
          · exact absurd ⟨c, h2, h3⟩ h
        rw [this, zero_gmul (by omega), Nat.xor_zero]
      · rfl
    · rw [if_neg h1, cf_ge (by omega)]
/-- A slice is stored where one stood: bytes stay. -/
theorem Arg.setslot {w : World} {v : Value} {g : Nat} {s : List Nat} (h : Arg w v g s) {p : Addr} {x : Value} (hc : w.cell? p = some x) (hx : ∀ z, x ≠ .int .u8 z) (u : Value) : Arg (w.setCell p u) v g s := by
  obtain ⟨⟨ao, c, h1, h2, h3, h4, h5⟩, hb⟩ := h
  refine ⟨⟨ao, c, h1, h2, h3, h4, ?_⟩, hb⟩
  rcases h5 with h | ⟨o, h6, h7⟩
  · exact .inl h
  · refine .inr ⟨o, h6, fun j hj => ?_⟩
    rw [World.cell?_setCell_other]
    · exact h7 j hj
    · intro e
      have := h7 j hj
      rw [← e, hc] at this
      exact hx _ (Option.some.inj this)
theorem ownR_blk11 {base : Nat} {w : World} {v : Value} {ps : List (Option Addr × Nat)} {l : List (List Nat)} {n : Nat} (h : OwnR base w v ps l) (hl : l.length = n) (h0 : 0 < n) : ∃ g cap A C, v = .slice (some ⟨g, 0, none⟩) n cap ∧ base ≤ g ∧ n ≤ cap ∧ cap ≤ maxLen ∧ RArg w (.slice (some ⟨g, 0, none⟩) n cap) g A C l ∧ ∃ cur, w.heap[g]? = some (.cells cur 33 (0, 0)) := by
  rcases h.shape with ⟨_, h2⟩ | ⟨g, cap, h1, h2, h3, h4, h5, ⟨cur, h6, -⟩, h7⟩
  · rw [h2] at hl; simp at hl; omega
  · rw [hl] at h1 h4
    exact ⟨g, cap, psA ps, psC ps, h1, h2, h4, h5, ⟨⟨some ⟨g, 0, none⟩, cap, by rw [hl], by rw [hl]; exact h4, h5, (fun h => by cases h), .inr ⟨0, rfl, fun j hj => by rw [Nat.zero_add]; exact h7 j hj⟩⟩, h.rows⟩, cur, h6⟩
/-- A row of rows, one of which is another one from now on. -/
theorem RArg.put11 {w : World} {N cap G k : Nat} {A : Nat → Option Addr} {C : Nat → Nat} {l : List (List Nat)} (h : RArg w (.slice (some ⟨G, 0, none⟩) N cap) G A C l) (hN : l.length = N) (hk : k < N) {a : Option Addr} {c g : Nat} {s : List Nat} (hs : Arg w (.slice a s.length c) g s) :
    RArg (w.setCell ⟨G, k, none⟩ (.slice a s.length c)) (.slice (some ⟨G, 0, none⟩) N cap) G (fun i => if i = k then a else A i) (fun i => if i = k then c else C i) (l.set k s) := by
  obtain ⟨⟨ao, c', h1, h2, h3, h4, h5⟩, hb⟩ := h
  have hv : ∀ j, j < N → w.cell? ⟨G, j, none⟩ = some (.slice (A j) (l.getD j []).length (C j)) := by
    rcases h5 with h | ⟨o, h6, h7⟩
    · omega
    · have : ao = some ⟨G, 0, none⟩ := by cases h1; rfl
      rw [this] at h6
      cases h6
      intro j hj
      have := h7 j (by omega)
      rw [Nat.zero_add] at this
      exact this
  have hck := hv k hk
  refine ⟨⟨some ⟨G, 0, none⟩, cap, by rw [List.length_set, hN], by rw [List.length_set, hN]; cases h1; omega, by cases h1; exact h3, (fun h => by cases h), .inr ⟨0, rfl, fun j hj => ?_⟩⟩, fun i hi => ?_⟩
  · rw [List.length_set, hN] at hj
    rw [Nat.zero_add]
    dsimp only
    rw [getD_set11 (by omega)]
    by_cases e : j = k
    · subst e
      rw [if_pos rfl, if_pos rfl, if_pos rfl]
      exact World.cell?_setCell_same' _ _ _ (by rw [hck]; rfl)
    · rw [if_neg e, if_neg (fun e2 => e e2.symm), if_neg e, World.cell?_setCell_other]
      · exact hv j hj
      · intro e2; cases e2; exact e rfl
  · rw [List.length_set] at hi
    rw [getD_set11 (by omega)]
    by_cases e : i = k
    · subst e
      rw [if_pos rfl, if_pos rfl, if_pos rfl]
      exact ⟨g, hs.setslot hck (by intro z h; cases h) _⟩
    · rw [if_neg e, if_neg (fun e2 => e e2.symm), if_neg e]
      obtain ⟨g2, h6⟩ := hb i hi
      exact ⟨g2, h6.setslot hck (by intro z h; cases h) _⟩
/-- A page's bytes are other ones from now on. -/
theorem PgBlk.putB {base : Nat} {w : World} {v : Value} {G : Nat} {P : List PV} (h : PgBlk base w v G P) {j : Nat} (hj : j < P.length) {a : Option Addr} {c g : Nat} {s : List Nat} (hs : Arg w (.slice a s.length c) g s) :
    PgBlk base (w.setCell ⟨G, j * 2 + 1, none⟩ (.slice a s.length c)) v G (P.set j ⟨(P.getD j zPV).st, a, c, g, s⟩) := by
  have hcell : w.cell? ⟨G, j * 2 + 1, none⟩ = some (P.getD j zPV).b := h.blk.cell hj (j := 1) rfl
  obtain ⟨cur, h1, h2, h3⟩ := h.blk
  have hgd : ∀ i, (P.set j ⟨(P.getD j zPV).st, a, c, g, s⟩).getD i zPV = if j = i then ⟨(P.getD j zPV).st, a, c, g, s⟩ else P.getD i zPV := fun i => by
    rw [List.getD_eq_getElem?_getD, List.getElem?_set]
    by_cases e : j = i
    · rw [if_pos e, if_pos e, if_pos (by omega)]; rfl
    · rw [if_neg e, if_neg e, ← List.getD_eq_getElem?_getD]
  refine ⟨⟨cur.setIfInBounds (j * 2 + 1) (.slice a s.length c), ?_, ?_, fun i hi => ?_⟩, ?_, h.le, fun p hp => ?_⟩
  · rw [setCell_eq_setRow w G (j * 2 + 1) cur 35 (0, 0) _ h1]
    exact setRow_heap _ _ _ _ _ _ h1
  · rw [List.length_set, Array.size_setIfInBounds]; exact h2
  · rw [List.length_set] at hi
    obtain ⟨h4, h5⟩ := h3 i hi
    refine ⟨rfl, fun q u hu => ?_⟩
    have hq : q < 2 := by have := (List.getElem?_eq_some_iff.1 hu).1; simpa [PV.cs] using this
    dsimp only at hu
    rw [hgd] at hu
    rw [Array.getElem?_setIfInBounds]
    by_cases e : j = i
    · subst e
      rw [if_pos rfl] at hu
      by_cases e1 : q = 1
      · subst e1
        rw [if_pos rfl, if_pos (by have := RowM.at_lt (m := 2) hj (show 1 < 2 by omega); omega)]
        simpa [PV.cs, PV.b] using hu
      · have e0 : q = 0 := by omega
        subst e0
        rw [if_neg (by omega)]
        refine h5 0 u ?_
        simpa [PV.cs] using hu
    · rw [if_neg e] at hu
      rw [if_neg (by have := RowM.ne_at (show 1 < 2 by omega) hq e; omega)]
      exact h5 q u hu
  · rw [List.length_set]; exact h.ex
  · obtain ⟨i, hi, he⟩ := mem_getD11 (z := zPV) hp
    rw [List.length_set] at hi
    rw [hgd] at he
    rw [← he]
    by_cases e : j = i
    · rw [if_pos e]
      exact hs.setslot hcell (by intro z hz; cases hz) _
    · rw [if_neg e]
      exact (h.ok _ (getD_mem11 hi)).setslot hcell (by intro z hz; cases hz) _

end Go.Proofs.YtjdikhelabibnabGreat
