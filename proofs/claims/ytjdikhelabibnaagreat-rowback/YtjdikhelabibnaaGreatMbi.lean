/-
  Arguments that are opened: rows of slots ([]api.Entry), of pages ([]api.Page).
  What Encode answers, to be used by the laws.
  A row that was encoded is read back, whatever pages are lost.
  Slots that are appended: where they lie; slots that are filled up.
-/
import Derived.Test.YtjdikhelabibnaaGreatMbb
import Derived.Test.YtjdikhelabibnaaGreatMaw
import Derived.Test.YtjdikhelabibnaaGreatMaj
import Derived.OpenShut
import Derived.ChangeSlices
import Derived.DataReads
import Derived.Deep.Slices
import Derived.Test.YtjdikhelabibnaaGreatMbh
import Derived.Test.YtjdikhelabibnaaGreatMar
import Derived.Test.YtjdikhelabibnaaGreatMaz
namespace Go.Proofs.YtjdikhelabibnaaGreat
open Go Go.RowKit Go.ChangeShapes Go.WideShapes Go.ChangeAt

section
variable {H : Type} {enc : TypeId × Value → H} {w : World} {base : Nat} {spare : Nat → Bool} {held : Bool} {fuel : Nat} {cs : List Value} {x : DataW H × List MemPlace}
theorem addr_shape11 {w : World} {a : Addr} {v : Value} (h : w.cell? a = some v) : a = ⟨a.block, a.off, none⟩ := by
  unfold World.cell? at h
  obtain ⟨b, o, s⟩ := a
  cases s with
  | none => rfl
  | some s =>
    simp only at h
    split at h <;> simp_all
theorem cells_B11 : Tryz.prog.cellsOf 47 = 1 := by kernel_rfl
theorem cells_TP11 : Tryz.prog.cellsOf 49 = 2 := by kernel_rfl
theorem open_bs11 (h : DataW.trod enc Tryz.prog w base spare held fuel 47 cs = some x) : ∃ a n c g s, cs = [.slice a n c] ∧ Arg w (.slice a n c) g s := by
  rcases open_ints Tryz.underlying47 Tryz.underlying5 (by kernel_rfl) h with ⟨hcs, _⟩ | ⟨y, l, c, zs, hcs, _, hl, hm, hz, _, hcell, hwz⟩
  · exact ⟨none, 0, 0, 0, [], hcs, ⟨⟨none, 0, rfl, by simp, by simp, fun _ => rfl, .inl rfl⟩, Bs.nil⟩⟩
  · have hlz : l ≤ zs.length := by rw [hz]; split <;> omega
    obtain ⟨g, p1, p2, p3⟩ := row_in hlz rfl hcell hwz
    exact ⟨some y, l, c, g, _, hcs, arg_in p1 p2 p3 hl (fun h => by cases h) hm⟩
theorem open_ev (h : DataW.trod enc Tryz.prog w base spare held fuel 44 cs = some x) : ∃ e : EV, cs = e.cs ∧ e.Ok := by
  obtain ⟨k, l, s, d, e, e1, e2⟩ := open_ent h
  exact ⟨⟨k, l, s, d⟩, e, e1, e2⟩
set_option maxRecDepth 100000 in
theorem open_pv (h : DataW.trod enc Tryz.prog w base spare held fuel 49 cs = some x) : ∃ p : PV, cs = p.cs ∧ p.Ok w := by
  obtain ⟨xs, n, _, _, hl, hlen, hf⟩ := DataW.trod_struct Tryz.underlying49 h
  rw [cells_TP11] at hl
  match xs, hlen with
  | [y0, y1], _ =>
    obtain ⟨a, e0, _⟩ := DataW.trod_int Tryz.underlying3 (by simpa using hf 0 _ rfl)
    obtain ⟨bo, bn, bc, gb, s, e1, hb⟩ := open_bs11 (by simpa using hf 1 _ rfl)
    rw [cells_I10] at e0
    rw [cells_B11] at e1
    match cs, hl with
    | [c0, c1], _ =>
      simp at e0 e1
      have hn : bn = s.length := by obtain ⟨_, _, h, -⟩ := hb.ex; cases h; rfl
      subst hn
      exact ⟨⟨a, bo, bc, gb, s⟩, by rw [e0, e1]; rfl, hb⟩

set_option maxRecDepth 100000 in
theorem open_evs {fuel : Nat} (h : DataW.trod enc Tryz.prog w base spare held fuel 22 cs = some x) : ∃ v g l, cs = [v] ∧ EArg w v g l := by
  rcases Go.Deep.open_slice Tryz.underlying22 h with ⟨rfl, _⟩ | ⟨a, len, cap, m, n, D, Pl, rfl, _, hl, hm, hm2, _, hel⟩
  · exact ⟨_, 0, [], rfl, EArg.nil w⟩
  · have hlm : len ≤ m := by rw [hm2]; split <;> omega
    have hp : ∀ i : Nat, i < len → ∃ p : EV, (∀ j v, p.cs[j]? = some v → w.cell? ((a.add (i * 19)).add j) = some v) ∧ p.Ok := fun i hi => by
      obtain ⟨cs', h1, h2⟩ := hel i (by omega)
      rw [cells_TE10] at h1
      obtain ⟨p, rfl, hok⟩ := open_ev h2
      refine ⟨p, fun j v hj => ?_, hok⟩
      have hj7 : j < 19 := by have := (List.getElem?_eq_some_iff.1 hj).1; rw [EV.cs_len hok] at this; exact this
      have := World.cells?_some h1
      rw [this.2.2 j hj7]
      exact hj
    have hfun : ∃ f : Nat → EV, ∀ i : Nat, i < len → (∀ j v, (f i).cs[j]? = some v → w.cell? ((a.add (i * 19)).add j) = some v) ∧ (f i).Ok :=
      ⟨fun i => if h : i < len then (hp i h).choose else zEV, fun i hi => by simp only [dif_pos hi]; exact (hp i hi).choose_spec⟩
    obtain ⟨f, hf⟩ := hfun
    have hz0 : ∀ h0 : 0 < len, a = ⟨a.block, a.off, none⟩ := fun h0 => by
      obtain ⟨v, hv⟩ : ∃ v, (f 0).cs[0]? = some v := ⟨(f 0).cs[0]'(by rw [EV.cs_len (hf 0 h0).2]; omega), List.getElem?_eq_getElem _⟩
      have := (hf 0 h0).1 0 v hv
      rw [Nat.zero_mul] at this
      have e : a.add 0 = a := by simp [Addr.add]
      rw [e, e] at this
      exact addr_shape11 this
    have hget : ∀ i, i < len → ((List.range len).map f).getD i zEV = f i := fun i hi => by rw [List.getD_eq_getElem?_getD, List.getElem?_map, List.getElem?_range hi]; rfl
    refine ⟨_, a.block, (List.range len).map f, rfl, ⟨some a, cap, by simp, by simpa using hl, hm, (fun h => by cases h), fun hne => ⟨a.off, ?_, fun i hi j v hj => ?_⟩⟩, fun p hp => ?_⟩
    · have h0 : 0 < len := by
        rcases Nat.eq_zero_or_pos len with h | h
        · subst h; exact absurd rfl hne
        · exact h
      exact congrArg some (hz0 h0)
    · have hi' : i < len := by simpa using hi
      rw [hget i hi'] at hj
      have hsh := hz0 (by omega)
      have h1 := (hf i hi').1 j v hj
      obtain ⟨b, o, s⟩ := a
      simp only [Addr.mk.injEq, true_and] at hsh
      subst hsh
      rw [Addr.add_lit, Addr.add_lit] at h1
      exact h1
    · obtain ⟨i, hi, rfl⟩ := List.mem_map.1 hp
      exact (hf i (List.mem_range.1 hi)).2

set_option maxRecDepth 100000 in
theorem open_pgs {fuel : Nat} (h : DataW.trod enc Tryz.prog w base spare held fuel 40 cs = some x) : ∃ v g l, cs = [v] ∧ PgArg w v g l := by
  rcases Go.Deep.open_slice Tryz.underlying40 h with ⟨rfl, _⟩ | ⟨a, len, cap, m, n, D, Pl, rfl, _, hl, hm, hm2, _, hel⟩
  · exact ⟨_, 0, [], rfl, PgArg.nil w⟩
  · have hlm : len ≤ m := by rw [hm2]; split <;> omega
    have hp : ∀ i : Nat, i < len → ∃ p : PV, (∀ j v, p.cs[j]? = some v → w.cell? ((a.add (i * 2)).add j) = some v) ∧ p.Ok w := fun i hi => by
      obtain ⟨cs', h1, h2⟩ := hel i (by omega)
      rw [cells_TP11] at h1
      obtain ⟨p, rfl, hok⟩ := open_pv h2
      refine ⟨p, fun j v hj => ?_, hok⟩
      have hj7 : j < 2 := by have := (List.getElem?_eq_some_iff.1 hj).1; rw [show p.cs.length = 2 from rfl] at this; exact this
      have := World.cells?_some h1
      rw [this.2.2 j hj7]
      exact hj
    have hfun : ∃ f : Nat → PV, ∀ i : Nat, i < len → (∀ j v, (f i).cs[j]? = some v → w.cell? ((a.add (i * 2)).add j) = some v) ∧ (f i).Ok w :=
      ⟨fun i => if h : i < len then (hp i h).choose else zPV, fun i hi => by simp only [dif_pos hi]; exact (hp i hi).choose_spec⟩
    obtain ⟨f, hf⟩ := hfun
    have hz0 : ∀ h0 : 0 < len, a = ⟨a.block, a.off, none⟩ := fun h0 => by
      obtain ⟨v, hv⟩ : ∃ v, (f 0).cs[0]? = some v := ⟨(f 0).cs[0]'(by show 0 < 2; omega), List.getElem?_eq_getElem _⟩
      have := (hf 0 h0).1 0 v hv
      rw [Nat.zero_mul] at this
      have e : a.add 0 = a := by simp [Addr.add]
      rw [e, e] at this
      exact addr_shape11 this
    have hget : ∀ i, i < len → ((List.range len).map f).getD i zPV = f i := fun i hi => by rw [List.getD_eq_getElem?_getD, List.getElem?_map, List.getElem?_range hi]; rfl
    refine ⟨_, a.block, (List.range len).map f, rfl, ⟨some a, cap, by simp, by simpa using hl, hm, (fun h => by cases h), fun hne => ⟨a.off, ?_, fun i hi j v hj => ?_⟩⟩, fun p hp => ?_⟩
    · have h0 : 0 < len := by
        rcases Nat.eq_zero_or_pos len with h | h
        · subst h; exact absurd rfl hne
        · exact h
      exact congrArg some (hz0 h0)
    · have hi' : i < len := by simpa using hi
      rw [hget i hi'] at hj
      have hsh := hz0 (by omega)
      have h1 := (hf i hi').1 j v hj
      obtain ⟨b, o, s⟩ := a
      simp only [Addr.mk.injEq, true_and] at hsh
      subst hsh
      rw [Addr.add_lit, Addr.add_lit] at h1
      exact h1
    · obtain ⟨i, hi, rfl⟩ := List.mem_map.1 hp
      exact (hf i (List.mem_range.1 hi)).2
end
end Go.Proofs.YtjdikhelabibnaaGreat

namespace Go.Proofs.YtjdikhelabibnaaGreat
open Go Go.RowKit Go.Shelf

noncomputable def encE (n a b c : Int) (l : List EV) : Int := open Classical in if okRow n a b c l then 0 else 1
noncomputable def encX (n a b c : Int) (l : List EV) : List (List Nat) := open Classical in if okRow n a b c l then encL (n - 2).toNat a b c l else []
theorem encE_ok {n a b c : Int} {l : List EV} (h : okRow n a b c l) : encE n a b c l = 0 := by unfold encE; rw [if_pos h]
theorem encX_ok {n a b c : Int} {l : List EV} (h : okRow n a b c l) : encX n a b c l = encL (n - 2).toNat a b c l := by unfold encX; rw [if_pos h]
theorem encE_no {n a b c : Int} {l : List EV} (h : ¬ okRow n a b c l) : encE n a b c l = 1 := by unfold encE; rw [if_neg h]
theorem encX_no {n a b c : Int} {l : List EV} (h : ¬ okRow n a b c l) : encX n a b c l = [] := by unfold encX; rw [if_neg h]
theorem EncR.use {w w' : World} {x : Ending} {n a b c : Int} {l : List EV} (h : EncR w w' x n a b c l) : Below w.heap.size w w' ∧ ∃ ao m k G A C, x = .returned (.tuple #[.slice ao m k, .int .i64 (encE n a b c l)]) ∧ RArg w' (.slice ao m k) G A C (encX n a b c l) := by
  refine ⟨h.below, ?_⟩
  rcases h.res with ⟨h1, v, ps, h2, h3⟩ | ⟨h1, h2⟩
  · obtain ⟨G, hG, -⟩ := h3.arg
    obtain ⟨ao, c', hv, -⟩ := hG.ex
    refine ⟨ao, (encL (n - 2).toNat a b c l).length, c', G, psA ps, psC ps, ?_, ?_⟩
    · rw [h2, encE_ok h1, hv]
    · rw [encX_ok h1, ← hv]; exact hG
  · obtain ⟨G, hG, -⟩ := (OwnR.nil 0 w').arg
    exact ⟨none, 0, 0, G, _, _, by rw [h2, encE_no h1], by rw [encX_no h1]; exact hG⟩
theorem gdSl_okL {l : List EV} (m : Nat) : okL (gdSl l m) := by
  intro e he
  obtain ⟨x, hx, rfl⟩ := List.mem_map.1 he
  exact gd_ok11 _ _ _ _
theorem OwnE.arg' {base : Nat} {w : World} {v : Value} {l : List EV} (h : OwnE base w v l) : ∃ a n c g, v = .slice a n c ∧ EArg w (.slice a n c) g l := by
  obtain ⟨g, hg, -⟩ := h.arg
  obtain ⟨a, c, hv, -⟩ := hg.ex
  exact ⟨a, _, c, g, hv, by rw [← hv]; exact hg⟩

end Go.Proofs.YtjdikhelabibnaaGreat

namespace Go.Proofs.YtjdikhelabibnaaGreat
open Go Go.RowKit Go.Shelf

theorem entA_inj11 {k l s k' l' s' : Int} {d d' : List Nat} (h : entA k l s d = entA k' l' s' d') : k = k' ∧ l = l' ∧ s = s' ∧ d = d' := by
  have h1 := congrArg Array.toList h
  simp only [entA] at h1
  simp at h1
  obtain ⟨h0, h1, h2, h3⟩ := h1
  refine ⟨h0, h1, h2, ?_⟩
  have h4 := congrArg (List.map (fun v : Value => match v with | .int _ z => z.toNat | _ => 0)) h3
  simpa [datL, ints, Function.comp_def] using h4
theorem back_nbE {a b c i : Int} {e : EV} (he : e.Ok) (ha : 1 ≤ a ∧ a ≤ 1099511627776) (hb : 0 ≤ b ∧ b ≤ 255) (hc : 0 ≤ c ∧ c ≤ 255) (hi : 0 ≤ i ∧ i ≤ 255) (hok : okE e.k e.l e.s e.d) :
    parE (ints (nbE a b c i e)) = 0 ∧ parH (ints (nbE a b c i e)) 0 = a ∧ parH (ints (nbE a b c i e)) 1 = b ∧ parH (ints (nbE a b c i e)) 2 = c ∧ parH (ints (nbE a b c i e)) 3 = i ∧ parV (ints (nbE a b c i e)) = e := by
  have h : ParR _ (ints (nbE a b c i e)) := rfl
  rw [nbE_ints he] at h ⊢
  have h2 := parse_back he.len (fun x hx => by obtain ⟨j, hj, hj2⟩ := mem_getD11 (z := 0) hx; rw [← hj2, cf_getD]; exact he.bs j) ha hb hc hi hok h
  clear h
  unfold parV
  generalize byT a b c i e.k e.l e.s e.d = zs at h2 ⊢
  generalize parH zs 0 = p0 at h2 ⊢
  generalize parH zs 1 = p1 at h2 ⊢
  generalize parH zs 2 = p2 at h2 ⊢
  generalize parH zs 3 = p3 at h2 ⊢
  generalize parN zs 0 = n0 at h2 ⊢
  generalize parN zs 1 = n1 at h2 ⊢
  generalize parN zs 2 = n2 at h2 ⊢
  generalize parD zs = dd at h2 ⊢
  generalize parE zs = pe at h2 ⊢
  simp only [Ending.returned.injEq, Value.tuple.injEq, headA] at h2
  simp at h2
  obtain ⟨⟨h0, h1, h2, h3⟩, h4, h5⟩ := h2
  obtain ⟨e0, e1, e2, e3⟩ := entA_inj11 h4
  exact ⟨h5, h0, h1, h2, h3, by obtain ⟨k, l, s, d⟩ := e; simp only at e0 e1 e2 e3; rw [e0, e1, e2, e3]⟩

theorem encL_goodR {d : Nat} {a b c : Int} {S : List EV} (hok : ∀ i, (S.getD i zEV).Ok) (hoe : okL S) (h6 : d ≤ 6) (hh : okH a b c) {i : Nat} (hi : i < d) : goodR b c (encL d a b c S) i ∧ parV (ints ((encL d a b c S).getD i [])) = S.getD i zEV := by
  obtain ⟨ha, hb, hc1, hc2⟩ := hh
  have h0 : 0 < d := by omega
  obtain ⟨p1, p2, p3, p4, p5, p6⟩ := back_nbE (i := (i : Int)) (hok i) ha hb ⟨hc1, hc2⟩ ⟨by omega, by omega⟩ (okL_get hoe i)
  obtain ⟨q1, q2, -, -, -, -⟩ := back_nbE (i := ((0 : Nat) : Int)) (hok 0) ha hb ⟨hc1, hc2⟩ ⟨by omega, by omega⟩ (okL_get hoe 0)
  unfold goodR
  rw [encL_get hi, encL_get h0]
  exact ⟨⟨p1, p3, p4, p5, by rw [p2, q2]⟩, p6⟩
theorem rowF_encL {d : Nat} {a b c : Int} {S : List EV} (hok : ∀ i, (S.getD i zEV).Ok) (hoe : okL S) (h4 : 4 ≤ d) (h6 : d ≤ 6) (hh : okH a b c) : rowF b c (encL d a b c S) = (⟨a, c, (List.range d).map (fun i => S.getD i zEV)⟩, 0) := by
  have hl : (encL d a b c S).length - 2 = d := by rw [encL_len]; omega
  have hg : ∀ i, i < (encL d a b c S).length - 2 → goodR b c (encL d a b c S) i := fun i hi => (encL_goodR hok hoe h6 hh (by omega)).1
  obtain ⟨q1, q2, -, -, -, -⟩ := back_nbE (i := ((0 : Nat) : Int)) (hok 0) hh.1 hh.2.1 ⟨hh.2.2.1, hh.2.2.2⟩ ⟨by omega, by omega⟩ (okL_get hoe 0)
  have hm : (List.range ((encL d a b c S).length - 2)).map (fun i => parV (ints ((encL d a b c S).getD i []))) = (List.range d).map (fun i => S.getD i zEV) := by
    rw [hl]
    refine List.map_congr_left (fun i hi => ?_)
    exact (encL_goodR hok hoe h6 hh (List.mem_range.1 hi)).2
  unfold rowF
  rw [if_pos hg, hm, encL_get (by omega), q2]
theorem lost_len {n : Nat} {lost : List Nat} (hn : lost.Nodup) (hl : ∀ i ∈ lost, i < n) : ((List.range n).filter (fun i => decide (i ∈ lost))).length = lost.length := by
  refine List.Perm.length_eq ((List.perm_ext_iff_of_nodup (List.Pairwise.filter _ List.nodup_range) hn).2 (fun i => ?_))
  rw [List.mem_filter, List.mem_range, decide_eq_true_eq]
  exact ⟨fun h => h.2, fun h => ⟨hl i h, h⟩⟩
theorem pagesL_st {A : Nat → Option Addr} {C gf : Nat → Nat} {l : List (List Nat)} {n : Nat} {lost : List Nat} {i : Nat} (hi : i < n) : ((pagesL A C gf l n lost).getD i zPV).st = if i ∈ lost then 1 else 2 := by
  rw [pagesL_get hi]; split <;> rfl
theorem pagesL_lost {A : Nat → Option Addr} {C gf : Nat → Nat} {l : List (List Nat)} {n : Nat} {lost : List Nat} : lostG (pagesL A C gf l n lost) = (List.range n).filter (fun i => decide (i ∈ lost)) := by
  unfold lostG atL
  rw [pagesL_len]
  refine List.filter_congr (fun i hi => ?_)
  rw [pagesL_st (List.mem_range.1 hi)]
  by_cases h : i ∈ lost
  · rw [if_pos h, decide_eq_true h]; rfl
  · rw [if_neg h, decide_eq_false h]; rfl
theorem pagesL_mem {A : Nat → Option Addr} {C gf : Nat → Nat} {l : List (List Nat)} {n : Nat} {lost : List Nat} {p : PV} (hp : p ∈ pagesL A C gf l n lost) : p = lostP ∨ ∃ i, i < n ∧ p = ⟨2, A i, C i, gf i, l.getD i []⟩ := by
  obtain ⟨i, hi, rfl⟩ := List.mem_map.1 hp
  by_cases h : i ∈ lost
  · rw [if_pos h]; exact .inl rfl
  · rw [if_neg h]; exact .inr ⟨i, List.mem_range.1 hi, rfl⟩

theorem decF_back {d : Nat} {a b c : Int} {S : List EV} (hok : ∀ i, (S.getD i zEV).Ok) (hoe : okL S) (h4 : 4 ≤ d) (h6 : d ≤ 6) (hh : okH a b c) {A : Nat → Option Addr} {C gf : Nat → Nat} {lost : List Nat} (hn : lost.Nodup) (hl : ∀ i ∈ lost, i < d + 2) {most : Int} (hm : 0 ≤ most ∧ most ≤ 2) :
    decF b c (pagesL A C gf (encL d a b c S) (d + 2) lost) most = if most < (lost.length : Int) then (zRow, 11) else (⟨a, c, (List.range d).map (fun i => S.getD i zEV)⟩, 0) := by
  obtain ⟨f1, f2, f3, f4⟩ := encL_facts (a := a) (b := b) (c := c) (d := d) hok (by omega) (by omega)
  have hlen : (pagesL A C gf (encL d a b c S) (d + 2) lost).length = d + 2 := pagesL_len _ _ _ _ _ _
  have hll : (lostG (pagesL A C gf (encL d a b c S) (d + 2) lost)).length = lost.length := by rw [pagesL_lost]; exact lost_len hn hl
  have hnb : ∀ p ∈ pagesL A C gf (encL d a b c S) (d + 2) lost, p.st ≠ 0 := fun p hp => by
    rcases pagesL_mem hp with rfl | ⟨i, -, rfl⟩
    · simp [lostP]
    · simp
  have hany : (pagesL A C gf (encL d a b c S) (d + 2) lost).any (fun p => p.st == 0) = false := by
    rw [List.any_eq_false]
    intro p hp
    simpa using hnb p hp
  have hall : (pagesL A C gf (encL d a b c S) (d + 2) lost).all (fun p => p.st == 0) = false := by
    rw [Bool.eq_false_iff]
    intro h
    have hz := List.all_eq_true.1 h _ (getD_mem11 (z := zPV) (i := 0) (by rw [hlen]; omega))
    exact hnb _ (getD_mem11 (z := zPV) (i := 0) (by rw [hlen]; omega)) (by simpa using hz)
  have hodd : (pagesL A C gf (encL d a b c S) (d + 2) lost).any oddP = false := by
    rw [List.any_eq_false]
    intro p hp
    rcases pagesL_mem hp with rfl | ⟨i, hi, rfl⟩
    · simp [oddP, lostP]
    · simp [oddP]
      simpa using f1 i hi
  unfold decF
  rw [if_neg (by rw [hlen]; exact fun h => h ⟨⟨by omega, by omega⟩, hm⟩), hall, hany, hll, hodd]
  simp only [Bool.false_eq_true, if_false]
  by_cases hmo : most < (lost.length : Int)
  · rw [if_pos hmo, if_pos hmo]
  rw [if_neg hmo, if_neg hmo]
  have hlo : (lostG (pagesL A C gf (encL d a b c S) (d + 2) lost)).length ≤ 2 := by rw [hll]; omega
  have hml : ((pagesL A C gf (encL d a b c S) (d + 2) lost).map (·.x)).length = d + 2 := by rw [List.length_map, hlen]
  have hfix : fixL ((pagesL A C gf (encL d a b c S) (d + 2) lost).map (·.x)) (ints (lostG (pagesL A C gf (encL d a b c S) (d + 2) lost))) = encL d a b c S := by
    have hget : ∀ i, i < d + 2 → keep (ints (lostG (pagesL A C gf (encL d a b c S) (d + 2) lost))) i = true → ((pagesL A C gf (encL d a b c S) (d + 2) lost).map (·.x)).getD i [] = (encL d a b c S).getD i [] := by
      intro i hi hk
      rw [lostG_mem hnb (by rw [hlen]; exact hi), pagesL_st hi] at hk
      have hni : i ∉ lost := fun h => by rw [if_pos h] at hk; simp at hk
      rw [List.getD_eq_getElem?_getD, List.getElem?_map, List.getElem?_eq_getElem (by rw [hlen]; exact hi)]
      have := pagesL_get (A := A) (C := C) (gf := gf) (l := encL d a b c S) (lost := lost) hi
      rw [if_neg hni, List.getD_eq_getElem?_getD, List.getElem?_eq_getElem (by rw [hlen]; exact hi)] at this
      simp only [Option.getD_some] at this
      simp only [Option.map_some, Option.getD_some]
      rw [this]
    refine fixL_of (n := 48) (by rw [hml]; omega) (by rw [hml]; omega) (by have hp := lostG_pk hlo; rw [hlen] at hp; rw [hml]; exact hp) (by rw [ints_len]; exact hlo) ⟨?_, ?_, ?_, ?_, f2, ?_, ?_⟩
    · rw [hml, encL_len]
    · intro i hi hk
      rw [hml] at hi
      rw [hget i hi hk, f1 i hi]
    · intro i hi
      rw [hml] at hi
      exact f1 i hi
    · intro i hi hk
      rw [hml] at hi
      exact (hget i hi hk).symm
    · intro _
      rw [hml]
      exact f3
    · intro _
      rw [hml]
      exact f4
  rw [hfix, encL_chk hok (by omega) (by omega), if_pos rfl]
  exact rowF_encL hok hoe h4 h6 hh

end Go.Proofs.YtjdikhelabibnaaGreat

namespace Go.Proofs.YtjdikhelabibnaaGreat
open Go Go.RowKit Go.Shelf

theorem ok_fst11 {v v' : Value} {w w' : World} (h : (Result.ok v w : Result Value) = .ok v' w') : v = v' := by cases h; rfl
/-- The block of what append answers is the old one, or a new one. -/
theorem append_blk11 (w : World) (base : Nat) (ty : TypeId) (v : Value) (l : List EV) (hown : OwnE base w v l) (g o : Nat) (x : EV) (hc : w.rangeAt g o x.cs) (hx : x.Ok) (hb : l.length ≤ 100000) {v' : Value} {w' : World}
    (hr : (Builtin.append_ #[22, 22] ty #[v, .slice (some ⟨g, o, none⟩) 1 1]).run Tryz.prog w = .ok v' w') (b : Nat) (hv : v'.ownBlock = some b) : v.ownBlock = some b ∨ b = w.heap.size := by
  obtain ⟨i0, hi0, hz0, hz1, hz2⟩ := info_parts infoTE
  have hnews : ∀ j u, x.cs[j]? = some u → w.cell? ((⟨g, o, none⟩ : Addr).add j) = some u := fun j u hu => by rw [Addr.add_lit]; exact hc j u hu
  have hl : x.cs.length = 1 * i0.size := by rw [hz1, EV.cs_len hx]
  rcases hown.1.own.2 with ⟨rfl, h0⟩ | ⟨q, cap, cur, rfl, h2, h3, h4, h5, h6, h7⟩
  · have hr2 := run_append_nil (P := Tryz.prog) w 22 ty 44 i0 _ Tryz.underlying22 hi0 hz0 ⟨g, o, none⟩ 1 1 x.cs hl hnews (by omega) (by omega) (by rw [hz2]; omega)
    have := ok_fst11 (hr.symm.trans hr2)
    subst this
    simp only [Value.ownBlock, Option.some.injEq] at hv
    exact .inr hv.symm
  · by_cases hroom : l.length + 1 ≤ cap
    · have hr2 := run_append_room (P := Tryz.prog) w 22 ty 44 i0 Tryz.underlying22 hi0 q l.length cap cur h3 ⟨g, o, none⟩ 1 1 x.cs hl hnews x.cs_one hroom (by rw [hl, hz1, h6]; have := Nat.mul_le_mul_right 19 hroom; omega)
      have := ok_fst11 (hr.symm.trans hr2)
      subst this
      exact .inl hv
    · have hr2 := run_append_grow (P := Tryz.prog) w 22 ty 44 i0 _ Tryz.underlying22 hi0 hz0 ⟨q, 0, none⟩ l.length cap _ (by rw [hz1]; exact hown.1.own.1) (hown.1.own.cells (g := q) rfl) ⟨g, o, none⟩ 1 1 x.cs hl hnews (by omega) (by omega) (growslice_fits (by omega) (by rw [hz2]; omega))
      have := ok_fst11 (hr.symm.trans hr2)
      subst this
      simp only [Value.ownBlock, Option.some.injEq] at hv
      exact .inr hv.symm
def lenV : Value → Nat | .slice _ n _ => n | _ => 0
/-- Slots that are filled up with empty ones. -/
def padS (S : List EV) (k : Nat) : List EV := (List.range k).map (fun i => S.getD i zEV)
theorem padS_len (S : List EV) (k : Nat) : (padS S k).length = k := by simp [padS]
theorem padS_self (S : List EV) : padS S S.length = S := by
  refine List.ext_getElem (padS_len _ _) (fun i h1 h2 => ?_)
  simp only [padS, List.getElem_map, List.getElem_range]
  rw [List.getD_eq_getElem?_getD, List.getElem?_eq_getElem h2]
  rfl
theorem padS_snoc {S : List EV} {k : Nat} (h : S.length ≤ k) : padS S (k + 1) = padS S k ++ [zEV] := by
  rw [padS, padS, List.range_succ, List.map_append, List.map_singleton, List.getD_eq_getElem?_getD, List.getElem?_eq_none h]
  rfl

end Go.Proofs.YtjdikhelabibnaaGreat
