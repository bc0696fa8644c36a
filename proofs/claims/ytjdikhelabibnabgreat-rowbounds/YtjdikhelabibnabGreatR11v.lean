/-
  A row that was encoded is read back, whatever pages are lost.
-/
import Derived.Test.YtjdikhelabibnabGreatR11u
import Derived.Test.YtjdikhelabibnabGreatE10k
namespace Go.Proofs.YtjdikhelabibnabGreat
open Go Go.RowKit Go.Shelf

theorem entA_inj11 {k l s k' l' s' : Int} {d d' : List Nat} (h : entA k l s d = entA k' l' s' d') : k = k' ∧ l = l' ∧ s = s' ∧ d = d' := by
  have h1 := congrArg Array.toList h
  simp only [entA] at h1
  simp at h1
  obtain ⟨h0, h1, h2, h3⟩ := h1
  refine ⟨h0, h1, h2, ?_⟩
  have h4 := congrArg (List.map (fun v : Value => match v with | .int _ z => z.toNat | _ => 0)) h3
  simpa [datL, ints, Function.comp_def] using h4
theorem back_nbE {a b c i : Int} {e : EV} (he : e.Ok) (ha : 1 ≤ a ∧ a ≤ 1099511627776) (hb : 0 ≤ b ∧ b ≤ 255) (hc : 0 ≤ c ∧ c ≤ 255) (hi : 0 ≤ i ∧ i ≤ 255) (hok : okE e.k e.l e.s e.d) :
    parE (ints (nbE a b c i e)) = 0 ∧ parH (ints (nbE a b c i e)) 0 = a ∧ parH (ints (nbE a b c i e)) 1 = b ∧ parH (ints (nbE a b c i e)) 2 = c ∧ parH (ints (nbE a b c i e)) 3 = i ∧ parV (ints (nbE a b c i e)) = e := by
  have h : ParR _ (ints (nbE a b c i e)) := rfl
  rw [nbE_ints he] at h ⊢
  have h2 := parse_back he.len (fun x hx => by obtain ⟨j, hj, hj2⟩ := mem_getD11 (z := 0) hx; rw [← hj2, cf_getD]; exact he.bs j) ha hb hc hi hok h
  clear h
  unfold parV
  generalize byT a b c i e.k e.l e.s e.d = zs at h2 ⊢
  generalize parH zs 0 = p0 at h2 ⊢
  generalize parH zs 1 = p1 at h2 ⊢
  generalize parH zs 2 = p2 at h2 ⊢
  generalize parH zs 3 = p3 at h2 ⊢
  generalize parN zs 0 = n0 at h2 ⊢
  generalize parN zs 1 = n1 at h2 ⊢
  generalize parN zs 2 = n2 at h2 ⊢
  generalize parD zs = dd at h2 ⊢
  generalize parE zs = pe at h2 ⊢
  simp only [Ending.returned.injEq, Value.tuple.injEq, headA] at h2
  simp at h2
  obtain ⟨⟨h0, h1, h2, h3⟩, h4, h5⟩ := h2
  obtain ⟨e0, e1, e2, e3⟩ := entA_inj11 h4
  exact ⟨h5, h0, h1, h2, h3, by obtain ⟨k, l, s, d⟩ := e; simp only at e0 e1 e2 e3; rw [e0, e1, e2, e3]⟩

theorem encL_goodR {d : Nat} {a b c : Int} {S : List EV} (hok : ∀ i, (S.getD i zEV).Ok) (hoe : okL S) (h6 : d ≤ 6) (hh : okH a b c) {i : Nat} (hi : i < d) : goodR b c (encL d a b c S) i ∧ parV (ints ((encL d a b c S).getD i [])) = S.getD i zEV := by
  obtain ⟨ha, hb, hc1, hc2⟩ := hh
  have h0 : 0 < d := by omega
  obtain ⟨p1, p2, p3, p4, p5, p6⟩ := back_nbE (i := (i : Int)) (hok i) ha hb ⟨hc1, hc2⟩ ⟨by omega, by omega⟩ (okL_get hoe i)
  obtain ⟨q1, q2, -, -, -, -⟩ := back_nbE (i := ((0 : Nat) : Int)) (hok 0) ha hb ⟨hc1, hc2⟩ ⟨by omega, by omega⟩ (okL_get hoe 0)
  unfold goodR
  rw [encL_get hi, encL_get h0]
  exact ⟨⟨p1, p3, p4, p5, by rw [p2, q2]⟩, p6⟩
theorem rowF_encL {d : Nat} {a b c : Int} {S : List EV} (hok : ∀ i, (S.getD i zEV).Ok) (hoe : okL S) (h4 : 4 ≤ d) (h6 : d ≤ 6) (hh : okH a b c) : rowF b c (encL d a b c S) = (⟨a, c, (List.range d).map (fun i => S.getD i zEV)⟩, 0) := by
  have hl : (encL d a b c S).length - 2 = d := by rw [encL_len]; omega
  have hg : ∀ i, i < (encL d a b c S).length - 2 → goodR b c (encL d a b c S) i := fun i hi => (encL_goodR hok hoe h6 hh (by omega)).1
  obtain ⟨q1, q2, -, -, -, -⟩ := back_nbE (i := ((0 : Nat) : Int)) (hok 0) hh.1 hh.2.1 ⟨hh.2.2.1, hh.2.2.2⟩ ⟨by omega, by omega⟩ (okL_get hoe 0)
  have hm : (List.range ((encL d a b c S).length - 2)).map (fun i => parV (ints ((encL d a b c S).getD i []))) = (List.range d).map (fun i => S.getD i zEV) := by
    rw [hl]
    refine List.map_congr_left (fun i hi => ?_)
    exact (encL_goodR hok hoe h6 hh (List.mem_range.1 hi)).2
  unfold rowF
  rw [if_pos hg, hm, encL_get (by omega), q2]
theorem lost_len {n : Nat} {lost : List Nat} (hn : lost.Nodup) (hl : ∀ i ∈ lost, i < n) : ((List.range n).filter (fun i => decide (i ∈ lost))).length = lost.length := by
  refine List.Perm.length_eq ((List.perm_ext_iff_of_nodup (List.Pairwise.filter _ List.nodup_range) hn).2 (fun i => ?_))
  rw [List.mem_filter, List.mem_range, decide_eq_true_eq]
  exact ⟨fun h => h.2, fun h => ⟨hl i h, h⟩⟩
theorem pagesL_st {A : Nat → Option Addr} {C gf : Nat → Nat} {l : List (List Nat)} {n : Nat} {lost : List Nat} {i : Nat} (hi : i < n) : ((pagesL A C gf l n lost).getD i zPV).st = if i ∈ lost then 1 else 2 := by
  rw [pagesL_get hi]; split <;> rfl
theorem pagesL_lost {A : Nat → Option Addr} {C gf : Nat → Nat} {l : List (List Nat)} {n : Nat} {lost : List Nat} : lostG (pagesL A C gf l n lost) = (List.range n).filter (fun i => decide (i ∈ lost)) := by
  unfold lostG atL
  rw [pagesL_len]
  refine List.filter_congr (fun i hi => ?_)
  rw [pagesL_st (List.mem_range.1 hi)]
  by_cases h : i ∈ lost
  · rw [if_pos h, decide_eq_true h]; rfl
  · rw [if_neg h, decide_eq_false h]; rfl
theorem pagesL_mem {A : Nat → Option Addr} {C gf : Nat → Nat} {l : List (List Nat)} {n : Nat} {lost : List Nat} {p : PV} (hp : p ∈ pagesL A C gf l n lost) : p = lostP ∨ ∃ i, i < n ∧ p = ⟨2, A i, C i, gf i, l.getD i []⟩ := by
  obtain ⟨i, hi, rfl⟩ := List.mem_map.1 hp
  by_cases h : i ∈ lost
  · rw [if_pos h]; exact .inl rfl
  · rw [if_neg h]; exact .inr ⟨i, List.mem_range.1 hi, rfl⟩

theorem decF_back {d : Nat} {a b c : Int} {S : List EV} (hok : ∀ i, (S.getD i zEV).Ok) (hoe : okL S) (h4 : 4 ≤ d) (h6 : d ≤ 6) (hh : okH a b c) {A : Nat → Option Addr} {C gf : Nat → Nat} {lost : List Nat} (hn : lost.Nodup) (hl : ∀ i ∈ lost, i < d + 2) {most : Int} (hm : 0 ≤ most ∧ most ≤ 2) :
    decF b c (pagesL A C gf (encL d a b c S) (d + 2) lost) most = if most < (lost.length : Int) then (zRow, 11) else (⟨a, c, (List.range d).map (fun i => S.getD i zEV)⟩, 0) := by
  obtain ⟨f1, f2, f3, f4⟩ := encL_facts (a := a) (b := b) (c := c) (d := d) hok (by omega) (by omega)
  have hlen : (pagesL A C gf (encL d a b c S) (d + 2) lost).length = d + 2 := pagesL_len _ _ _ _ _ _
  have hll : (lostG (pagesL A C gf (encL d a b c S) (d + 2) lost)).length = lost.length := by rw [pagesL_lost]; exact lost_len hn hl
  have hnb : ∀ p ∈ pagesL A C gf (encL d a b c S) (d + 2) lost, p.st ≠ 0 := fun p hp => by
    rcases pagesL_mem hp with rfl | ⟨i, -, rfl⟩
    · simp [lostP]
    · simp
  have hany : (pagesL A C gf (encL d a b c S) (d + 2) lost).any (fun p => p.st == 0) = false := by
    rw [List.any_eq_false]
    intro p hp
    simpa using hnb p hp
  have hall : (pagesL A C gf (encL d a b c S) (d + 2) lost).all (fun p => p.st == 0) = false := by
    rw [Bool.eq_false_iff]
    intro h
    have hz := List.all_eq_true.1 h _ (getD_mem11 (z := zPV) (i := 0) (by rw [hlen]; omega))
    exact hnb _ (getD_mem11 (z := zPV) (i := 0) (by rw [hlen]; omega)) (by simpa using hz)
  have hodd : (pagesL A C gf (encL d a b c S) (d + 2) lost).any oddP = false := by
    rw [List.any_eq_false]
    intro p hp
    rcases pagesL_mem hp with rfl | ⟨i, hi, rfl⟩
    · simp [oddP, lostP]
    · simp [oddP]
      simpa using f1 i hi
  unfold decF
  rw [if_neg (by rw [hlen]; exact fun h => h ⟨⟨by omega, by omega⟩, hm⟩), hall, hany, hll, hodd]
  simp only [Bool.false_eq_true, if_false]
  by_cases hmo : most < (lost.length : Int)
  · rw [if_pos hmo, if_pos hmo]
  rw [if_neg hmo, if_neg hmo]
  have hlo : (lostG (pagesL A C gf (encL d a b c S) (d + 2) lost)).length ≤ 2 := by rw [hll]; omega
  have hml : ((pagesL A C gf (encL d a b c S) (d + 2) lost).map (·.x)).length = d + 2 := by rw [List.length_map, hlen]
  have hfix : fixL ((pagesL A C gf (encL d a b c S) (d + 2) lost).map (·.x)) (ints (lostG (pagesL A C gf (encL d a b c S) (d + 2) lost))) = encL d a b c S := by
    have hget : ∀ i, i < d + 2 → keep (ints (lostG (pagesL A C gf (encL d a b c S) (d + 2) lost))) i = true → ((pagesL A C gf (encL d a b c S) (d + 2) lost).map (·.x)).getD i [] = (encL d a b c S).getD i [] := by
      intro i hi hk
      rw [lostG_mem hnb (by rw [hlen]; exact hi), pagesL_st hi] at hk
      have hni : i ∉ lost := fun h => by rw [if_pos h] at hk; simp at hk
      rw [List.getD_eq_getElem?_getD, List.getElem?_map, List.getElem?_eq_getElem (by rw [hlen]; exact hi)]
      have := pagesL_get (A := A) (C := C) (gf := gf) (l := encL d a b c S) (lost := lost) hi
      rw [if_neg hni, List.getD_eq_getElem?_getD, List.getElem?_eq_getElem (by rw [hlen]; exact hi)] at this
      simp only [Option.getD_some] at this
      simp only [Option.map_some, Option.getD_some]
      rw [this]
    refine fixL_of (n := 48) (by rw [hml]; omega) (by rw [hml]; omega) (by have hp := lostG_pk hlo; rw [hlen] at hp; rw [hml]; exact hp) (by rw [ints_len]; exact hlo) ⟨?_, ?_, ?_, ?_, f2, ?_, ?_⟩
    · rw [hml, encL_len]
    · intro i hi hk
      rw [hml] at hi
      rw [hget i hi hk, f1 i hi]
    · intro i hi
      rw [hml] at hi
      exact f1 i hi
    · intro i hi hk
      rw [hml] at hi
      exact (hget i hi hk).symm
    · intro _
      rw [hml]
      exact f3
    · intro _
      rw [hml]
      exact f4
  rw [hfix, encL_chk hok (by omega) (by omega), if_pos rfl]
  exact rowF_encL hok hoe h4 h6 hh

end Go.Proofs.YtjdikhelabibnabGreat
