/-
  Rows of which some are put in others' places.
-/
import Derived.Test.YtjdikhelabibnaaGreatF5
namespace Go.Proofs.YtjdikhelabibnaaGreat
open Go.RowKit

theorem two_src (w : World) (a b : Option Addr) (n m c d : Nat) : SrcV (w.alloc (.cells #[.slice a n c, .slice b m d] 47)) (some ⟨w.heap.size, 0, none⟩) w.heap.size [.slice a n c, .slice b m d] := by
  refine .inr ⟨0, rfl, fun j u hu => ?_⟩
  obtain ⟨hj, hu⟩ := List.getElem?_eq_some_iff.1 hu
  have h := World.alloc_heap_new w (.cells #[.slice a n c, .slice b m d] 47)
  have hj2 : j = 0 ∨ j = 1 := by simp at hj; omega
  rcases hj2 with rfl | rfl
  · unfold World.cell?; rw [h]; simp at hu; rw [← hu]; rfl
  · unfold World.cell?; rw [h]; simp at hu; rw [← hu]; rfl
/-- Two rows more. -/
theorem OwnR.snoc2 {base : Nat} {w w' : World} {v v' : Value} {ps : List (Option Addr × Nat)} {l : List (List Nat)} {a b : Option Addr} {c d : Nat} {r q : List Nat} {n m : Nat} (h : OwnR base w v ps l)
    (ho : w'.ownsRow base 47 1 v' (l.length + 2) (vals5 ps l ++ [.slice a n c, .slice b m d])) (hrows : ∀ i, i < l.length → ∃ g, Arg w' (.slice (psA ps i) (l.getD i []).length (psC ps i)) g (l.getD i [])) (hn : r.length = n) (hm : q.length = m)
    (hr : ∃ g, Arg w' (.slice a n c) g r) (hq : ∃ g, Arg w' (.slice b m d) g q) : OwnR base w' v' (ps ++ [(a, c)] ++ [(b, d)]) (l ++ [r] ++ [q]) := by
  have hl1 : (ps ++ [(a, c)]).length = (l ++ [r]).length := by simp [h.len]
  refine ⟨by simp [h.len], ?_, fun i hi => ?_⟩
  · have e : (l ++ [r] ++ [q]).length = l.length + 2 := by simp
    rw [vals_snoc hl1, vals_snoc h.len, hn, hm, e, List.append_assoc (vals5 ps l)]
    exact ho
  · by_cases e : i < l.length
    · rw [getD_snoc (by simp; omega), getD_snoc e, (ps_snoc (by simp [h.len]; omega)).1, (ps_snoc (by simp [h.len]; omega)).2, (ps_snoc (by rw [h.len]; exact e)).1, (ps_snoc (by rw [h.len]; exact e)).2]
      exact hrows i e
    · by_cases e2 : i = l.length
      · subst e2
        rw [getD_snoc (by simp), getD_last, (ps_snoc (by simp [h.len])).1, (ps_snoc (by simp [h.len])).2, (ps_last h.len.symm).1, (ps_last h.len.symm).2, hn]
        exact hr
      · have e3 : i = (l ++ [r]).length := by simp at hi ⊢; omega
        subst e3
        rw [getD_last, (ps_last hl1.symm).1, (ps_last hl1.symm).2, hm]
        exact hq

/-- Rows in a block of the call's own; what they say lay there at w8 already. -/
structure Torn (w8 W : World) (gT N : Nat) (ps : List (Option Addr × Nat)) (t : List (List Nat)) : Prop where
  cells : ∃ cur, W.heap[gT]? = some (.cells cur 47 (0, 0)) ∧ ∀ j, j < N → cur[j]? = some (.slice (psA ps j) (t.getD j []).length (psC ps j))
  pl : ps.length = N
  tl : t.length = N
  rows : ∀ j, j < N → ∃ g, Arg w8 (.slice (psA ps j) (t.getD j []).length (psC ps j)) g (t.getD j [])
  below : Below w8.heap.size w8 W
  hg : w8.heap.size ≤ gT
theorem torn_of {base g n cap : Nat} {w8 W : World} {ps : List (Option Addr × Nat)} {l : List (List Nat)} (h : OwnR base W (.slice (some ⟨g, 0, none⟩) n cap) ps l) (hl : l.length = n) (hrows : ∀ j, j < n → ∃ g, Arg w8 (.slice (psA ps j) (l.getD j []).length (psC ps j)) g (l.getD j [])) (hk : Below w8.heap.size w8 W) (hg : w8.heap.size ≤ g) : Torn w8 W g n ps l := by
  refine ⟨?_, by rw [h.len, hl], hl, hrows, hk, hg⟩
  rcases h.own.2 with ⟨h', _⟩ | ⟨g', cap', cur, h1, h2, h3, h4, h5, h6, h7⟩
  · cases h'
  · cases h1
    refine ⟨cur, h3, fun j hj => ?_⟩
    have e : (cur.toList.take (l.length * 1))[j]? = (vals5 ps l)[j]? := by rw [h7]
    rw [List.getElem?_take, if_pos (by omega), Array.getElem?_toList, vals_get h.len (by omega)] at e
    exact e
theorem Torn.lt {w8 W : World} {gT N : Nat} {ps : List (Option Addr × Nat)} {t : List (List Nat)} (h : Torn w8 W gT N ps t) : gT < W.heap.size := by
  obtain ⟨cur, h1, _⟩ := h.cells
  exact lt_of_block h1
theorem Torn.cell {w8 W : World} {gT N : Nat} {ps : List (Option Addr × Nat)} {t : List (List Nat)} (h : Torn w8 W gT N ps t) {j : Nat} (hj : j < N) : W.cell? ⟨gT, j, none⟩ = some (.slice (psA ps j) (t.getD j []).length (psC ps j)) ∧ W.frozen? ⟨gT, j, none⟩ = false := by
  obtain ⟨cur, h1, h2⟩ := h.cells
  exact ⟨by simp [World.cell?, h1, h2 j hj], by simp [World.frozen?, h1]⟩
theorem Torn.more {w8 W W' : World} {gT N : Nat} {ps : List (Option Addr × Nat)} {t : List (List Nat)} (h : Torn w8 W gT N ps t) (k : Below W.heap.size W W') : Torn w8 W' gT N ps t := by
  obtain ⟨cur, h1, h2⟩ := h.cells
  exact ⟨⟨cur, (k.block gT h.lt).trans h1, h2⟩, h.pl, h.tl, h.rows, h.below.trans (k.mono h.below.size), h.hg⟩
theorem ps_set {ps : List (Option Addr × Nat)} {i j : Nat} {a : Option Addr} {c : Nat} (hi : i < ps.length) : psA (ps.set i (a, c)) j = (if i = j then a else psA ps j) ∧ psC (ps.set i (a, c)) j = (if i = j then c else psC ps j) := by
  unfold psA psC
  rw [List.getD_eq_getElem?_getD, List.getD_eq_getElem?_getD, List.getElem?_set]
  by_cases e : i = j
  · subst e; simp [hi]
  · rw [if_neg e, if_neg e, if_neg e]
    exact ⟨rfl, rfl⟩
theorem Torn.set {w8 W : World} {gT N : Nat} {ps : List (Option Addr × Nat)} {t : List (List Nat)} (h : Torn w8 W gT N ps t) {i : Nat} (hi : i < N) {a : Option Addr} {c g : Nat} {r : List Nat} (hr : Arg w8 (.slice a r.length c) g r) : Torn w8 (W.setCell ⟨gT, i, none⟩ (.slice a r.length c)) gT N (ps.set i (a, c)) (t.set i r) := by
  have hpl : i < ps.length := by rw [h.pl]; exact hi
  have htl : i < t.length := by rw [h.tl]; exact hi
  refine ⟨?_, by rw [List.length_set]; exact h.pl, by rw [List.length_set]; exact h.tl, fun j hj => ?_, h.below.setCell (p := ⟨gT, i, none⟩) h.hg _, h.hg⟩
  · obtain ⟨cur, h1, h2⟩ := h.cells
    refine ⟨cur.setIfInBounds i (.slice a r.length c), heap_setCell_same W gT i _ _ _ h1, fun j hj => ?_⟩
    rw [(ps_set hpl).1, (ps_set hpl).2, getD_set htl, Array.getElem?_setIfInBounds]
    by_cases e : i = j
    · subst e
      have : i < cur.size := (Array.getElem?_eq_some_iff.1 (h2 i hi)).1
      simp [this]
    · rw [if_neg e, if_neg e, if_neg e, if_neg e]
      exact h2 j hj
  · rw [(ps_set hpl).1, (ps_set hpl).2, getD_set htl]
    by_cases e : i = j
    · rw [if_pos e, if_pos e, if_pos e]
      exact ⟨g, hr⟩
    · rw [if_neg e, if_neg e, if_neg e]
      exact h.rows j hj
theorem Torn.arg {w8 W : World} {gT N c : Nat} {ps : List (Option Addr × Nat)} {t : List (List Nat)} (h : Torn w8 W gT N ps t) (h1 : N ≤ c) (h2 : c ≤ maxLen) : RArg W (.slice (some ⟨gT, 0, none⟩) N c) gT (psA ps) (psC ps) t :=
  ⟨⟨some ⟨gT, 0, none⟩, c, by rw [h.tl], by rw [h.tl]; exact h1, h2, (fun h => by cases h), .inr ⟨0, rfl, fun j hj => by rw [Nat.zero_add]; exact (h.cell (by rw [← h.tl]; exact hj)).1⟩⟩, fun i hi => by
    obtain ⟨g, hg⟩ := h.rows i (by rw [← h.tl]; exact hi)
    exact ⟨g, hg.below h.below⟩⟩

end Go.Proofs.YtjdikhelabibnaaGreat
