/-
  The laws' Rows, and where they lie; rows of which one is put in another's place.
-/
import Derived.Test.YtjdikhelabibnabGreatT5
namespace Go.Proofs.YtjdikhelabibnabGreat
open Go.RowKit

/-- Rows whose slices lie in block gT, and what they say elsewhere. -/
structure Tn (W : World) (gT N : Nat) (ps : List (Option Addr × Nat)) (t : List (List Nat)) : Prop where
  cells : ∃ cur, W.heap[gT]? = some (.cells cur 33 (0, 0)) ∧ ∀ j, j < N → cur[j]? = some (.slice (psA ps j) (t.getD j []).length (psC ps j))
  pl : ps.length = N
  tl : t.length = N
  rows : ∀ j, j < N → ∃ g, Arg W (.slice (psA ps j) (t.getD j []).length (psC ps j)) g (t.getD j []) ∧ (t.getD j [] ≠ [] → g ≠ gT)
theorem tn_of {base g n cap : Nat} {W : World} {ps : List (Option Addr × Nat)} {l : List (List Nat)} (h : OwnR base W (.slice (some ⟨g, 0, none⟩) n cap) ps l) (hl : l.length = n) (hrows : ∀ j, j < n → ∃ g', Arg W (.slice (psA ps j) (l.getD j []).length (psC ps j)) g' (l.getD j []) ∧ (l.getD j [] ≠ [] → g' ≠ g)) : Tn W g n ps l := by
  refine ⟨?_, by rw [h.len, hl], hl, hrows⟩
  rcases h.own.2 with ⟨h', _⟩ | ⟨g', cap', cur, h1, h2, h3, h4, h5, h6, h7⟩
  · cases h'
  · cases h1
    refine ⟨cur, h3, fun j hj => ?_⟩
    have e : (cur.toList.take (l.length * 1))[j]? = (vals5 ps l)[j]? := by rw [h7]
    rw [List.getElem?_take, if_pos (by omega), Array.getElem?_toList, vals_get h.len (by omega)] at e
    exact e
theorem Tn.lt {W : World} {gT N : Nat} {ps : List (Option Addr × Nat)} {t : List (List Nat)} (h : Tn W gT N ps t) : gT < W.heap.size := by
  obtain ⟨cur, h1, _⟩ := h.cells
  exact lt_of_block h1
theorem Tn.cell {W : World} {gT N : Nat} {ps : List (Option Addr × Nat)} {t : List (List Nat)} (h : Tn W gT N ps t) {j : Nat} (hj : j < N) : W.cell? ⟨gT, j, none⟩ = some (.slice (psA ps j) (t.getD j []).length (psC ps j)) ∧ W.frozen? ⟨gT, j, none⟩ = false := by
  obtain ⟨cur, h1, h2⟩ := h.cells
  exact ⟨by simp [World.cell?, h1, h2 j hj], by simp [World.frozen?, h1]⟩
theorem Tn.below {W W' : World} {gT N : Nat} {ps : List (Option Addr × Nat)} {t : List (List Nat)} (h : Tn W gT N ps t) (k : Below W.heap.size W W') : Tn W' gT N ps t := by
  obtain ⟨cur, h1, h2⟩ := h.cells
  exact ⟨⟨cur, (k.block gT h.lt).trans h1, h2⟩, h.pl, h.tl, fun j hj => by obtain ⟨g, h3, h4⟩ := h.rows j hj; exact ⟨g, h3.below k, h4⟩⟩
theorem arg_kp {S : List Nat} {w w' : World} {v : Value} {g : Nat} {s : List Nat} (h : Arg w v g s) (k : Kp S w w') (hn : s ≠ [] → g ∉ S) : Arg w' v g s := by
  obtain ⟨⟨ao, c, h1, h2, h3, h4, h5⟩, hb⟩ := h
  refine ⟨⟨ao, c, h1, h2, h3, h4, ?_⟩, hb⟩
  by_cases h0 : s = []
  · subst h0; exact .inl rfl
  · exact h5.keep k (hn h0)
theorem Tn.set {W : World} {gT N : Nat} {ps : List (Option Addr × Nat)} {t : List (List Nat)} (h : Tn W gT N ps t) {i : Nat} (hi : i < N) {a : Option Addr} {c g : Nat} {r : List Nat} (hr : Arg W (.slice a r.length c) g r) (hg : r ≠ [] → g ≠ gT) : Tn (W.setCell ⟨gT, i, none⟩ (.slice a r.length c)) gT N (ps.set i (a, c)) (t.set i r) := by
  have hpl : i < ps.length := by rw [h.pl]; exact hi
  have htl : i < t.length := by rw [h.tl]; exact hi
  have hk : Kp [gT] W (W.setCell ⟨gT, i, none⟩ (.slice a r.length c)) := (Kp.refl _ W).setCell _ _ (.inl (by simp))
  refine ⟨?_, by rw [List.length_set]; exact h.pl, by rw [List.length_set]; exact h.tl, fun j hj => ?_⟩
  · obtain ⟨cur, h1, h2⟩ := h.cells
    refine ⟨cur.setIfInBounds i (.slice a r.length c), heap_setCell_same W gT i _ _ _ h1, fun j hj => ?_⟩
    rw [(ps_set hpl).1, (ps_set hpl).2, getD_set htl, Array.getElem?_setIfInBounds]
    by_cases e : i = j
    · subst e
      have : i < cur.size := (Array.getElem?_eq_some_iff.1 (h2 i hi)).1
      simp [this]
    · rw [if_neg e, if_neg e, if_neg e, if_neg e]
      exact h2 j hj
  · rw [(ps_set hpl).1, (ps_set hpl).2, getD_set htl]
    by_cases e : i = j
    · rw [if_pos e, if_pos e, if_pos e]
      exact ⟨g, arg_kp hr hk (fun h0 => by simpa using hg h0), hg⟩
    · rw [if_neg e, if_neg e, if_neg e]
      obtain ⟨g', h3, h4⟩ := h.rows j hj
      exact ⟨g', arg_kp h3 hk (fun h0 => by simpa using h4 h0), h4⟩
theorem Tn.arg {W : World} {gT N c : Nat} {ps : List (Option Addr × Nat)} {t : List (List Nat)} (h : Tn W gT N ps t) (h1 : N ≤ c) (h2 : c ≤ maxLen) : RArg W (.slice (some ⟨gT, 0, none⟩) N c) gT (psA ps) (psC ps) t :=
  ⟨⟨some ⟨gT, 0, none⟩, c, by rw [h.tl], by rw [h.tl]; exact h1, h2, (fun h => by cases h), .inr ⟨0, rfl, fun j hj => by rw [Nat.zero_add]; exact (h.cell (by rw [← h.tl]; exact hj)).1⟩⟩, fun i hi => by
    obtain ⟨g, hg, _⟩ := h.rows i (by rw [← h.tl]; exact hi)
    exact ⟨g, hg⟩⟩

end Go.Proofs.YtjdikhelabibnabGreat
