/-
  Rows of rows that the call owns: append; the laws' Rows, Few, same, known.
-/
import Derived.Test.YtjdikhelabibnabGreatB6k
import Derived.Test.YtjdikhelabibnabGreatS5a
import Derived.Test.YtjdikhelabibnabGreatHd5
namespace Go.Proofs.YtjdikhelabibnabGreat
open Go.RowKit

/-- Slices as values: of each its address and capacity, its bytes. -/
def vals5 (ps : List (Option Addr × Nat)) (l : List (List Nat)) : List Value := List.zipWith (fun p r => Value.slice p.1 r.length p.2) ps l
def psA (ps : List (Option Addr × Nat)) (i : Nat) : Option Addr := (ps.getD i (none, 0)).1
def psC (ps : List (Option Addr × Nat)) (i : Nat) : Nat := (ps.getD i (none, 0)).2
theorem vals_len {ps : List (Option Addr × Nat)} {l : List (List Nat)} (h : ps.length = l.length) : (vals5 ps l).length = l.length := by simp [vals5, h]
theorem vals_get {ps : List (Option Addr × Nat)} {l : List (List Nat)} (h : ps.length = l.length) {i : Nat} (hi : i < l.length) : (vals5 ps l)[i]? = some (.slice (psA ps i) (l.getD i []).length (psC ps i)) := by
  unfold vals5 psA psC
  rw [List.getElem?_zipWith, List.getD_eq_getElem?_getD, List.getD_eq_getElem?_getD, List.getElem?_eq_getElem (by omega : i < ps.length), List.getElem?_eq_getElem hi]
  rfl
theorem vals_one (ps : List (Option Addr × Nat)) (l : List (List Nat)) : ∀ u ∈ vals5 ps l, u.oneCell' = true := by
  intro u hu
  unfold vals5 at hu
  rw [List.mem_iff_getElem] at hu
  obtain ⟨i, hi, rfl⟩ := hu
  rw [List.getElem_zipWith]
  rfl
theorem vals_snoc {ps : List (Option Addr × Nat)} {l : List (List Nat)} (h : ps.length = l.length) (a : Option Addr) (c : Nat) (r : List Nat) : vals5 (ps ++ [(a, c)]) (l ++ [r]) = vals5 ps l ++ [.slice a r.length c] := by
  unfold vals5
  rw [List.zipWith_append h]
  rfl

/-- The values news lie at ao. -/
def SrcV (w : World) (ao : Option Addr) (g : Nat) (news : List Value) : Prop := news = [] ∨ ∃ o, ao = some ⟨g, o, none⟩ ∧ ∀ j u, news[j]? = some u → w.cell? ⟨g, o + j, none⟩ = some u

section
variable {P : Program} (w : World)
theorem run_append_vals (base : Nat) (t ty e : TypeId) (i : TypeInfo) (ht : P.underlying t = some (.slice e)) (hi : P.info? e = some i) (hz : i.zero = some (.slice none 0 0)) (hsize : i.size = 1) (hby : i.bytes = 24)
    (v : Value) (n : Nat) (xs : List Value) (hown : w.ownsRow base e 1 v n xs) (ao : Option Addr) (g m c : Nat) (news : List Value) (hl : news.length = m) (hsrc : SrcV w ao g news) (hone : ∀ u ∈ news, u.oneCell' = true) (hnil : ao = none → m = 0 ∧ c = 0)
    (hb : n + m ≤ 1000000) (hbase : base ≤ w.heap.size) :
    ∃ v' w', (Builtin.append_ #[t, t] ty #[v, .slice ao m c]).run P w = .ok v' w' ∧ w'.ownsRow base e 1 v' (n + m) (xs ++ news) ∧ w.grownBy w' v.ownBlock := by
  cases ao with
  | none =>
    obtain ⟨rfl, rfl⟩ := hnil rfl
    have hz0 : news = [] := List.eq_nil_of_length_eq_zero hl
    subst hz0
    exact ⟨v, w, run_append_owned_none (P := P) w base t ty e i 1 ht hi v n xs hown, by simpa using hown, World.grownBy.refl _ _⟩
  | some ad =>
    obtain ⟨v', w', h1, h2, h3, _⟩ := run_append_own (P := P) w base t ty e i (.slice none 0 0) 1 24 ht hi hz hsize hby rfl (by decide) v n xs hown ad m c news (by simp [hl]) (by
      intro j u hu
      rcases hsrc with rfl | ⟨o, ho, hc⟩
      · simp at hu
      · cases ho
        rw [Addr.add_lit]
        exact hc j u hu) hone (by unfold maxLen; omega) (by omega) hbase
    exact ⟨v', w', h1, h2, h3⟩

theorem wpList_append_vals {ops : Array Oper} {rest : List Oper} {o : Oper} {a : Act} {Q : Exit → Act → World → Prop} (hgd : o.guard = none) (s x : Operand) (t : TypeId)
    (ho : o.op = .call { callee := .builtin .append, args := #[s, x], argTypes := #[t, t] })
    (base : Nat) (e : TypeId) (i : TypeInfo) (ht : P.underlying t = some (.slice e)) (hi : P.info? e = some i) (hz : i.zero = some (.slice none 0 0)) (hsize : i.size = 1) (hby : i.bytes = 24)
    (v : Value) (n : Nat) (xs : List Value) (hs : a.eval s = v) (hown : w.ownsRow base e 1 v n xs) (ao : Option Addr) (g m c : Nat) (news : List Value) (hx : a.eval x = .slice ao m c) (hl : news.length = m) (hsrc : SrcV w ao g news) (hone : ∀ u ∈ news, u.oneCell' = true)
    (hnil : ao = none → m = 0 ∧ c = 0) (hb : n + m ≤ 1000000) (hbase : base ≤ w.heap.size)
    (h : ∀ v' w', w'.ownsRow base e 1 v' (n + m) (xs ++ news) → w.grownBy w' v.ownBlock → wpList P ops Q rest (a.put o.dst v') w') : wpList P ops Q (o :: rest) a w := by
  refine wpList_plain hgd fun K hK => ?_
  obtain ⟨v', w', hr, h2, h3⟩ := run_append_vals (P := P) w base t o.type e i ht hi hz hsize hby v n xs hown ao g m c news hl hsrc hone hnil hb hbase
  unfold Oper.wp
  simp [execOp, ho, resolve, invoke, builtin, hs, hx, hr, Result.andThen]
  exact hK _ _ (h v' w' h2 h3)
end

theorem infoR : (Tryz.prog.info? 33).map (fun i => (i.zero, i.size, i.bytes)) = some (some (.slice none 0 0), 1, 24) := by kernel_rfl

/-- The call owns these rows' slices (the bytes themselves lie anywhere). -/
structure OwnR (base : Nat) (w : World) (v : Value) (ps : List (Option Addr × Nat)) (l : List (List Nat)) : Prop where
  len : ps.length = l.length
  own : w.ownsRow base 33 1 v l.length (vals5 ps l)
  rows : ∀ i, i < l.length → ∃ g, Arg w (.slice (psA ps i) (l.getD i []).length (psC ps i)) g (l.getD i [])

theorem OwnR.nil (base : Nat) (w : World) : OwnR base w (.slice none 0 0) [] [] := ⟨rfl, World.ownsRow_nil _ _ _ _, fun i hi => by simp at hi⟩
theorem OwnR.shape {base : Nat} {w : World} {v : Value} {ps : List (Option Addr × Nat)} {l : List (List Nat)} (h : OwnR base w v ps l) : (v = .slice none 0 0 ∧ l = []) ∨ ∃ g cap, v = .slice (some ⟨g, 0, none⟩) l.length cap ∧ base ≤ g ∧ g < w.heap.size ∧ l.length ≤ cap ∧ cap ≤ maxLen ∧
    (∃ cur, w.heap[g]? = some (.cells cur 33 (0, 0)) ∧ l.length ≤ cur.size) ∧ ∀ j, j < l.length → w.cell? ⟨g, j, none⟩ = some (.slice (psA ps j) (l.getD j []).length (psC ps j)) := by
  rcases h.own.2 with ⟨h', h0⟩ | ⟨g, cap, cur, h1, h2, h3, h4, h5, h6, h7⟩
  · exact .inl ⟨h', List.eq_nil_of_length_eq_zero h0⟩
  · refine .inr ⟨g, cap, h1, h2, (Array.getElem?_eq_some_iff.1 h3).1, h4, h5, ⟨cur, h3, by omega⟩, fun j hj => ?_⟩
    have e : (cur.toList.take (l.length * 1))[j]? = (vals5 ps l)[j]? := by rw [h7]
    rw [List.getElem?_take, if_pos (by omega), Array.getElem?_toList, vals_get h.len hj] at e
    simp [World.cell?, h3, e]
theorem OwnR.arg {base : Nat} {w : World} {v : Value} {ps : List (Option Addr × Nat)} {l : List (List Nat)} (h : OwnR base w v ps l) : ∃ G, RArg w v G (psA ps) (psC ps) l ∧ base ≤ G := by
  rcases h.shape with ⟨rfl, rfl⟩ | ⟨g, cap, rfl, h1, h2, h3, h4, _, h5⟩
  · exact ⟨base, ⟨⟨none, 0, rfl, by simp, by simp, fun _ => rfl, .inl rfl⟩, h.rows⟩, Nat.le_refl _⟩
  · exact ⟨g, ⟨⟨some ⟨g, 0, none⟩, cap, rfl, h3, h4, (fun h => by cases h), .inr ⟨0, rfl, fun j hj => by rw [Nat.zero_add]; exact h5 j hj⟩⟩, h.rows⟩, h1⟩
theorem OwnR.below {base : Nat} {w w' : World} {v : Value} {ps : List (Option Addr × Nat)} {l : List (List Nat)} (h : OwnR base w v ps l) (k : Below w.heap.size w w') : OwnR base w' v ps l := by
  refine ⟨h.len, ⟨h.own.1, ?_⟩, fun i hi => by obtain ⟨g, hg⟩ := h.rows i hi; exact ⟨g, hg.below k⟩⟩
  rcases h.own.2 with h' | ⟨g, cap, cur, h1, h2, h3, h4⟩
  · exact .inl h'
  · exact .inr ⟨g, cap, cur, h1, h2, (k.block g (lt_of_block h3)).trans h3, h4⟩
theorem getD_snoc {l : List (List Nat)} {r : List Nat} {i : Nat} (hi : i < l.length) : (l ++ [r]).getD i [] = l.getD i [] := by
  rw [List.getD_eq_getElem?_getD, List.getD_eq_getElem?_getD, List.getElem?_append_left hi]
theorem getD_last {l : List (List Nat)} {r : List Nat} : (l ++ [r]).getD l.length [] = r := by
  rw [List.getD_eq_getElem?_getD, List.getElem?_append_right (Nat.le_refl _)]
  simp
theorem ps_snoc {ps : List (Option Addr × Nat)} {a : Option Addr} {c i : Nat} (hi : i < ps.length) : psA (ps ++ [(a, c)]) i = psA ps i ∧ psC (ps ++ [(a, c)]) i = psC ps i := by
  unfold psA psC
  rw [List.getD_eq_getElem?_getD, List.getD_eq_getElem?_getD, List.getElem?_append_left hi]
  exact ⟨rfl, rfl⟩
theorem ps_last {ps : List (Option Addr × Nat)} {a : Option Addr} {c n : Nat} (hn : n = ps.length) : psA (ps ++ [(a, c)]) n = a ∧ psC (ps ++ [(a, c)]) n = c := by
  subst hn
  unfold psA psC
  rw [List.getD_eq_getElem?_getD, List.getElem?_append_right (Nat.le_refl _)]
  simp
/-- One row more. -/
theorem OwnR.snoc {base : Nat} {w w' : World} {v v' : Value} {ps : List (Option Addr × Nat)} {l : List (List Nat)} {a : Option Addr} {c : Nat} {r : List Nat} {n : Nat} (h : OwnR base w v ps l)
    (ho : w'.ownsRow base 33 1 v' (l.length + 1) (vals5 ps l ++ [.slice a n c])) (hrows : ∀ i, i < l.length → ∃ g, Arg w' (.slice (psA ps i) (l.getD i []).length (psC ps i)) g (l.getD i [])) (hn : r.length = n)
    (hr : ∃ g, Arg w' (.slice a n c) g r) : OwnR base w' v' (ps ++ [(a, c)]) (l ++ [r]) := by
  refine ⟨by simp [h.len], ?_, fun i hi => ?_⟩
  · rw [vals_snoc h.len, hn, List.length_append]
    exact ho
  · by_cases e : i < l.length
    · rw [getD_snoc e, (ps_snoc (by rw [h.len]; exact e)).1, (ps_snoc (by rw [h.len]; exact e)).2]
      exact hrows i e
    · have : i = l.length := by simp at hi; omega
      subst this
      rw [getD_last, (ps_last h.len.symm).1, (ps_last h.len.symm).2, hn]
      exact hr
theorem RArg.src {w : World} {ao : Option Addr} {m c G : Nat} {A : Nat → Option Addr} {C : Nat → Nat} {l : List (List Nat)} (h : RArg w (.slice ao m c) G A C l) : ∃ ps : List (Option Addr × Nat), ps.length = l.length ∧ SrcV w ao G (vals5 ps l) ∧ ∀ i, i < l.length → psA ps i = A i ∧ psC ps i = C i := by
  refine ⟨(List.range l.length).map (fun i => (A i, C i)), by simp, ?_, fun i hi => ?_⟩
  · obtain ⟨⟨ao', c', h1, h2, h3, h4, h5⟩, _⟩ := h
    cases h1
    rcases h5 with h0 | ⟨o, rfl, hc⟩
    · left
      exact List.eq_nil_of_length_eq_zero (by rw [vals_len (by simp), h0])
    · refine .inr ⟨o, rfl, fun j u hu => ?_⟩
      have hj : j < l.length := by
        have := (List.getElem?_eq_some_iff.1 hu).1
        rwa [vals_len (by simp)] at this
      rw [vals_get (by simp) hj] at hu
      cases hu
      rw [hc j hj]
      simp [psA, psC, List.getD_eq_getElem?_getD, hj]
  · simp [psA, psC, List.getD_eq_getElem?_getD, hi]
/-- One slice that was built. -/
theorem one_src (w : World) (a : Option Addr) (n c : Nat) : SrcV (w.alloc (.cells #[.slice a n c] 33)) (some ⟨w.heap.size, 0, none⟩) w.heap.size [.slice a n c] := by
  refine .inr ⟨0, rfl, fun j u hu => ?_⟩
  obtain ⟨hj, hu⟩ := List.getElem?_eq_some_iff.1 hu
  have : j = 0 := by simpa using hj
  subst this
  simp at hu
  rw [← hu]
  exact (cell_new' w _ _).1

theorem OwnR.row {base : Nat} {w : World} {v : Value} {ps : List (Option Addr × Nat)} {l : List (List Nat)} (h : OwnR base w v ps l) (k : Nat) (hk : v.ownBlock = some k) : base ≤ k := by
  rcases h.shape with ⟨h1, _⟩ | ⟨q, cq, h1, h2, _⟩
  · rw [h1] at hk; cases hk
  · rw [h1] at hk; cases hk; exact h2
theorem OwnR.mono {base base' : Nat} {w : World} {v : Value} {ps : List (Option Addr × Nat)} {l : List (List Nat)} (h : OwnR base w v ps l) (hb : base' ≤ base) : OwnR base' w v ps l := by
  refine ⟨h.len, ⟨h.own.1, ?_⟩, h.rows⟩
  rcases h.own.2 with h' | ⟨g, cap, cur, h1, h2, h3⟩
  · exact .inl h'
  · exact .inr ⟨g, cap, cur, h1, by omega, h3⟩
theorem Blk.part {w : World} {g a n c : Nat} {s : List Nat} (h : Blk w g s) (hb : Bs s) (h1 : a + n ≤ s.length) (h2 : n ≤ c) (h3 : c ≤ maxLen) : ((s.drop a).take n).length = n ∧ Arg w (.slice (some ⟨g, a, none⟩) n c) g ((s.drop a).take n) := by
  have hl : ((s.drop a).take n).length = n := by simp; omega
  refine ⟨hl, ⟨⟨some ⟨g, a, none⟩, c, by rw [hl], by rw [hl]; exact h2, h3, (fun h => by cases h), h.row⟩, fun k => ?_⟩⟩
  rw [cf_take]
  split
  · rw [cf_drop]; exact hb _
  · omega

end Go.Proofs.YtjdikhelabibnabGreat
