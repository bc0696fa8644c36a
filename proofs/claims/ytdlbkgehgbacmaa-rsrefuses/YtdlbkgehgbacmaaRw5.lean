/-
  Rows of rows that the call owns: append; the laws' Rows, Few, same, known.
-/
import Derived.Test.YtdlbkgehgbacmaaS5a
import Derived.Test.YtdlbkgehgbacmaaHd5
namespace Go.Proofs.Ytdlbkgehgbacmaa
open Go.RowKit

/-- Slices as values: of each its address and capacity, its bytes. -/
def vals (ps : List (Option Addr × Nat)) (l : List (List Nat)) : List Value := List.zipWith (fun p r => Value.slice p.1 r.length p.2) ps l
def psA (ps : List (Option Addr × Nat)) (i : Nat) : Option Addr := (ps.getD i (none, 0)).1
def psC (ps : List (Option Addr × Nat)) (i : Nat) : Nat := (ps.getD i (none, 0)).2
theorem vals_len {ps : List (Option Addr × Nat)} {l : List (List Nat)} (h : ps.length = l.length) : (vals ps l).length = l.length := by simp [vals, h]
theorem vals_get {ps : List (Option Addr × Nat)} {l : List (List Nat)} (h : ps.length = l.length) {i : Nat} (hi : i < l.length) : (vals ps l)[i]? = some (.slice (psA ps i) (l.getD i []).length (psC ps i)) := by
  unfold vals psA psC
  rw [List.getElem?_zipWith, List.getD_eq_getElem?_getD, List.getD_eq_getElem?_getD, List.getElem?_eq_getElem (by omega : i < ps.length), List.getElem?_eq_getElem hi]
  rfl
theorem vals_one (ps : List (Option Addr × Nat)) (l : List (List Nat)) : ∀ u ∈ vals ps l, u.oneCell' = true := by
  intro u hu
  unfold vals at hu
  rw [List.mem_iff_getElem] at hu
  obtain ⟨i, hi, rfl⟩ := hu
  rw [List.getElem_zipWith]
  rfl
theorem vals_snoc {ps : List (Option Addr × Nat)} {l : List (List Nat)} (h : ps.length = l.length) (a : Option Addr) (c : Nat) (r : List Nat) : vals (ps ++ [(a, c)]) (l ++ [r]) = vals ps l ++ [.slice a r.length c] := by
  unfold vals
  rw [List.zipWith_append h]
  rfl

/-- The values news lie at ao. -/
def SrcV (w : World) (ao : Option Addr) (g : Nat) (news : List Value) : Prop := news = [] ∨ ∃ o, ao = some ⟨g, o, none⟩ ∧ ∀ j u, news[j]? = some u → w.cell? ⟨g, o + j, none⟩ = some u

section
variable {P : Program} (w : World)
theorem run_append_vals (base : Nat) (t ty e : TypeId) (i : TypeInfo) (ht : P.underlying t = some (.slice e)) (hi : P.info? e = some i) (hz : i.zero = some (.slice none 0 0)) (hsize : i.size = 1) (hby : i.bytes = 24)
    (v : Value) (n : Nat) (xs : List Value) (hown : w.ownsRow base e 1 v n xs) (ao : Option Addr) (g m c : Nat) (news : List Value) (hl : news.length = m) (hsrc : SrcV w ao g news) (hone : ∀ u ∈ news, u.oneCell' = true) (hnil : ao = none → m = 0 ∧ c = 0)
    (hb : n + m ≤ 1000000) (hbase : base ≤ w.heap.size) :
    ∃ v' w', (Builtin.append_ #[t, t] ty #[v, .slice ao m c]).run P w = .ok v' w' ∧ w'.ownsRow base e 1 v' (n + m) (xs ++ news) ∧ w.grownBy w' v.ownBlock := by
  cases ao with
  | none =>
    obtain ⟨rfl, rfl⟩ := hnil rfl
    have hz0 : news = [] := List.eq_nil_of_length_eq_zero hl
    subst hz0
    exact ⟨v, w, run_append_owned_none (P := P) w base t ty e i 1 ht hi v n xs hown, by simpa using hown, World.grownBy.refl _ _⟩
  | some ad =>
    obtain ⟨v', w', h1, h2, h3, _⟩ := run_append_own (P := P) w base t ty e i (.slice none 0 0) 1 24 ht hi hz hsize hby rfl (by decide) v n xs hown ad m c news (by simp [hl]) (by
      intro j u hu
      rcases hsrc with rfl | ⟨o, ho, hc⟩
      · simp at hu
      · cases ho
        rw [Addr.add_lit]
        exact hc j u hu) hone (by unfold maxLen; omega) (by omega) hbase
    exact ⟨v', w', h1, h2, h3⟩

theorem wpList_append_vals {ops : Array Oper} {rest : List Oper} {o : Oper} {a : Act} {Q : Exit → Act → World → Prop} (hgd : o.guard = none) (s x : Operand) (t : TypeId)
    (ho : o.op = .call { callee := .builtin .append, args := #[s, x], argTypes := #[t, t] })
    (base : Nat) (e : TypeId) (i : TypeInfo) (ht : P.underlying t = some (.slice e)) (hi : P.info? e = some i) (hz : i.zero = some (.slice none 0 0)) (hsize : i.size = 1) (hby : i.bytes = 24)
    (v : Value) (n : Nat) (xs : List Value) (hs : a.eval s = v) (hown : w.ownsRow base e 1 v n xs) (ao : Option Addr) (g m c : Nat) (news : List Value) (hx : a.eval x = .slice ao m c) (hl : news.length = m) (hsrc : SrcV w ao g news) (hone : ∀ u ∈ news, u.oneCell' = true)
    (hnil : ao = none → m = 0 ∧ c = 0) (hb : n + m ≤ 1000000) (hbase : base ≤ w.heap.size)
    (h : ∀ v' w', w'.ownsRow base e 1 v' (n + m) (xs ++ news) → w.grownBy w' v.ownBlock → wpList P ops Q rest (a.put o.dst v') w') : wpList P ops Q (o :: rest) a w := by
  refine wpList_plain hgd fun K hK => ?_
  obtain ⟨v', w', hr, h2, h3⟩ := run_append_vals (P := P) w base t o.type e i ht hi hz hsize hby v n xs hown ao g m c news hl hsrc hone hnil hb hbase
  unfold Oper.wp
  simp [execOp, ho, resolve, invoke, builtin, hs, hx, hr, Result.andThen]
  exact hK _ _ (h v' w' h2 h3)
end

theorem infoR : (Try.prog.info? 22).map (fun i => (i.zero, i.size, i.bytes)) = some (some (.slice none 0 0), 1, 24) := by kernel_rfl

/-- The call owns these rows' slices (the bytes themselves lie anywhere). -/
structure OwnR (base : Nat) (w : World) (v : Value) (ps : List (Option Addr × Nat)) (l : List (List Nat)) : Prop where
  len : ps.length = l.length
  own : w.ownsRow base 22 1 v l.length (vals ps l)
  rows : ∀ i, i < l.length → ∃ g, Arg w (.slice (psA ps i) (l.getD i []).length (psC ps i)) g (l.getD i [])

theorem OwnR.nil (base : Nat) (w : World) : OwnR base w (.slice none 0 0) [] [] := ⟨rfl, World.ownsRow_nil _ _ _ _, fun i hi => by simp at hi⟩
theorem OwnR.shape {base : Nat} {w : World} {v : Value} {ps : List (Option Addr × Nat)} {l : List (List Nat)} (h : OwnR base w v ps l) : (v = .slice none 0 0 ∧ l = []) ∨ ∃ g cap, v = .slice (some ⟨g, 0, none⟩) l.length cap ∧ base ≤ g ∧ g < w.heap.size ∧ l.length ≤ cap ∧ cap ≤ maxLen ∧
    (∃ cur, w.heap[g]? = some (.cells cur 22 (0, 0)) ∧ l.length ≤ cur.size) ∧ ∀ j, j < l.length → w.cell? ⟨g, j, none⟩ = some (.slice (psA ps j) (l.getD j []).length (psC ps j)) := by
  rcases h.own.2 with ⟨h', h0⟩ | ⟨g, cap, cur, h1, h2, h3, h4, h5, h6, h7⟩
  · exact .inl ⟨h', List.eq_nil_of_length_eq_zero h0⟩
  · refine .inr ⟨g, cap, h1, h2, (Array.getElem?_eq_some_iff.1 h3).1, h4, h5, ⟨cur, h3, by omega⟩, fun j hj => ?_⟩
    have e : (cur.toList.take (l.length * 1))[j]? = (vals ps l)[j]? := by rw [h7]
    rw [List.getElem?_take, if_pos (by omega), Array.getElem?_toList, vals_get h.len hj] at e
    simp [World.cell?, h3, e]
theorem OwnR.arg {base : Nat} {w : World} {v : Value} {ps : List (Option Addr × Nat)} {l : List (List Nat)} (h : OwnR base w v ps l) : ∃ G, RArg w v G (psA ps) (psC ps) l ∧ base ≤ G := by
  rcases h.shape with ⟨rfl, rfl⟩ | ⟨g, cap, rfl, h1, h2, h3, h4, _, h5⟩
  · exact ⟨base, ⟨⟨none, 0, rfl, by simp, by simp, fun _ => rfl, .inl rfl⟩, h.rows⟩, Nat.le_refl _⟩
  · exact ⟨g, ⟨⟨some ⟨g, 0, none⟩, cap, rfl, h3, h4, (fun h => by cases h), .inr ⟨0, rfl, fun j hj => by rw [Nat.zero_add]; exact h5 j hj⟩⟩, h.rows⟩, h1⟩
theorem OwnR.below {base : Nat} {w w' : World} {v : Value} {ps : List (Option Addr × Nat)} {l : List (List Nat)} (h : OwnR base w v ps l) (k : Below w.heap.size w w') : OwnR base w' v ps l := by
  refine ⟨h.len, ⟨h.own.1, ?_⟩, fun i hi => by obtain ⟨g, hg⟩ := h.rows i hi; exact ⟨g, hg.below k⟩⟩
  rcases h.own.2 with h' | ⟨g, cap, cur, h1, h2, h3, h4⟩
  · exact .inl h'
  · exact .inr ⟨g, cap, cur, h1, h2, (k.block g (lt_of_block h3)).trans h3, h4⟩
theorem getD_snoc {l : List (List Nat)} {r : List Nat} {i : Nat} (hi : i < l.length) : (l ++ [r]).getD i [] = l.getD i [] := by
  rw [List.getD_eq_getElem?_getD, List.getD_eq_getElem?_getD, List.getElem?_append_left hi]
theorem getD_last {l : List (List Nat)} {r : List Nat} : (l ++ [r]).getD l.length [] = r := by
  rw [List.getD_eq_getElem?_getD, List.getElem?_append_right (Nat.le_refl _)]
  simp
theorem ps_snoc {ps : List (Option Addr × Nat)} {a : Option Addr} {c i : Nat} (hi : i < ps.length) : psA (ps ++ [(a, c)]) i = psA ps i ∧ psC (ps ++ [(a, c)]) i = psC ps i := by
  unfold psA psC
  rw [List.getD_eq_getElem?_getD, List.getD_eq_getElem?_getD, List.getElem?_append_left hi]
  exact ⟨rfl, rfl⟩
theorem ps_last {ps : List (Option Addr × Nat)} {a : Option Addr} {c n : Nat} (hn : n = ps.length) : psA (ps ++ [(a, c)]) n = a ∧ psC (ps ++ [(a, c)]) n = c := by
  subst hn
  unfold psA psC
  rw [List.getD_eq_getElem?_getD, List.getElem?_append_right (Nat.le_refl _)]
  simp
/-- One row more. -/
theorem OwnR.snoc {base : Nat} {w w' : World} {v v' : Value} {ps : List (Option Addr × Nat)} {l : List (List Nat)} {a : Option Addr} {c : Nat} {r : List Nat} {n : Nat} (h : OwnR base w v ps l)
    (ho : w'.ownsRow base 22 1 v' (l.length + 1) (vals ps l ++ [.slice a n c])) (hrows : ∀ i, i < l.length → ∃ g, Arg w' (.slice (psA ps i) (l.getD i []).length (psC ps i)) g (l.getD i [])) (hn : r.length = n)
    (hr : ∃ g, Arg w' (.slice a n c) g r) : OwnR base w' v' (ps ++ [(a, c)]) (l ++ [r]) := by
  refine ⟨by simp [h.len], ?_, fun i hi => ?_⟩
  · rw [vals_snoc h.len, hn, List.length_append]
    exact ho
  · by_cases e : i < l.length
    · rw [getD_snoc e, (ps_snoc (by rw [h.len]; exact e)).1, (ps_snoc (by rw [h.len]; exact e)).2]
      exact hrows i e
    · have : i = l.length := by simp at hi; omega
      subst this
      rw [getD_last, (ps_last h.len.symm).1, (ps_last h.len.symm).2, hn]
      exact hr
theorem RArg.src {w : World} {ao : Option Addr} {m c G : Nat} {A : Nat → Option Addr} {C : Nat → Nat} {l : List (List Nat)} (h : RArg w (.slice ao m c) G A C l) : ∃ ps : List (Option Addr × Nat), ps.length = l.length ∧ SrcV w ao G (vals ps l) ∧ ∀ i, i < l.length → psA ps i = A i ∧ psC ps i = C i := by
  refine ⟨(List.range l.length).map (fun i => (A i, C i)), by simp, ?_, fun i hi => ?_⟩
  · obtain ⟨⟨ao', c', h1, h2, h3, h4, h5⟩, _⟩ := h
    cases h1
    rcases h5 with h0 | ⟨o, rfl, hc⟩
    · left
      exact List.eq_nil_of_length_eq_zero (by rw [vals_len (by simp), h0])
    · refine .inr ⟨o, rfl, fun j u hu => ?_⟩
      have hj : j < l.length := by
        have := (List.getElem?_eq_some_iff.1 hu).1
        rwa [vals_len (by simp)] at this
      rw [vals_get (by simp) hj] at hu
      cases hu
      rw [hc j hj]
      simp [psA, psC, List.getD_eq_getElem?_getD, hj]
  · simp [psA, psC, List.getD_eq_getElem?_getD, hi]
/-- One slice that was built. -/
theorem one_src (w : World) (a : Option Addr) (n c : Nat) : SrcV (w.alloc (.cells #[.slice a n c] 22)) (some ⟨w.heap.size, 0, none⟩) w.heap.size [.slice a n c] := by
  refine .inr ⟨0, rfl, fun j u hu => ?_⟩
  obtain ⟨hj, hu⟩ := List.getElem?_eq_some_iff.1 hu
  have : j = 0 := by simpa using hj
  subst this
  simp at hu
  rw [← hu]
  exact (cell_new' w _ _).1

theorem below_grown {n : Nat} {a w w' : World} {row : Option Nat} (h : Below n a w) (hg : w.grownBy w' row) (hn : n ≤ w.heap.size) (hr : ∀ k, row = some k → n ≤ k) : Below n a w' :=
  ⟨hg.os.trans h.os, hg.tape.trans h.tape, hg.output.trans h.output, Nat.le_trans h.size hg.size, fun k hk => (hg.block k (by omega) (fun e => by have := hr k e.symm; omega)).trans (h.block k hk)⟩
theorem OwnR.row {base : Nat} {w : World} {v : Value} {ps : List (Option Addr × Nat)} {l : List (List Nat)} (h : OwnR base w v ps l) (k : Nat) (hk : v.ownBlock = some k) : base ≤ k := by
  rcases h.shape with ⟨h1, _⟩ | ⟨q, cq, h1, h2, _⟩
  · rw [h1] at hk; cases hk
  · rw [h1] at hk; cases hk; exact h2
theorem OwnR.mono {base base' : Nat} {w : World} {v : Value} {ps : List (Option Addr × Nat)} {l : List (List Nat)} (h : OwnR base w v ps l) (hb : base' ≤ base) : OwnR base' w v ps l := by
  refine ⟨h.len, ⟨h.own.1, ?_⟩, h.rows⟩
  rcases h.own.2 with h' | ⟨g, cap, cur, h1, h2, h3⟩
  · exact .inl h'
  · exact .inr ⟨g, cap, cur, h1, by omega, h3⟩
theorem Blk.part {w : World} {g a n c : Nat} {s : List Nat} (h : Blk w g s) (hb : Bs s) (h1 : a + n ≤ s.length) (h2 : n ≤ c) (h3 : c ≤ maxLen) : ((s.drop a).take n).length = n ∧ Arg w (.slice (some ⟨g, a, none⟩) n c) g ((s.drop a).take n) := by
  have hl : ((s.drop a).take n).length = n := by simp; omega
  refine ⟨hl, ⟨⟨some ⟨g, a, none⟩, c, by rw [hl], by rw [hl]; exact h2, h3, (fun h => by cases h), h.row⟩, fun k => ?_⟩⟩
  rw [cf_take]
  split
  · rw [cf_drop]; exact hb _
  · omega

set_option maxRecDepth 100000 in
set_option maxHeartbeats 4000000 in
theorem rows_any (v : Value) (gb : Nat) (b : List Nat) (n size : Nat) (hn : n ≤ 20) (hs : size ≤ 20) (w : World) (hA : Arg w v gb b) :
    Calls Try.prog 11 #[v, .int .i64 (n : Int), .int .i64 (size : Int)] w fun e w' => ∃ v' ps l, e = .returned v' ∧ OwnR w.heap.size w' v' ps l ∧ l.length = n ∧ (∀ i, i < n → (l.getD i []).length = size) ∧ Below w.heap.size w w' := by
  have HA := hide hA
  obtain ⟨ao, c, hv, _⟩ := hA.ex
  subst hv
  clear hA
  obtain ⟨i0, hi0, hz0, hz1, hz2⟩ := info_parts infoR
  have HI := hide hi0
  clear hi0
  obtain ⟨T, hT⟩ : ∃ T, n * size = T := ⟨_, rfl⟩
  have hm2 : T ≤ 400 := by rw [← hT]; exact Nat.le_trans (Nat.mul_le_mul hn hs) (by omega)
  have hm : (n : Int) * (size : Int) = (T : Int) := by rw [← hT]; simp
  have hm1 : IntKind.i64.wrap ((n : Int) * (size : Int)) = (T : Int) := by rw [hm]; exact IntWalk.i64_in _ ⟨by omega, by omega⟩
  have HT := hide hT
  clear hT
  go_enter Try.func11, Try.ntmps11
  go_wp2_with fail
  refine (data_any _ gb b T (by omega) w (unhide HA)).mono ?_
  rintro e w1 ⟨d, rfl, hdl, hdb, hB, hk⟩
  have HB := hide hB
  have HDB := hide hdb
  have HDL := hide hdl
  have HK1 := hide hk
  have hzk := hk.size
  clear hB hdb hdl hk hm hm1
  go_wp2_with fail
  go_loopw [7, 9] (fun v p wr => ∃ (i : Nat) (ps : List (Option Addr × Nat)) (l : List (List Nat)) (v0 : Value), v = v0 ∧ p = .int .i64 i ∧ i ≤ n ∧ OwnR w1.heap.size wr v ps l ∧ l.length = i ∧ (∀ j, j < i → (l.getD j []).length = size ∧ Arg w1 (.slice (psA ps j) (l.getD j []).length (psC ps j)) w.heap.size (l.getD j [])) ∧ Below w1.heap.size w1 wr) (fun _ p _ => n - (intOf p).toNat)
  case atStart => exact ⟨0, [], [], _, rfl, rfl, by omega, OwnR.nil _ _, rfl, by omega, Below.refl _ _⟩
  case round =>
    obtain ⟨i, ps, l, v0, rfl, rfl, hi, hO, hl, hsz, hK⟩ := hrel
    have HO := hide hO
    have HL := hide hl
    have HSZ := hide hsz
    have HK := hide hK
    have hzr := hK.size
    have HV : Hid (∃ vo vc, u7 = .slice vo i vc) := by
      rcases hO.shape with ⟨h1, h2⟩ | ⟨q, cq, h1, _⟩
      · exact ⟨none, 0, by rw [h1, ← hl, h2]; rfl⟩
      · exact ⟨_, cq, by rw [← hl]; exact h1⟩
    obtain ⟨vo, vc, hv⟩ := unhide HV
    subst hv
    clear hO hl hsz hK HV
    by_cases hlt : i < n
    · have hi1 : (i : Int) < (n : Int) := by omega
      obtain ⟨a, ha⟩ : ∃ a, i * size = a := ⟨_, rfl⟩
      obtain ⟨b', hb'⟩ : ∃ b', (i + 1) * size = b' := ⟨_, rfl⟩
      have hab : b' = a + size := by rw [← hb', ← ha, Nat.succ_mul]
      have hbT : b' ≤ T := by rw [← hb', ← unhide HT]; exact Nat.mul_le_mul_right _ hlt
      have m1 : (i : Int) * (size : Int) = (a : Int) := by rw [← ha]; simp
      have m2 : IntKind.i64.wrap ((i : Int) * (size : Int)) = (a : Int) := by rw [m1]; exact IntWalk.i64_in _ ⟨by omega, by omega⟩
      have m3 : ((i : Int) + 1) * (size : Int) = (b' : Int) := by rw [← hb']; simp
      have m4 : IntKind.i64.wrap (((i : Int) + 1) * (size : Int)) = (b' : Int) := by rw [m3]; exact IntWalk.i64_in _ ⟨by omega, by omega⟩
      have m5 : IntKind.i64.wrap ((i : Int) + 1) = (i : Int) + 1 := IntWalk.i64_in _ ⟨by omega, by omega⟩
      have l1 : (a : Int) ≤ (b' : Int) := by omega
      have l2 : (b' : Int) ≤ (T : Int) := by omega
      clear ha hb'
      obtain ⟨off, hoff, hoffa⟩ : ∃ off, (if T = a then (some ⟨w.heap.size, 0, none⟩ : Option Addr) else some ⟨w.heap.size, a, none⟩) = some ⟨w.heap.size, off, none⟩ ∧ (size = 0 ∨ off = a) := by
        by_cases e : T = a
        · exact ⟨0, by rw [if_pos e], .inl (by omega)⟩
        · exact ⟨a, by rw [if_neg e], .inr rfl⟩
      obtain ⟨r, hrl, hrA⟩ : ∃ r, r.length = size ∧ Arg w1 (.slice (some ⟨w.heap.size, off, none⟩) size (T - a)) w.heap.size r := by
        rcases hoffa with h0 | h0
        · exact ⟨[], by rw [h0]; rfl, ⟨⟨_, _, by rw [h0]; rfl, by simp, by unfold maxLen; omega, (fun h => by cases h), .inl rfl⟩, Bs.nil⟩⟩
        · rw [h0]
          exact ⟨_, (unhide HB).part (a := a) (n := size) (c := T - a) (unhide HDB) (by rw [unhide HDL]; omega) (by omega) (by unfold maxLen; omega)⟩
      clear hoffa
      have HRA := hide hrA
      have HRL := hide hrl
      clear hrA hrl
      have hka : Below wr.heap.size wr (wr.alloc (.cells #[.slice (some ⟨w.heap.size, off, none⟩) size (T - a)] 22)) := (Below.refl _ _).alloc (Nat.le_refl _) _
      have HO2 := hide ((unhide HO).below hka)
      have HOW : Hid ((wr.alloc (.cells #[.slice (some ⟨w.heap.size, off, none⟩) size (T - a)] 22)).ownsRow w1.heap.size 22 1 (.slice vo i vc) i (vals ps l)) := by
        have h := (unhide HO2).own
        rwa [unhide HL] at h
      have HKA := hide ((unhide HK).trans (hka.mono hzr))
      clear hka
      go_wp2_with (at_builtin; refine wpList_append_vals _ rfl _ _ 23 rfl w1.heap.size 22 i0 Try.underlying23 (unhide HI) hz0 hz1 hz2 (.slice vo i vc) i (vals ps l) rfl (unhide HOW) (some ⟨wr.heap.size, 0, none⟩) wr.heap.size 1 1 [.slice (some ⟨w.heap.size, off, none⟩) size (T - a)] rfl rfl (one_src _ _ _ _) (by simp [Value.oneCell']) (fun h => by cases h) (by omega) (by simp; omega) ?_)
      intro v2 w2 ho hg
      have HB2 := hide (below_grown (unhide HKA) hg (by simp; omega) (unhide HO2).row)
      have HO3 : Hid (OwnR w1.heap.size w2 v2 (ps ++ [(some ⟨w.heap.size, off, none⟩, T - a)]) (l ++ [r])) := by
        refine (unhide HO2).snoc (n := size) (by rw [unhide HL]; exact ho) (fun j hj => ⟨w.heap.size, ((unhide HSZ) j (by rw [← unhide HL]; exact hj)).2.below (unhide HB2)⟩) (unhide HRL) ⟨w.heap.size, (unhide HRA).below (unhide HB2)⟩
      have HSZ2 : Hid (∀ j, j < i + 1 → ((l ++ [r]).getD j []).length = size ∧ Arg w1 (.slice (psA (ps ++ [(some ⟨w.heap.size, off, none⟩, T - a)]) j) ((l ++ [r]).getD j []).length (psC (ps ++ [(some ⟨w.heap.size, off, none⟩, T - a)]) j)) w.heap.size ((l ++ [r]).getD j [])) := fun j hj => by
        have hpl : ps.length = i := by rw [(unhide HO).len, unhide HL]
        by_cases e : j < i
        · rw [getD_snoc (by rw [unhide HL]; exact e), (ps_snoc (by omega)).1, (ps_snoc (by omega)).2]
          exact unhide HSZ j e
        · have e2 : j = l.length := by rw [unhide HL]; omega
          rw [e2, getD_last, (ps_last (by rw [hpl, unhide HL])).1, (ps_last (by rw [hpl, unhide HL])).2, unhide HRL]
          exact ⟨rfl, unhide HRA⟩
      clear ho hg
      go_wp2_with fail
      go_roundw
      case rel => exact ⟨i + 1, _, _, _, rfl, by go_num, by omega, unhide HO3, by simp [unhide HL], unhide HSZ2, unhide HB2⟩
      case measure => simp [intOf]; omega
    · have hi2 : i = n := by omega
      subst hi2
      go_wp2
      go_ret
      exact ⟨_, ps, l, rfl, (unhide HO).mono hzk, unhide HL, fun j hj => (unhide HSZ j hj).1, (unhide HK1).trans ((unhide HK).mono hzk)⟩

end Go.Proofs.Ytdlbkgehgbacmaa
