/-
  
-/
import Derived.Test.YtjdikhelabibnaaGreatMag
import Derived.Test.YtjdikhelabibnaaGreatMah
import Derived.Test.YtjdikhelabibnaaGreatMai
namespace Go.Proofs.YtjdikhelabibnaaGreat
open Go.RowKit
def vals5 (ps : List (Option Addr × Nat)) (l : List (List Nat)) : List Value := List.zipWith (fun p r => Value.slice p.1 r.length p.2) ps l
def psA (ps : List (Option Addr × Nat)) (i : Nat) : Option Addr := (ps.getD i (none, 0)).1
def psC (ps : List (Option Addr × Nat)) (i : Nat) : Nat := (ps.getD i (none, 0)).2
theorem vals_get {ps : List (Option Addr × Nat)} {l : List (List Nat)} (h : ps.length = l.length) {i : Nat} (hi : i < l.length) : (vals5 ps l)[i]? = some (.slice (psA ps i) (l.getD i []).length (psC ps i)) := by
 unfold vals5 psA psC
 rw [List.getElem?_zipWith, List.getD_eq_getElem?_getD, List.getD_eq_getElem?_getD, List.getElem?_eq_getElem (by omega : i < ps.length), List.getElem?_eq_getElem hi]
 rfl
theorem vals_snoc {ps : List (Option Addr × Nat)} {l : List (List Nat)} (h : ps.length = l.length) (a : Option Addr) (c : Nat) (r : List Nat) : vals5 (ps ++ [(a, c)]) (l ++ [r]) = vals5 ps l ++ [.slice a r.length c] := by
 unfold vals5
 rw [List.zipWith_append h]
 rfl
def SrcV (w : World) (ao : Option Addr) (g : Nat) (news : List Value) : Prop := news = [] ∨ ∃ o, ao = some ⟨g, o, none⟩ ∧ ∀ j u, news[j]? = some u → w.cell? ⟨g, o + j, none⟩ = some u
section
variable {P : Program} (w : World)
theorem run_append_vals (base : Nat) (t ty e : TypeId) (i : TypeInfo) (ht : P.underlying t = some (.slice e)) (hi : P.info? e = some i) (hz : i.zero = some (.slice none 0 0)) (hsize : i.size = 1) (hby : i.bytes = 24)
  (v : Value) (n : Nat) (xs : List Value) (hown : w.ownsRow base e 1 v n xs) (ao : Option Addr) (g m c : Nat) (news : List Value) (hl : news.length = m) (hsrc : SrcV w ao g news) (hone : ∀ u ∈ news, u.oneCell' = true) (hnil : ao = none → m = 0 ∧ c = 0)
  (hb : n + m ≤ 1000000) (hbase : base ≤ w.heap.size) :
  ∃ v' w', (Builtin.append_ #[t, t] ty #[v, .slice ao m c]).run P w = .ok v' w' ∧ w'.ownsRow base e 1 v' (n + m) (xs ++ news) ∧ w.grownBy w' v.ownBlock := by
 cases ao with
 | none =>
  obtain ⟨rfl, rfl⟩ := hnil rfl
  have hz0 : news = [] := List.eq_nil_of_length_eq_zero hl
  subst hz0
  exact ⟨v, w, run_append_owned_none (P := P) w base t ty e i 1 ht hi v n xs hown, by simpa using hown, World.grownBy.refl _ _⟩
 | some ad =>
  obtain ⟨v', w', h1, h2, h3, _⟩ := run_append_own (P := P) w base t ty e i (.slice none 0 0) 1 24 ht hi hz hsize hby rfl (by decide) v n xs hown ad m c news (by simp [hl]) (by
   intro j u hu
   rcases hsrc with rfl | ⟨o, ho, hc⟩
   ·simp at hu
   cases ho
   rw [Addr.add_lit]
   exact hc j u hu) hone (by unfold maxLen; omega) (by omega) hbase
  exact ⟨v', w', h1, h2, h3⟩
theorem wpList_append_vals {ops : Array Oper} {rest : List Oper} {o : Oper} {a : Act} {Q : Exit → Act → World → Prop} (hgd : o.guard = none) (s x : Operand) (t : TypeId)
  (ho : o.op = .call { callee := .builtin .append, args := #[s, x], argTypes := #[t, t] })
  (base : Nat) (e : TypeId) (i : TypeInfo) (ht : P.underlying t = some (.slice e)) (hi : P.info? e = some i) (hz : i.zero = some (.slice none 0 0)) (hsize : i.size = 1) (hby : i.bytes = 24)
  (v : Value) (n : Nat) (xs : List Value) (hs : a.eval s = v) (hown : w.ownsRow base e 1 v n xs) (ao : Option Addr) (g m c : Nat) (news : List Value) (hx : a.eval x = .slice ao m c) (hl : news.length = m) (hsrc : SrcV w ao g news) (hone : ∀ u ∈ news, u.oneCell' = true)
  (hnil : ao = none → m = 0 ∧ c = 0) (hb : n + m ≤ 1000000) (hbase : base ≤ w.heap.size)
  (h : ∀ v' w', w'.ownsRow base e 1 v' (n + m) (xs ++ news) → w.grownBy w' v.ownBlock → wpList P ops Q rest (a.put o.dst v') w') : wpList P ops Q (o :: rest) a w := by
 refine wpList_plain hgd fun K hK => ?_
 obtain ⟨v', w', hr, h2, h3⟩ := run_append_vals (P := P) w base t o.type e i ht hi hz hsize hby v n xs hown ao g m c news hl hsrc hone hnil hb hbase
 unfold Oper.wp
 simp [execOp, ho, resolve, invoke, builtin, hs, hx, hr, Result.andThen]
 exact hK _ _ (h v' w' h2 h3)
end
theorem infoR : (Tryz.prog.info? 47).map (fun i => (i.zero, i.size, i.bytes)) = some (some (.slice none 0 0), 1, 24) := by kernel_rfl
structure OwnR (base : Nat) (w : World) (v : Value) (ps : List (Option Addr × Nat)) (l : List (List Nat)) : Prop where
 len : ps.length = l.length
 own : w.ownsRow base 47 1 v l.length (vals5 ps l)
 rows : ∀ i, i < l.length → ∃ g, Arg w (.slice (psA ps i) (l.getD i []).length (psC ps i)) g (l.getD i [])
theorem OwnR.nil (base : Nat) (w : World) : OwnR base w (.slice none 0 0) [] [] := ⟨rfl, World.ownsRow_nil _ _ _ _, fun i hi => by simp at hi⟩
theorem OwnR.shape {base : Nat} {w : World} {v : Value} {ps : List (Option Addr × Nat)} {l : List (List Nat)} (h : OwnR base w v ps l) : (v = .slice none 0 0 ∧ l = []) ∨ ∃ g cap, v = .slice (some ⟨g, 0, none⟩) l.length cap ∧ base ≤ g ∧ g < w.heap.size ∧ l.length ≤ cap ∧ cap ≤ maxLen ∧
  (∃ cur, w.heap[g]? = some (.cells cur 47 (0, 0)) ∧ l.length ≤ cur.size) ∧ ∀ j, j < l.length → w.cell? ⟨g, j, none⟩ = some (.slice (psA ps j) (l.getD j []).length (psC ps j)) := by
 rcases h.own.2 with ⟨h', h0⟩ | ⟨g, cap, cur, h1, h2, h3, h4, h5, h6, h7⟩
 ·exact .inl ⟨h', List.eq_nil_of_length_eq_zero h0⟩
 refine .inr ⟨g, cap, h1, h2, (Array.getElem?_eq_some_iff.1 h3).1, h4, h5, ⟨cur, h3, by omega⟩, fun j hj => ?_⟩
 have e : (cur.toList.take (l.length * 1))[j]? = (vals5 ps l)[j]? := by rw [h7]
 rw [List.getElem?_take, if_pos (by omega), Array.getElem?_toList, vals_get h.len hj] at e
 simp [World.cell?, h3, e]
theorem OwnR.arg {base : Nat} {w : World} {v : Value} {ps : List (Option Addr × Nat)} {l : List (List Nat)} (h : OwnR base w v ps l) : ∃ G, RArg w v G (psA ps) (psC ps) l ∧ base ≤ G := by
 rcases h.shape with ⟨rfl, rfl⟩ | ⟨g, cap, rfl, h1, h2, h3, h4, _, h5⟩
 ·exact ⟨base, ⟨⟨none, 0, rfl, by simp, by simp, fun _ => rfl, .inl rfl⟩, h.rows⟩, Nat.le_refl _⟩
 exact ⟨g, ⟨⟨some ⟨g, 0, none⟩, cap, rfl, h3, h4, (fun h => by cases h), .inr ⟨0, rfl, fun j hj => by rw [Nat.zero_add]; exact h5 j hj⟩⟩, h.rows⟩, h1⟩
theorem OwnR.below {base : Nat} {w w' : World} {v : Value} {ps : List (Option Addr × Nat)} {l : List (List Nat)} (h : OwnR base w v ps l) (k : Below w.heap.size w w') : OwnR base w' v ps l := by
 refine ⟨h.len, ⟨h.own.1, ?_⟩, fun i hi => by obtain ⟨g, hg⟩ := h.rows i hi; exact ⟨g, hg.below k⟩⟩
 rcases h.own.2 with h' | ⟨g, cap, cur, h1, h2, h3, h4⟩
 ·exact .inl h'
 exact .inr ⟨g, cap, cur, h1, h2, (k.block g (lt_of_block h3)).trans h3, h4⟩
theorem getD_snoc {l : List (List Nat)} {r : List Nat} {i : Nat} (hi : i < l.length) : (l ++ [r]).getD i [] = l.getD i [] := by
 rw [List.getD_eq_getElem?_getD, List.getD_eq_getElem?_getD, List.getElem?_append_left hi]
theorem getD_last {l : List (List Nat)} {r : List Nat} : (l ++ [r]).getD l.length [] = r := by
 rw [List.getD_eq_getElem?_getD, List.getElem?_append_right (Nat.le_refl _)]
 simp
theorem ps_snoc {ps : List (Option Addr × Nat)} {a : Option Addr} {c i : Nat} (hi : i < ps.length) : psA (ps ++ [(a, c)]) i = psA ps i ∧ psC (ps ++ [(a, c)]) i = psC ps i := by
 unfold psA psC
 rw [List.getD_eq_getElem?_getD, List.getD_eq_getElem?_getD, List.getElem?_append_left hi]
 exact ⟨rfl, rfl⟩
theorem ps_last {ps : List (Option Addr × Nat)} {a : Option Addr} {c n : Nat} (hn : n = ps.length) : psA (ps ++ [(a, c)]) n = a ∧ psC (ps ++ [(a, c)]) n = c := by
 subst hn
 unfold psA psC
 rw [List.getD_eq_getElem?_getD, List.getElem?_append_right (Nat.le_refl _)]
 simp
theorem OwnR.snoc {base : Nat} {w w' : World} {v v' : Value} {ps : List (Option Addr × Nat)} {l : List (List Nat)} {a : Option Addr} {c : Nat} {r : List Nat} {n : Nat} (h : OwnR base w v ps l)
  (ho : w'.ownsRow base 47 1 v' (l.length + 1) (vals5 ps l ++ [.slice a n c])) (hrows : ∀ i, i < l.length → ∃ g, Arg w' (.slice (psA ps i) (l.getD i []).length (psC ps i)) g (l.getD i [])) (hn : r.length = n)
  (hr : ∃ g, Arg w' (.slice a n c) g r) : OwnR base w' v' (ps ++ [(a, c)]) (l ++ [r]) := by
 refine ⟨by simp [h.len], ?_, fun i hi => ?_⟩
 ·rw [vals_snoc h.len, hn, List.length_append]
  exact ho
 by_cases e : i < l.length
 ·rw [getD_snoc e, (ps_snoc (by rw [h.len]; exact e)).1, (ps_snoc (by rw [h.len]; exact e)).2]
  exact hrows i e
 have : i = l.length := by simp at hi; omega
 subst this
 rw [getD_last, (ps_last h.len.symm).1, (ps_last h.len.symm).2, hn]
 exact hr
theorem one_src (w : World) (a : Option Addr) (n c : Nat) : SrcV (w.alloc (.cells #[.slice a n c] 47)) (some ⟨w.heap.size, 0, none⟩) w.heap.size [.slice a n c] := by
 refine .inr ⟨0, rfl, fun j u hu => ?_⟩
 obtain ⟨hj, hu⟩ := List.getElem?_eq_some_iff.1 hu
 have : j = 0 := by simpa using hj
 subst this
 simp at hu
 rw [← hu]
 exact (cell_new' w _ _).1
theorem OwnR.row {base : Nat} {w : World} {v : Value} {ps : List (Option Addr × Nat)} {l : List (List Nat)} (h : OwnR base w v ps l) (k : Nat) (hk : v.ownBlock = some k) : base ≤ k := by
 rcases h.shape with ⟨h1, _⟩ | ⟨q, cq, h1, h2, _⟩
 ·rw [h1] at hk; cases hk
 rw [h1] at hk; cases hk; exact h2
theorem OwnR.mono {base base' : Nat} {w : World} {v : Value} {ps : List (Option Addr × Nat)} {l : List (List Nat)} (h : OwnR base w v ps l) (hb : base' ≤ base) : OwnR base' w v ps l := by
 refine ⟨h.len, ⟨h.own.1, ?_⟩, h.rows⟩
 rcases h.own.2 with h' | ⟨g, cap, cur, h1, h2, h3⟩
 ·exact .inl h'
 exact .inr ⟨g, cap, cur, h1, by omega, h3⟩
end Go.Proofs.YtjdikhelabibnaaGreat

namespace Go.Proofs.YtjdikhelabibnaaGreat
open Go.RowKit
theorem getD_ext {a b : List (List Nat)} (hl : a.length = b.length) (h : ∀ i, i < a.length → a.getD i [] = b.getD i []) : a = b := by
 apply List.ext_getElem hl
 intro i h1 h2
 have := h i h1
 rw [List.getD_eq_getElem?_getD, List.getD_eq_getElem?_getD, List.getElem?_eq_getElem h1, List.getElem?_eq_getElem h2] at this
 exact this
end Go.Proofs.YtjdikhelabibnaaGreat

namespace Go.Proofs.YtjdikhelabibnaaGreat
open Go.RowKit
theorem Arg.grown {w w' : World} {v : Value} {g : Nat} {s : List Nat} {row : Option Nat} (h : Arg w v g s) (hg : w.grownBy w' row) (hr : s ≠ [] → row ≠ some g) : Arg w' v g s := by
 by_cases hs : s = []
 ·subst hs
  obtain ⟨⟨ao, c, h1, h2, h3, h4, _⟩, hb⟩ := h
  exact ⟨⟨ao, c, h1, h2, h3, h4, .inl rfl⟩, hb⟩
 have hlt := h.lt hs
 obtain ⟨⟨ao, c, h1, h2, h3, h4, h5⟩, hb⟩ := h
 refine ⟨⟨ao, c, h1, h2, h3, h4, ?_⟩, hb⟩
 rcases h5 with h0 | ⟨o, rfl, hc⟩
 ·exact .inl h0
 exact .inr ⟨o, rfl, fun j hj => (World.cell?_of_block (hg.block g hlt (fun e => hr hs e.symm))).trans (hc j hj)⟩
theorem sm_next (c : Nat → Nat) (l : List (List Nat)) (i k : Nat) : sm c l (List.range (i + 1)) k = sm c l (List.range i) k ^^^ gmul (rc l i k) (c i) := by
 unfold sm
 rw [List.range_succ, xsum_append]
 simp
theorem okP_of {l : List (List Nat)} {n s : Nat} (hl : l.length = n) (h1 : 2 ≤ n) (h2 : n ≤ 14) (hs : ∀ i, i < n → (l.getD i []).length = s) : okP l = true ∧ size l = s := by
 refine ⟨?_, hs 0 (by omega)⟩
 unfold okP
 rw [(evn_iff l).2 (evn_of (n := s) (fun i hi => hs i (by omega))), hl]
 simp
 omega
theorem par_of {l : List (List Nat)} (h : okP l = true) : pP l = smL (fun _ => 1) l (List.range l.length) (size l) ∧ pQ l = smL E l (List.range l.length) (size l) := by
 unfold pP pQ
 rw [if_pos h, if_pos h]
 exact ⟨rfl, rfl⟩
theorem par_bs {l : List (List Nat)} (h : ∀ i, Bs (l.getD i [])) : Bs (pP l) ∧ Bs (pQ l) := by
 unfold pP pQ
 refine ⟨?_, ?_⟩
 ·split
  ·exact smL_bs h
  exact Bs.nil
 split
 ·exact smL_bs h
 exact Bs.nil
theorem OwnR.some {base : Nat} {w : World} {v : Value} {ps : List (Option Addr × Nat)} {l : List (List Nat)} {n : Nat} (h : OwnR base w v ps l) (hl : l.length = n) (hn : 0 < n) : ∃ g cap, v = .slice (some ⟨g, 0, none⟩) n cap ∧ base ≤ g ∧ g < w.heap.size ∧ n ≤ cap ∧ cap ≤ maxLen ∧
  ∀ j, j < n → w.cell? ⟨g, j, none⟩ = some (.slice (psA ps j) (l.getD j []).length (psC ps j)) := by
 rcases h.shape with ⟨_, h2⟩ | ⟨g, cap, h1, h2, h3, h4, h5, _, h6⟩
 ·rw [h2] at hl; simp at hl; omega
 rw [hl] at h1 h4 h6
 exact ⟨g, cap, h1, h2, h3, h4, h5, h6⟩
def fillK (n : Nat) (f : Nat → Nat) (k : Nat) : List Nat := (List.range n).map (fun j => if j < k then f j else 0)
theorem fillK_len (n : Nat) (f : Nat → Nat) (k : Nat) : (fillK n f k).length = n := by simp [fillK]
theorem cf_fillK (n : Nat) (f : Nat → Nat) (k j : Nat) : cf (fillK n f k) j = if j < n then (if j < k then f j else 0) else 0 := cf_range _ _ _
theorem fillK_zero (n : Nat) (f : Nat → Nat) : fillK n f 0 = List.replicate n 0 := by
 refine eq_of_cf (by simp [fillK]) (fun j => ?_)
 rw [cf_fillK, cf_replicate]
 simp
theorem fillK_step {n : Nat} {f : Nat → Nat} {k : Nat} (hk : k < n) : (fillK n f k).set k (f k) = fillK n f (k + 1) := by
 refine eq_of_cf (by simp [fillK]) (fun j => ?_)
 rw [cf_set _ _ _ _ (by rw [fillK_len]; exact hk), cf_fillK, cf_fillK]
 by_cases h : j = k
 ·subst h; rw [if_pos rfl, if_pos hk, if_pos (by omega)]
 rw [if_neg h]
 by_cases h' : j < n
 ·rw [if_pos h', if_pos h']
  by_cases h2 : j < k
  ·rw [if_pos h2, if_pos (by omega)]
  rw [if_neg h2, if_neg (by omega)]
 rw [if_neg h', if_neg h']
theorem fillK_bs {n : Nat} {f : Nat → Nat} {k : Nat} (h : ∀ j, f j < 256) : Bs (fillK n f k) := fun j => by
 rw [cf_fillK]
 split
 ·split
  ·exact h j
  omega
 omega
theorem below_kp {n : Nat} {S : List Nat} {a b c : World} (h : Below n a b) (k : Kp S b c) (hs : ∀ s ∈ S, n ≤ s) (hn : n ≤ b.heap.size) : Below n a c :=
 ⟨k.os.trans h.os, k.tape.trans h.tape, k.output.trans h.output, Nat.le_trans h.size k.size, fun i hi => (k.block i (by omega) (fun hm => by have := hs i hm; omega)).trans (h.block i hi)⟩
theorem blk_ne_own {base g : Nat} {w : World} {v : Value} {ps : List (Option Addr × Nat)} {l : List (List Nat)} {r : List Nat} (h : OwnR base w v ps l) (hb : Blk w g r) : v.ownBlock ≠ Option.some g := by
 intro e
 obtain ⟨cur, h1, _⟩ := hb
 rcases h.shape with ⟨h2, _⟩ | ⟨q, cap, h2, _, _, _, _, ⟨cur2, h3, _⟩, _⟩
 ·rw [h2] at e; cases e
 rw [h2] at e
 have e2 : q = g := Option.some.inj e
 rw [e2, h1] at h3
 simp at h3
theorem Blk.grown {g : Nat} {w w' : World} {r : List Nat} {row : Option Nat} (h : Blk w g r) (hg : w.grownBy w' row) (hr : row ≠ Option.some g) : Blk w' g r := h.of (hg.block g h.lt (fun e => hr e.symm))
end Go.Proofs.YtjdikhelabibnaaGreat

namespace Go.Proofs.YtjdikhelabibnaaGreat
open Go.RowKit
theorem ZArg.take {w : World} {ao : Option Addr} {n c g : Nat} {zs : List Int} (h : ZArg w (.slice ao n c) g zs) (i : Nat) (hi : i ≤ zs.length) : ZArg w (.slice ao i c) g (zs.take i) := by
 obtain ⟨⟨ao', c', h1, h2, h3, h4, h5⟩, hb⟩ := h
 cases h1
 have hl : (zs.take i).length = i := by simp; omega
 refine ⟨⟨ao, c, by rw [hl], by omega, h3, h4, ?_⟩, fun z hz => hb z (List.mem_of_mem_take hz)⟩
 rcases h5 with h0 | ⟨o, ho, hc⟩
 ·left; rw [h0]; simp
 refine .inr ⟨o, ho, fun j hj => ?_⟩
 rw [hl] at hj
 rw [hc j (by omega)]
 simp [List.getD_eq_getElem?_getD, hj]
def pk (zs : List Int) (N : Nat) : Bool := decide (zs.length ≤ 2) && decide (∀ z ∈ zs, 0 ≤ z ∧ z < (N : Int)) && decide zs.Nodup
theorem pk_parts {zs : List Int} {N : Nat} (h : pk zs N = true) : zs.length ≤ 2 ∧ (∀ z ∈ zs, 0 ≤ z ∧ z < (N : Int)) ∧ zs.Nodup := by
 unfold pk at h
 rw [Bool.and_eq_true, Bool.and_eq_true, decide_eq_true_eq, decide_eq_true_eq, decide_eq_true_eq] at h
 exact ⟨h.1.1, h.1.2, h.2⟩
theorem pk_not {zs : List Int} {N : Nat} (h : ¬ (zs.length ≤ 2 ∧ (∀ z ∈ zs, 0 ≤ z ∧ z < (N : Int)) ∧ zs.Nodup)) : pk zs N = false := by
 cases hp : pk zs N with
 | false => rfl
 | true => exact absurd (pk_parts hp) h
theorem pk_of {zs : List Int} {N : Nat} (h : zs.length ≤ 2 ∧ (∀ z ∈ zs, 0 ≤ z ∧ z < (N : Int)) ∧ zs.Nodup) : pk zs N = true := by
 unfold pk
 rw [decide_eq_true h.1, decide_eq_true h.2.1, decide_eq_true h.2.2]
 rfl
set_option maxRecDepth 100000 in
set_option maxHeartbeats 4000000 in
theorem picks_any (v : Value) (g : Nat) (zs : List Int) (N : Nat) (w : World) (hA : ZArg w v g zs) :
  Calls Tryz.prog 97 #[v, .int .i64 (N : Int)] w fun e w' => e = .returned (.bool (pk zs N)) ∧ w' = w := by
 obtain ⟨ao, c, hv, hc1, hc2, hnil, hr⟩ := hA.ex
 have HA := hide hA
 have HR := hide hr
 subst hv
 obtain ⟨n, hn⟩ : ∃ n, zs.length = n := ⟨_, rfl⟩
 rw [hn] at hc1 HA ⊢
 have HN := hide hn
 have hnm : (n : Int) ≤ 9223372036854775807 := by unfold maxLen at hc2; omega
 clear hr hnil hn hA
 by_cases h2 : 2 < n
 ·have e1 : (2 : Int) < (n : Int) := by omega
  have HF : Hid (pk zs N = false) := pk_not (fun h => by have := h.1; rw [uh HN] at this; omega)
  go_enter Tryz.func97, Tryz.ntmps97
  go_wp2_with fail
  go_ret
  rw [uh HF]
  exact ⟨rfl, rfl⟩
 have e1 : (n : Int) ≤ 2 := by omega
 go_enter Tryz.func97, Tryz.ntmps97
 go_wp2_with fail
 go_loop [12] (fun p => ∃ i : Nat, p = .int .i64 i ∧ i ≤ n ∧ (∀ z ∈ zs.take i, 0 ≤ z ∧ z < (N : Int)) ∧ (zs.take i).Nodup) (fun p => n - (intOf p).toNat)
 case atStart => exact ⟨0, rfl, by omega, by simp, by simp⟩
 case round =>
  obtain ⟨i, rfl, hi, hz, hnd⟩ := hrel
  have HZ := hide hz
  have HND := hide hnd
  clear hz hnd
  by_cases hlt : i < n
  ·have hi1 : (i : Int) < (n : Int) := by omega
   obtain ⟨o, rfl, hcl⟩ := irow_some' (uh HR) (by rw [uh HN]; omega)
   have hc := hcl i (by rw [uh HN]; exact hlt)
   have hil : i < zs.length := by rw [uh HN]; exact hlt
   have HM : Hid (zs.getD i 0 ∈ zs) := getD_mem hil
   have HT : Hid (zs.take (i + 1) = zs.take i ++ [zs.getD i 0]) := take_snoc _ _ hil
   obtain ⟨y, hy⟩ : ∃ y, zs.getD i 0 = y := ⟨_, rfl⟩
   rw [hy] at hc HM HT
   clear hcl hy hil
   have hic : (i : Int) ≤ (c : Int) := by omega
   by_cases y0 : y < 0
   ·have HF : Hid (pk zs N = false) := pk_not (fun h => by have := h.2.1 y (uh HM); omega)
    have d1 : decide (y < 0) = true := by simpa using y0
    go_wp2_with fail
    go_ret
    rw [uh HF]
    exact ⟨rfl, rfl⟩
   have d1 : decide (y < 0) = false := by simpa using y0
   have y0' : (0 : Int) ≤ y := by omega
   by_cases yN : (N : Int) ≤ y
   ·have HF : Hid (pk zs N = false) := pk_not (fun h => by have := h.2.1 y (uh HM); omega)
    go_wp2_with fail
    go_ret
    rw [uh HF]
    exact ⟨rfl, rfl⟩
   have yN' : y < (N : Int) := by omega
   go_wp2_with fail
   refine (contains_any _ g (zs.take i) y w ((uh HA).take i (by rw [uh HN]; exact hi))).mono ?_
   rintro e w' ⟨rfl, hw'⟩
   subst hw'
   by_cases hin : y ∈ zs.take i
   ·have HF : Hid (pk zs N = false) := pk_not (fun h => by
     have h2 : (zs.take (i + 1)).Nodup := h.2.2.sublist (List.take_sublist _ _)
     rw [uh HT, List.nodup_append] at h2
     exact h2.2.2 y hin y (by simp) rfl)
    have hd : decide (y ∈ zs.take i) = true := by simpa using hin
    rw [hd]
    clear hd hin
    go_wp2_with fail
    go_ret
    rw [uh HF]
    exact ⟨rfl, rfl⟩
   have hd : decide (y ∈ zs.take i) = false := by simpa using hin
   rw [hd]
   have HIN := hide hin
   clear hd hin
   go_wp2_with fail
   go_round
   case rel =>
    refine ⟨i + 1, by go_num, by omega, ?_, ?_⟩
    ·rw [uh HT]
     intro z hz
     rcases List.mem_append.1 hz with h | h
     ·exact uh HZ z h
     rw [List.mem_singleton.1 h]; exact ⟨y0', yN'⟩
    rw [uh HT, List.nodup_append]
    exact ⟨uh HND, by simp, fun a ha b hb e => by rw [List.mem_singleton.1 hb] at e; rw [e] at ha; exact uh HIN ha⟩
   case measure => simp [intOf]; omega
  have hi2 : i = n := by omega
  subst hi2
  have HF : Hid (pk zs N = true) := by
   have h1 := uh HZ
   have h2 := uh HND
   rw [← uh HN, List.take_length] at h1 h2
   exact pk_of ⟨by rw [uh HN]; omega, h1, h2⟩
  go_wp2_with fail
  go_ret
  rw [uh HF]
  exact ⟨rfl, rfl⟩
section
variable {P : Program} (w : World)
theorem run_append_one (base : Nat) (t ty e : TypeId) (i : TypeInfo) (z : Value) (by' : Nat) (ht : P.underlying t = some (.slice e)) (hi : P.info? e = some i) (hz : i.zero = some z) (hsize : i.size = 1) (hby : i.bytes = by') (hz1 : z.cells.size = 1) (hby8 : by' ≤ 24)
  (v : Value) (n : Nat) (xs : List Value) (hown : w.ownsRow base e 1 v n xs) (ao : Option Addr) (m c : Nat) (news : List Value) (hl : news.length = m) (hsrc : ∀ j u, news[j]? = some u → ∃ g o, ao = some ⟨g, o, none⟩ ∧ w.cell? ⟨g, o + j, none⟩ = some u) (hone : ∀ u ∈ news, u.oneCell' = true) (hnil : ao = none → m = 0 ∧ c = 0)
  (hb : n + m ≤ 1000000) (hbase : base ≤ w.heap.size) :
  ∃ v' w', (Builtin.append_ #[t, t] ty #[v, .slice ao m c]).run P w = .ok v' w' ∧ w'.ownsRow base e 1 v' (n + m) (xs ++ news) ∧ w.grownBy w' v.ownBlock := by
 cases ao with
 | none =>
  obtain ⟨rfl, rfl⟩ := hnil rfl
  have hz0 : news = [] := List.eq_nil_of_length_eq_zero hl
  subst hz0
  exact ⟨v, w, run_append_owned_none (P := P) w base t ty e i 1 ht hi v n xs hown, by simpa using hown, World.grownBy.refl _ _⟩
 | some ad =>
  obtain ⟨v', w', h1, h2, h3, _⟩ := run_append_own (P := P) w base t ty e i z 1 by' ht hi hz hsize hby hz1 (by decide) v n xs hown ad m c news (by simp [hl]) (by
   intro j u hu
   obtain ⟨g, o, ho, hc⟩ := hsrc j u hu
   cases ho
   rw [Addr.add_lit]
   exact hc) hone (by unfold maxLen; omega) (Nat.le_trans (Nat.mul_le_mul hb hby8) (by decide)) hbase
  exact ⟨v', w', h1, h2, h3⟩
theorem wpList_append_one {ops : Array Oper} {rest : List Oper} {o : Oper} {a : Act} {Q : Exit → Act → World → Prop} (hgd : o.guard = none) (s x : Operand) (t : TypeId)
  (ho : o.op = .call { callee := .builtin .append, args := #[s, x], argTypes := #[t, t] })
  (base : Nat) (e : TypeId) (i : TypeInfo) (z : Value) (by' : Nat) (ht : P.underlying t = some (.slice e)) (hi : P.info? e = some i) (hz : i.zero = some z) (hsize : i.size = 1) (hby : i.bytes = by') (hz1 : z.cells.size = 1) (hby8 : by' ≤ 24)
  (v : Value) (n : Nat) (xs : List Value) (hs : a.eval s = v) (hown : w.ownsRow base e 1 v n xs) (ao : Option Addr) (m c : Nat) (news : List Value) (hx : a.eval x = .slice ao m c) (hl : news.length = m) (hsrc : ∀ j u, news[j]? = some u → ∃ g o, ao = some ⟨g, o, none⟩ ∧ w.cell? ⟨g, o + j, none⟩ = some u) (hone : ∀ u ∈ news, u.oneCell' = true)
  (hnil : ao = none → m = 0 ∧ c = 0) (hb : n + m ≤ 1000000) (hbase : base ≤ w.heap.size)
  (h : ∀ v' w', w'.ownsRow base e 1 v' (n + m) (xs ++ news) → w.grownBy w' v.ownBlock → wpList P ops Q rest (a.put o.dst v') w') : wpList P ops Q (o :: rest) a w := by
 refine wpList_plain hgd fun K hK => ?_
 obtain ⟨v', w', hr, h2, h3⟩ := run_append_one (P := P) w base t o.type e i z by' ht hi hz hsize hby hz1 hby8 v n xs hown ao m c news hl hsrc hone hnil hb hbase
 unfold Oper.wp
 simp [execOp, ho, resolve, invoke, builtin, hs, hx, hr, Result.andThen]
 exact hK _ _ (h v' w' h2 h3)
end
theorem infoI5 : (Tryz.prog.info? 3).map (fun i => (i.zero, i.size, i.bytes)) = some (some (.int .i64 0), 1, 8) := by kernel_rfl
def IBlk (w : World) (g : Nat) (zs : List Int) : Prop := ∃ cur, w.heap[g]? = some (.cells cur 3 (0, 0)) ∧ ∀ j, j < zs.length → cur[j]? = some (.int .i64 (zs.getD j 0))
def ZFr (n : Nat) (w : World) (v : Value) (zs : List Int) : Prop := (zs = [] ∧ ∃ ao c, v = .slice ao 0 c ∧ c ≤ maxLen ∧ (ao = none → c = 0)) ∨ ∃ g c, v = .slice (some ⟨g, 0, none⟩) zs.length c ∧ zs.length ≤ c ∧ c ≤ maxLen ∧ IBlk w g zs ∧ n ≤ g
theorem IBlk.lt {w : World} {g : Nat} {zs : List Int} (h : IBlk w g zs) : g < w.heap.size := by
 obtain ⟨cur, h, _⟩ := h
 exact lt_of_block h
theorem IBlk.cell {w : World} {g : Nat} {zs : List Int} (h : IBlk w g zs) {j : Nat} (hj : j < zs.length) : w.cell? ⟨g, j, none⟩ = some (.int .i64 (zs.getD j 0)) := by
 obtain ⟨cur, h, hc⟩ := h
 simp [World.cell?, h, hc j hj]
theorem IBlk.free {w : World} {g : Nat} {zs : List Int} (h : IBlk w g zs) {j : Nat} : w.frozen? ⟨g, j, none⟩ = false := by
 obtain ⟨cur, h, hc⟩ := h
 simp [World.frozen?, h]
theorem IBlk.of {w w' : World} {g : Nat} {zs : List Int} (h : IBlk w g zs) (e : w'.heap[g]? = w.heap[g]?) : IBlk w' g zs := by
 obtain ⟨cur, h, hc⟩ := h
 exact ⟨cur, e.trans h, hc⟩
theorem owns_zfr {w : World} {base : Nat} {v : Value} {n : Nat} {zs : List Int} (hn : zs.length = n) (h : w.ownsRow base 3 1 v n (zs.map (Value.int .i64))) : ZFr base w v zs := by
 subst hn
 rcases h.2 with ⟨h', h0⟩ | ⟨g, cap, cur, rfl, hb, hg, h1, h2, h3, h4⟩
 ·exact .inl ⟨List.eq_nil_of_length_eq_zero h0, none, 0, h', by simp, fun _ => rfl⟩
 refine .inr ⟨g, cap, rfl, h1, h2, ⟨cur, hg, fun j hj => ?_⟩, hb⟩
 have e : (cur.toList.take (zs.length * 1))[j]? = (zs.map (Value.int .i64))[j]? := by rw [h4]
 rw [List.getElem?_take, if_pos (by omega), Array.getElem?_toList] at e
 rw [e, List.getElem?_map, List.getD_eq_getElem?_getD, List.getElem?_eq_getElem hj]
 rfl
set_option maxRecDepth 100000 in
set_option maxHeartbeats 2000000 in
theorem cloneI_any (v : Value) (g : Nat) (zs : List Int) (w : World) (hA : ZArg w v g zs) (hs : zs.length ≤ 1000) :
  Calls Tryz.prog 135 #[v] w fun e w' => ∃ v', e = .returned v' ∧ ZFr w.heap.size w' v' zs ∧ Below w.heap.size w w' := by
 obtain ⟨ao, c, hv, hc1, hc2, hnil, hr⟩ := hA.ex
 subst hv
 obtain ⟨i0, hi0, hz0, hz1, hz2⟩ := info_parts infoI5
 have HI := hide hi0
 have HR := hide hr
 have HN := hide hnil
 clear hi0 hr hnil hA
 cases ao with
 | none =>
  have h0 : zs = [] := by
   rcases uh HR with h | ⟨o, h, _⟩
   ·exact h
   cases h
  have hc0 := uh HN rfl
  subst h0
  subst hc0
  have hq : ∀ w : World, (binOp .eql 34 (.slice none 0 0) (.slice none 0 0)).run Tryz.prog w = .ok (.bool true) w := fun _ => by kernel_rfl
  rw [show ([] : List Int).length = 0 from rfl]
  go_enter Tryz.func135, Tryz.ntmps135
  go_wp2_with fail
  go_ret
  exact ⟨_, rfl, .inl ⟨rfl, none, 0, rfl, by simp, fun _ => rfl⟩, Below.refl _ _⟩
 | some ad =>
  obtain ⟨n, hn⟩ : ∃ n, zs.length = n := ⟨_, rfl⟩
  rw [hn] at hc1 ⊢
  have HL := hide hn
  rw [hn] at hs
  clear hn
  have hq : ∀ w : World, (binOp .eql 34 (.slice (some ad) n c) (.slice none 0 0)).run Tryz.prog w = .ok (.bool false) w := fun _ => by kernel_rfl
  have HE := hide (own_none w 3)
  have HKE : Hid (Below w.heap.size w (w.alloc (.cells #[] 3))) := (Below.refl _ _).alloc (Nat.le_refl _) _
  have HSRC : Hid (∀ j u, (zs.map (Value.int .i64))[j]? = some u → ∃ g o, some ad = some ⟨g, o, none⟩ ∧ (w.alloc (.cells #[] 3)).cell? ⟨g, o + j, none⟩ = some u) := fun j u hu => by
   rcases uh HR with h | ⟨o, h, hc⟩
   ·rw [h] at hu; simp at hu
   have hj : j < zs.length := by have := (List.getElem?_eq_some_iff.1 hu).1; simpa using this
   refine ⟨g, o, h, ?_⟩
   rw [List.getElem?_map, List.getElem?_eq_getElem hj] at hu
   cases hu
   refine ((uh HKE).cell (block_lt_of_cell (hc j hj))).trans ?_
   rw [hc j hj, List.getD_eq_getElem?_getD, List.getElem?_eq_getElem hj]
   rfl
  go_enter Tryz.func135, Tryz.ntmps135
  go_wp2_with (at_builtin; refine wpList_append_one _ rfl _ _ 34 rfl w.heap.size 3 i0 (.int .i64 0) 8 Tryz.underlying34 (uh HI) hz0 hz1 hz2 rfl (by omega) (.slice (some ⟨w.heap.size, 0, none⟩) 0 0) 0 [] rfl (uh HE) (some ad) n c (zs.map (Value.int .i64)) rfl (by rw [List.length_map]; exact uh HL) (uh HSRC) (ints_oneCell _ _) (fun h => by cases h) (by omega) (by simp) ?_)
  intro v2 w2 ho hg
  have HB := hide (below_grown (uh HKE) hg (by simp) (fun k hk => by have e2 : w.heap.size = k := Option.some.inj hk; omega))
  have HF := hide (owns_zfr (uh HL) ho)
  clear ho hg
  go_wp2_with fail
  go_ret
  exact ⟨_, rfl, uh HF, uh HB⟩
set_option maxRecDepth 100000 in
set_option maxHeartbeats 2000000 in
theorem cloneB_any5 (v : Value) (g : Nat) (s : List Nat) (w : World) (hA : Arg w v g s) (hs : s.length ≤ 100000) :
  Calls Tryz.prog 99 #[v] w fun e w' => ∃ v', e = .returned v' ∧ Fr w.heap.size w' v' s ∧ Below w.heap.size w w' := by
 obtain ⟨ao, c, hv, hc1, hc2, hnil, hr⟩ := hA.ex
 subst hv
 obtain ⟨i0, hi0, hz0, hz1, hz2⟩ := info_parts infoE
 have HI := hide hi0
 have HR := hide hr
 have HN := hide hnil
 clear hi0 hr hnil hA
 cases ao with
 | none =>
  have h0 : s = [] := by
   rcases uh HR with h | ⟨o, h, _⟩
   ·exact List.eq_nil_of_length_eq_zero (by rw [← ints_len, h]; rfl)
   cases h
  have hc0 := uh HN rfl
  subst h0
  subst hc0
  have hq : ∀ w : World, (binOp .eql 47 (.slice none 0 0) (.slice none 0 0)).run Tryz.prog w = .ok (.bool true) w := fun _ => by kernel_rfl
  rw [show ([] : List Nat).length = 0 from rfl]
  go_enter Tryz.func99, Tryz.ntmps99
  go_wp2_with fail
  go_ret
  exact ⟨_, rfl, .inl ⟨rfl, rfl⟩, Below.refl _ _⟩
 | some ad =>
  obtain ⟨n, hn⟩ : ∃ n, s.length = n := ⟨_, rfl⟩
  rw [hn] at hc1 ⊢
  have HL := hide hn
  rw [hn] at hs
  clear hn
  have hq : ∀ w : World, (binOp .eql 47 (.slice (some ad) n c) (.slice none 0 0)).run Tryz.prog w = .ok (.bool false) w := fun _ => by kernel_rfl
  have HE := hide (own_none w 5)
  have HKE : Hid (Below w.heap.size w (w.alloc (.cells #[] 5))) := (Below.refl _ _).alloc (Nat.le_refl _) _
  have HSRC : Hid (Row (w.alloc (.cells #[] 5)) (some ad) g (ints s)) := (uh HR).below (uh HKE)
  go_enter Tryz.func99, Tryz.ntmps99
  go_wp2_with (at_builtin; refine wpList_append_row _ rfl _ _ 47 rfl w.heap.size 5 i0 Tryz.underlying47 (uh HI) hz0 hz1 hz2 (.slice (some ⟨w.heap.size, 0, none⟩) 0 0) 0 [] rfl (uh HE) (some ad) g n c (ints s) rfl (by rw [ints_len]; exact uh HL) (uh HSRC) (fun h => by cases h) (by omega) (by simp) ?_)
  intro v2 w2 ho hg _
  have HB := hide (below_grown (uh HKE) hg (by simp) (fun k hk => by have e2 : w.heap.size = k := Option.some.inj hk; omega))
  have HF := hide (owns_fr ho).2
  clear ho hg
  go_wp2_with fail
  go_ret
  exact ⟨_, rfl, uh HF, uh HB⟩
structure SBox (w : World) (b d : Nat) (vp vq : Value) : Prop where
 h : w.heap[b]? = some (.cells #[.int .i64 (d : Int), vp, vq] 103 (0, 0))
theorem SBox.below {n : Nat} {w w' : World} {b d : Nat} {vp vq : Value} (h : SBox w b d vp vq) (k : Below n w w') (hn : b < n) : SBox w' b d vp vq := ⟨(k.block b hn).trans h.h⟩
theorem SBox.kp {S : List Nat} {w w' : World} {b d : Nat} {vp vq : Value} (h : SBox w b d vp vq) (k : Kp S w w') (hn : b ∉ S) : SBox w' b d vp vq := ⟨k.heap h.h hn⟩
theorem SBox.lt {w : World} {b d : Nat} {vp vq : Value} (h : SBox w b d vp vq) : b < w.heap.size := lt_of_block h.h
set_option maxHeartbeats 1000000 in
theorem fill1_any (z : Int) (b d : Nat) (hd : d ≤ 14) (po qo : Option Addr) (np cp nq cq : Nat) (w : World) (hB : SBox w b d (.slice po np cp) (.slice qo nq cq)) :
  Calls Tryz.prog 136 #[.int .i64 z, .pointer (some ⟨b, 0, none⟩)] w fun e w' => e = .returned (.bool (z == ((d + 1 : Nat) : Int))) ∧ Below w.heap.size w w' := by
 obtain ⟨⟨c0, c1, c2⟩, _⟩ := three_at hB.h
 go_enter Tryz.func136, Tryz.ntmps136
 go_wp2_with fail
 refine (second_any d hd po qo np cp nq cq w).mono ?_
 rintro e w2 ⟨rfl, hk⟩
 have HK := hide hk
 clear hk
 go_wp2_with fail
 go_ret
 exact ⟨rfl, uh HK⟩
set_option maxRecDepth 100000 in
set_option maxHeartbeats 2000000 in
theorem ifi_any (v : Value) (g : Nat) (zs : List Int) (b d : Nat) (hd : d ≤ 14) (po qo : Option Addr) (np cp nq cq : Nat) (w : World) (hA : ZArg w v g zs) (hB : SBox w b d (.slice po np cp) (.slice qo nq cq)) :
  Calls Tryz.prog 150 #[v, .func (.func 136) #[] #[.pointer (some ⟨b, 0, none⟩)]] w fun e w' => Below w.heap.size w w' ∧ ((e = .returned (.int .i64 (-1)) ∧ ((d + 1 : Nat) : Int) ∉ zs) ∨ ∃ i : Nat, e = .returned (.int .i64 (i : Int)) ∧ i < zs.length ∧ zs.getD i 0 = ((d + 1 : Nat) : Int) ∧ ((d + 1 : Nat) : Int) ∉ zs.take i) := by
 obtain ⟨⟨ao, c, rfl, hc1, hc2, hnil, hr⟩, hbd⟩ := hA
 have HR := hide hr
 have HSB := hide hB
 obtain ⟨n, hn⟩ : ∃ n, zs.length = n := ⟨_, rfl⟩
 rw [hn] at hc1 ⊢
 have HN := hide hn
 have hnm : (n : Int) ≤ 9223372036854775807 := by unfold maxLen at hc2; omega
 clear hr hnil hn hbd hB
 go_enter Tryz.func150, Tryz.ntmps150
 go_wp2_with fail
 go_loopw [8] (fun p wr => ∃ i : Nat, p = .int .i64 i ∧ i ≤ n ∧ ((d + 1 : Nat) : Int) ∉ zs.take i ∧ Below w.heap.size w wr) (fun p _ => n - (intOf p).toNat)
 case atStart => exact ⟨0, rfl, by omega, by simp, Below.refl _ _⟩
 case round =>
  obtain ⟨i, rfl, hi, hz, hK⟩ := hrel
  have HZ := hide hz
  have HK := hide hK
  clear hz hK
  by_cases hlt : i < n
  ·have hi1 : (i : Int) < (n : Int) := by omega
   obtain ⟨o, rfl, hcl⟩ := irow_some' ((uh HR).below (uh HK)) (by rw [uh HN]; omega)
   have hc := hcl i (by rw [uh HN]; exact hlt)
   have HT : Hid (zs.getD i 0 ≠ ((d + 1 : Nat) : Int) → ((d + 1 : Nat) : Int) ∉ zs.take (i + 1)) := fun hne h => by
    rcases (take_getD (by rw [uh HN]; exact hlt) _).1 h with h | h
    ·exact uh HZ h
    exact hne h
   obtain ⟨y, hy⟩ : ∃ y, zs.getD i 0 = y := ⟨_, rfl⟩
   rw [hy] at hc HT
   have HY := hide hy
   clear hcl hy
   go_wp2_with fail
   refine (fill1_any y b d hd po qo np cp nq cq wr ((uh HSB).below (uh HK) (uh HSB).lt)).mono ?_
   rintro e w2 ⟨rfl, hk⟩
   have HK2 := hide ((uh HK).trans (hk.mono (uh HK).size))
   clear hk
   by_cases he : y = ((d + 1 : Nat) : Int)
   ·have he1 : (y == ((d + 1 : Nat) : Int)) = true := by rw [he]; simp
    have HE := hide he
    clear he
    rw [he1]
    clear he1
    go_wp2_with fail
    go_ret
    exact ⟨uh HK2, .inr ⟨i, rfl, hlt, by rw [uh HY]; exact uh HE, uh HZ⟩⟩
   have he1 : (y == ((d + 1 : Nat) : Int)) = false := by rw [beq_eq_false_iff_ne]; exact he
   have HE := hide he
   clear he
   rw [he1]
   clear he1
   go_wp2_with fail
   go_roundw
   case rel => exact ⟨i + 1, by go_num, by omega, uh HT (uh HE), uh HK2⟩
   case measure => simp [intOf]; omega
  have hi2 : i = n := by omega
  subst hi2
  go_wp2_with fail
  go_ret
  exact ⟨uh HK, .inl ⟨rfl, by have h := uh HZ; rwa [← uh HN, List.take_length] at h⟩⟩
end Go.Proofs.YtjdikhelabibnaaGreat

namespace Go.Proofs.YtjdikhelabibnaaGreat
open Go.RowKit
theorem IBlk.row {w : World} {g : Nat} {zs ys : List Int} (h : IBlk w g zs) (hl : ys.length ≤ zs.length) (he : ∀ j, j < ys.length → ys.getD j 0 = zs.getD j 0) : IRow w (some ⟨g, 0, none⟩) g ys :=
 .inr ⟨0, rfl, fun j hj => by rw [Nat.zero_add, he j hj]; exact h.cell (by omega)⟩
theorem ZFr.arg {n : Nat} {w : World} {v : Value} {zs : List Int} (h : ZFr n w v zs) (hb : ∀ z ∈ zs, -9223372036854775808 ≤ z ∧ z ≤ 9223372036854775807) : ∃ g, ZArg w v g zs := by
 rcases h with ⟨rfl, ao, c, rfl, h1, h2⟩ | ⟨g, c, rfl, h1, h2, h3, _⟩
 ·exact ⟨0, ⟨⟨ao, c, rfl, by simp, h1, h2, .inl rfl⟩, hb⟩⟩
 exact ⟨g, ⟨⟨_, c, rfl, h1, h2, (fun h => by cases h), h3.row (Nat.le_refl _) (fun _ _ => rfl)⟩, hb⟩⟩
theorem IBlk.set {w : World} {g : Nat} {zs : List Int} (h : IBlk w g zs) (j : Nat) (v : Int) (hj : j < zs.length) : IBlk (w.setCell ⟨g, j, none⟩ (.int .i64 v)) g (zs.set j v) := by
 obtain ⟨cur, h, hc⟩ := h
 refine ⟨cur.setIfInBounds j (.int .i64 v), heap_setCell_same w g j _ _ _ h, fun i hi => ?_⟩
 rw [List.length_set] at hi
 have hj2 : j < cur.size := (Array.getElem?_eq_some_iff.1 (hc j hj)).1
 rw [Array.getElem?_setIfInBounds, List.getD_eq_getElem?_getD, List.getElem?_set]
 by_cases e : j = i
 ·subst e; simp [hj2, hj]
 rw [if_neg e, if_neg e, hc i hi, List.getD_eq_getElem?_getD]
theorem run_clear_one (w : World) (g j c : Nat) (x : Value) (hc : w.cell? ⟨g, j, none⟩ = some x) (hf : w.frozen? ⟨g, j, none⟩ = false) :
  (Builtin.clear_ #[34] 0 #[.slice (some ⟨g, j, none⟩) 1 c]).run Tryz.prog w = .ok (.tuple #[]) (w.setCell ⟨g, j, none⟩ (.int .i64 0)) := by
 have hz : (zeroValue 3).run Tryz.prog w = .ok (.int .i64 0) w := by kernel_rfl
 have hzc : (Builtin.zeroCells #[Value.int .i64 0] 1).toList = [.int .i64 0] := by kernel_rfl
 simp [Builtin.clear_, run_underlying Tryz.underlying34, hz, go_sem, hzc, hc, hf]
theorem irow_one {w : World} {g : Nat} {y : Int} (h : w.cell? ⟨g, 0, none⟩ = some (.int .i64 y)) : IRow w (some ⟨g, 0, none⟩) g [y] :=
 .inr ⟨0, rfl, fun j hj => by
  have : j = 0 := by simpa using hj
  subst this
  exact h⟩
def inP (d : Nat) (zs : List Int) : List Int := zs.filter (fun z => decide (z ≠ ((d + 1 : Nat) : Int)))
set_option maxRecDepth 100000 in
set_option maxHeartbeats 4000000 in
theorem del_any (v : Value) (zs : List Int) (b d lo : Nat) (hd : d ≤ 14) (po qo : Option Addr) (np cp nq cq : Nat) (w : World) (hlo : lo ≤ w.heap.size) (hA : ZFr lo w v zs) (hbd : ∀ z ∈ zs, -9223372036854775808 ≤ z ∧ z ≤ 9223372036854775807) (h2 : zs.length ≤ 2) (hnd : zs.Nodup) (hB : SBox w b d (.slice po np cp) (.slice qo nq cq)) (hb : b < lo) :
  Calls Tryz.prog 134 #[v, .func (.func 136) #[] #[.pointer (some ⟨b, 0, none⟩)]] w fun e w' => Below lo w w' ∧ ∃ ao c g, e = .returned (.slice ao (inP d zs).length c) ∧ IRow w' ao g (inP d zs) ∧ (inP d zs ≠ [] → lo ≤ g) := by
 obtain ⟨ga, hZ⟩ := hA.arg hbd
 have hvs : ∃ ao n c, v = .slice ao n c := by
  obtain ⟨ao, c, h1, _⟩ := hZ.ex
  exact ⟨ao, _, c, h1⟩
 have HIF := hide (ifi_any v ga zs b d hd po qo np cp nq cq w hZ hB)
 have HA := hide hA
 have HB := hide hB
 clear hA hZ hB hbd
 obtain ⟨D, hD⟩ : ∃ D : Int, ((d + 1 : Nat) : Int) = D := ⟨_, rfl⟩
 rw [hD] at HIF
 have HP : Hid (inP d zs = zs.filter (fun z => decide (z ≠ D))) := by show _ = _; unfold inP; rw [hD]
 have HDD := hide hD
 clear hD
 obtain ⟨ao, n, c, rfl⟩ := hvs
 go_enter Tryz.func134, Tryz.ntmps134
 go_wp2_with fail
 refine (uh HIF).mono ?_
 rintro e w2 ⟨hk, h⟩
 have HK := hide hk
 have hzk := hk.size
 clear hk HIF
 rcases h with ⟨rfl, hno⟩ | ⟨i, rfl, hi, hat, hbe⟩
 ·have hE : inP d zs = zs := by rw [uh HP, List.filter_eq_self]; intro z hz; simp; intro e; rw [e] at hz; exact hno hz
  have HR : Hid (∃ g, IRow w2 ao g zs ∧ zs.length = n ∧ (zs ≠ [] → lo ≤ g)) := by
   rcases uh HA with ⟨rfl, ao', c', h1, h2, h3⟩ | ⟨g, c', h1, h2, h3, h4, h5⟩
   ·cases h1; exact ⟨0, .inl rfl, rfl, fun h => absurd rfl h⟩
   cases h1; exact ⟨g, (h4.of ((uh HK).block g h4.lt)).row (Nat.le_refl _) (fun _ _ => rfl), rfl, fun _ => h5⟩
  have HE := hide hE
  clear hno hE
  go_wp2_with fail
  go_ret
  obtain ⟨g, h1, h2, h3⟩ := uh HR
  rw [uh HE, h2]
  exact ⟨(uh HK).mono hlo, ao, c, g, rfl, h1, h3⟩
 obtain ⟨g, hao, hnl, hnc, hcm, hIB, hgl⟩ : ∃ g, ao = some ⟨g, 0, none⟩ ∧ n = zs.length ∧ n ≤ c ∧ c ≤ maxLen ∧ IBlk w g zs ∧ lo ≤ g := by
  rcases uh HA with ⟨rfl, _⟩ | ⟨g, c', h1, h2, h3, h4, h5⟩
  ·simp at hi
  cases h1; exact ⟨g, rfl, rfl, h2, h3, h4, h5⟩
 subst hao
 have hIB2 := hIB.of ((uh HK).block g hIB.lt)
 have hgb : b ≠ g := by omega
 have HB2 := hide ((uh HB).below (uh HK) (uh HB).lt)
 have HKl := hide ((uh HK).mono hlo)
 unfold maxLen at hcm
 match hzs : zs, h2, hnd with
 | [z], _, _ =>
  have hi0 : i = 0 := by simp at hi; omega
  subst hi0
  have hn1 : n = 1 := by simpa using hnl
  subst hn1
  have hz : z = D := hat
  have HE : Hid (inP d zs = []) := by show _ = _; rw [hzs, uh HP, hz]; simp
  have hcr := run_clear_one w2 g 0 c _ (hIB2.cell (j := 0) (by simp)) hIB2.free
  have HBF := hide ((uh HKl).setCell (p := ⟨g, 0, none⟩) hgl (.int .i64 0))
  have hc1 : (1 : Int) ≤ (c : Int) := by omega
  have hc2 : ¬ c = 0 := by omega
  clear hat hbe hnl hi HA hzs
  go_wp2_with fail
  go_loopw [5, 6] (fun p q wr => p = .int .i64 0 ∧ q = .int .i64 1 ∧ wr = w2) (fun _ _ _ => 0)
  case atStart => exact ⟨rfl, rfl, rfl⟩
  case round =>
   obtain ⟨rfl, rfl, rfl⟩ := hrel
   go_wp2_with fail
   go_ret
   rw [uh HE]
   exact ⟨uh HBF, some ⟨g, 0, none⟩, c, g, rfl, .inl rfl, fun _ => hgl⟩
 | [z0, z1], _, hnd =>
  have hn2 : n = 2 := by simpa using hnl
  subst hn2
  have hne : z0 ≠ z1 := by
   have := hnd
   simp at this
   exact this
  have hc1 : (2 : Int) ≤ (c : Int) := by omega
  have hc1' : (1 : Int) ≤ (c : Int) := by omega
  have hc2 : ¬ c = 1 := by omega
  have hc3 : ¬ c = 0 := by omega
  have hcc0 : w2.cell? ⟨g, 0, none⟩ = some (.int .i64 z0) := hIB2.cell (j := 0) (by simp)
  have hcc1 : w2.cell? ⟨g, 1, none⟩ = some (.int .i64 z1) := hIB2.cell (j := 1) (by simp)
  have hff0 : w2.frozen? ⟨g, 0, none⟩ = false := hIB2.free
  have hff1 : w2.frozen? ⟨g, 1, none⟩ = false := hIB2.free
  have hi2 : i = 0 ∨ i = 1 := by simp at hi; omega
  rcases hi2 with hi2 | hi2
  ·subst hi2
   have hz : z0 = D := hat
   have hz1 : z1 ≠ D := fun e => hne (hz.trans e.symm)
   have HE : Hid (inP d zs = [z1]) := by show _ = _; rw [hzs, uh HP, hz]; simp [hz1]
   have HCC1 := hide hcc1
   have HCC0 := hide hcc0
   have HFF0 := hide hff0
   have HIB2 := hide hIB2
   have HNZ := hide hz1
   clear hat hbe hnl hi HA hne hz hz1 hcc1 hcc0 hff0 hff1 hIB hIB2 hnd hzs
   go_wp2_with fail
   go_loopw [5, 6] (fun p q wr => (p = .int .i64 0 ∧ q = .int .i64 1 ∧ wr = w2) ∨ (p = .int .i64 1 ∧ q = .int .i64 2 ∧ IBlk wr g [z1, z1] ∧ Below lo w wr)) (fun _ q _ => 2 - (intOf q).toNat)
   case atStart => exact .inl ⟨rfl, rfl, rfl⟩
   case round =>
    rcases hrel with ⟨rfl, rfl, rfl⟩ | ⟨rfl, rfl, hI3, hB3⟩
    ·have hcc1 := uh HCC1
     go_wp2_with fail
     refine (fill1_any z1 b d hd po qo np cp nq cq wr (uh HB2)).mono ?_
     rintro e w3 ⟨rfl, hk3⟩
     have he1 : (z1 == ((d + 1 : Nat) : Int)) = false := by rw [beq_eq_false_iff_ne, uh HDD]; exact uh HNZ
     rw [he1]
     clear he1
     have hI3 := (uh HIB2).of (hk3.block g (uh HIB2).lt)
     have c0 : w3.cell? ⟨g, 0, none⟩ = some (.int .i64 z0) := hI3.cell (j := 0) (by simp)
     have f0 : w3.frozen? ⟨g, 0, none⟩ = false := hI3.free
     have HI4 := hide (hI3.set 0 z1 (by simp))
     have HB4 := hide (((uh HKl).trans (hk3.mono (by omega))).setCell (p := ⟨g, 0, none⟩) hgl (.int .i64 z1))
     clear hk3 hI3
     go_wp2_with fail
     go_roundw
     case rel => exact .inr ⟨rfl, rfl, uh HI4, uh HB4⟩
     case measure => simp [intOf]
    have hcr := run_clear_one wr g 1 (c - 1) _ (hI3.cell (j := 1) (by simp)) hI3.free
    have HBF := hide (hB3.setCell (p := ⟨g, 1, none⟩) hgl (.int .i64 0))
    have HC := hide ((hI3.set 1 0 (by simp)).cell (j := 0) (by simp))
    clear hI3 hB3
    go_wp2_with fail
    go_ret
    rw [uh HE]
    exact ⟨uh HBF, some ⟨g, 0, none⟩, c, g, rfl, irow_one (uh HC), fun _ => hgl⟩
  subst hi2
  have hz : z1 = D := hat
  have hz1 : z0 ≠ D := fun e => hne (e.trans hz.symm)
  have HE : Hid (inP d zs = [z0]) := by show _ = _; rw [hzs, uh HP, hz]; simp [hz1]
  have hcr := run_clear_one w2 g 1 (c - 1) _ hcc1 hff1
  have HBF := hide ((uh HKl).setCell (p := ⟨g, 1, none⟩) hgl (.int .i64 0))
  have HC := hide ((hIB2.set 1 0 (by simp)).cell (j := 0) (by simp))
  clear hat hbe hnl hi HA hne hz hz1 hcc1 hcc0 hff0 hff1 hIB hIB2 hnd hzs
  go_wp2_with fail
  go_loopw [5, 6] (fun p q wr => p = .int .i64 1 ∧ q = .int .i64 2 ∧ wr = w2) (fun _ _ _ => 0)
  case atStart => exact ⟨rfl, rfl, rfl⟩
  case round =>
   obtain ⟨rfl, rfl, rfl⟩ := hrel
   go_wp2_with fail
   go_ret
   rw [uh HE]
   exact ⟨uh HBF, some ⟨g, 0, none⟩, c, g, rfl, irow_one (uh HC), fun _ => hgl⟩
end Go.Proofs.YtjdikhelabibnaaGreat

namespace Go.Proofs.YtjdikhelabibnaaGreat
open Go.RowKit
set_option maxRecDepth 100000 in
set_option maxHeartbeats 4000000 in
theorem put_any (d : Nat) (hd : d ≤ 14) (gp gq gR n cp cq N cR : Nat) (P Q : List Nat) (cur : Array Value) (i : Nat) (hi : i ≤ 16) (hiN : i < N) (v : Value) (gr : Nat) (r : List Nat) (w : World)
  (hP : Blk w gp P) (hQ : Blk w gq Q) (hPl : P.length = n) (hQl : Q.length = n) (hPb : Bs P) (hQb : Bs Q) (hne : gp ≠ gq) (hA : Arg w v gr r) (hr : r.length = n) (hg : r ≠ [] → gr ≠ gp ∧ gr ≠ gq ∧ gr ≠ gR) (hn : n ≤ 100000)
  (hR : w.heap[gR]? = some (.cells cur 47 (0, 0))) (hN : N ≤ cur.size) :
  Calls Tryz.prog 138 #[sv d (.slice (some ⟨gp, 0, none⟩) n cp) (.slice (some ⟨gq, 0, none⟩) n cq), .slice (some ⟨gR, 0, none⟩) N cR, .int .i64 (i : Int), v] w fun e w' =>
   (∃ u, e = .returned u) ∧ Blk w' gp (addF P r (shP d i)) ∧ Blk w' gq (addF Q r (shQ d i)) ∧ w'.heap[gR]? = some (.cells (cur.setIfInBounds i v) 47 (0, 0)) ∧ Kp [gp, gq, gR] w w' := by
 have hpl := hP.lt
 have hql := hQ.lt
 have hRl := lt_of_block hR
 have hpR : gp ≠ gR := fun e => by
  obtain ⟨c1, h1, _⟩ := hP
  rw [e, hR] at h1
  simp at h1
 have hqR : gq ≠ gR := fun e => by
  obtain ⟨c1, h1, _⟩ := hQ
  rw [e, hR] at h1
  simp at h1
 obtain ⟨ao, c, hv, _⟩ := hA.ex
 have hiN' : (i : Int) < (N : Int) := by omega
 obtain ⟨x0, hx0⟩ : ∃ x0, w.cell? ⟨gR, i, none⟩ = some x0 := by
  have : i < cur.size := by omega
  exact ⟨cur[i], by simp [World.cell?, hR, this]⟩
 have hf0 : w.frozen? ⟨gR, i, none⟩ = false := by simp [World.frozen?, hR]
 have HW : Hid (∃ W, (w.setCell ⟨gR, i, none⟩ v).alloc (.cells #[.int .i64 (d : Int), .slice (some ⟨gp, 0, none⟩) n cp, .slice (some ⟨gq, 0, none⟩) n cq] 103) = W ∧ SBox W w.heap.size d (.slice (some ⟨gp, 0, none⟩) n cp) (.slice (some ⟨gq, 0, none⟩) n cq) ∧ Kp [gR] w W ∧ W.heap[gR]? = some (.cells (cur.setIfInBounds i v) 47 (0, 0))) := by
  have hsz : (w.setCell ⟨gR, i, none⟩ v).heap.size = w.heap.size := by simp [World.setCell]
  refine ⟨_, rfl, ⟨?_⟩, ((Kp.refl [gR] w).setCell _ _ (.inl (by simp))).alloc _, ?_⟩
  ·have h := World.alloc_heap_new (w.setCell ⟨gR, i, none⟩ v) (.cells #[.int .i64 (d : Int), .slice (some ⟨gp, 0, none⟩) n cp, .slice (some ⟨gq, 0, none⟩) n cq] 103)
   rwa [hsz] at h
  exact (Below.heap_alloc _ _ _ (by rw [hsz]; exact hRl)).trans (heap_setCell_same _ gR i _ _ _ hR)
 have HX : Hid ((w.alloc (.cells #[.int .i64 (d : Int), .slice (some ⟨gp, 0, none⟩) n cp, .slice (some ⟨gq, 0, none⟩) n cq] 103)).cell? ⟨gR, i, none⟩ = some x0 ∧ (w.alloc (.cells #[.int .i64 (d : Int), .slice (some ⟨gp, 0, none⟩) n cp, .slice (some ⟨gq, 0, none⟩) n cq] 103)).frozen? ⟨gR, i, none⟩ = false) :=
  ⟨(World.cell?_of_block (Below.heap_alloc _ _ _ hRl)).trans hx0, (World.frozen?_of_block (a := ⟨gR, i, none⟩) (Below.heap_alloc _ _ _ hRl)).trans hf0⟩
 have HA := hide hA
 have HADD := hide (fun W => add_any5 d hd gp gq n cp cq P Q i hi v gr r W)
 have HP := hide hP
 have HQ := hide hQ
 have HF := hide (And.intro hPl (And.intro hQl (And.intro hPb (And.intro hQb hne))))
 have HG := hide hg
 have HRL := hide hr
 obtain ⟨hX1, hX2⟩ := uh HX
 subst hv
 clear hx0 hf0 hR hA hP hQ hPl hQl hPb hQb hne hg hr HX hN
 unfold sv at *
 go_enter Tryz.func138, Tryz.ntmps138
 go_wp2_with fail
 obtain ⟨W, hW, hSB, hKW, hRW⟩ := uh HW
 rw [hW]
 clear hW HW
 have HKW := hide hKW
 have HRW := hide hRW
 clear hKW hRW hSB
 refine (uh HADD W ((uh HP).of ((uh HKW).block gp hpl (by simpa using hpR))) ((uh HQ).of ((uh HKW).block gq hql (by simpa using hqR))) (uh HF).1 (uh HF).2.1 (uh HF).2.2.1 (uh HF).2.2.2.1 (uh HF).2.2.2.2 ?_ (uh HRL) (fun h => ⟨(uh HG h).1, (uh HG h).2.1⟩) hn).mono ?_
 ·by_cases h0 : r = []
  ·subst h0
   obtain ⟨⟨ao', c', h1, h2, h3, h4, _⟩, hb⟩ := uh HA
   exact ⟨⟨ao', c', h1, h2, h3, h4, .inl rfl⟩, hb⟩
  obtain ⟨⟨ao', c', h1, h2, h3, h4, h5⟩, hb⟩ := uh HA
  exact ⟨⟨ao', c', h1, h2, h3, h4, h5.keep (uh HKW) (by simpa using (uh HG h0).2.2)⟩, hb⟩
 rintro e w4 ⟨⟨u, rfl⟩, hp4, hq4, hk4⟩
 have HF4 := hide (And.intro hp4 (And.intro hq4 (And.intro (hk4.heap (uh HRW) (by simp; omega)) (((uh HKW).mono (S' := [gp, gq, gR]) (by simp)).trans hk4 (by simp)))))
 clear hp4 hq4 hk4
 go_wp2_with fail
 go_end0
 exact ⟨⟨_, rfl⟩, uh HF4⟩
def partF (P Q : List Nat) (a b k : Nat) : Nat := gmul (cf Q k ^^^ gmul (cf P k) b) (pw (a ^^^ b) (-1))
def partL (P Q : List Nat) (a b n : Nat) : List Nat := fillK n (partF P Q a b) n
set_option maxRecDepth 100000 in
set_option maxHeartbeats 8000000 in
theorem parted_any (d : Nat) (hd : d ≤ 14) (gp gq n cp cq : Nat) (P Q : List Nat) (i j : Nat) (hi : i ≤ 16) (hj : j ≤ 16) (w : World)
  (hP : Blk w gp P) (hQ : Blk w gq Q) (hPl : P.length = n) (hQl : Q.length = n) (hPb : Bs P) (hQb : Bs Q) (hn : n ≤ 100000) :
  Calls Tryz.prog 139 #[sv d (.slice (some ⟨gp, 0, none⟩) n cp) (.slice (some ⟨gq, 0, none⟩) n cq), .int .i64 (i : Int), .int .i64 (j : Int)] w fun e w' =>
   ∃ g, e = .returned (.slice (some ⟨g, 0, none⟩) n n) ∧ w.heap.size ≤ g ∧ Blk w' g (partL P Q (shQ d i) (shQ d j) n) ∧ Below w.heap.size w w' := by
 have hpl := hP.lt
 have hql := hQ.lt
 have HP := hide hP
 have HQ := hide hQ
 have HPB := hide hPb
 have HQB := hide hQb
 have HPL := hide hPl
 have HQL := hide hQl
 obtain ⟨a, ha⟩ : ∃ a, shQ d i = a := ⟨_, rfl⟩
 obtain ⟨b, hb⟩ : ∃ b, shQ d j = b := ⟨_, rfl⟩
 have ha8 : a < 256 := by rw [← ha]; exact shQ_lt _ _
 have hb8 : b < 256 := by rw [← hb]; exact shQ_lt _ _
 have HSI := hide (shares_any d hd (some ⟨gp, 0, none⟩) (some ⟨gq, 0, none⟩) n cp n cq i hi)
 have HSJ := hide (shares_any d hd (some ⟨gp, 0, none⟩) (some ⟨gq, 0, none⟩) n cp n cq j hj)
 rw [ha] at HSI ⊢
 rw [hb] at HSJ ⊢
 have hxab := bits_xor_u8 ha8 hb8
 have hab8 : a ^^^ b < 256 := xor_lt ha8 hb8
 clear hP hQ hPb hQb hPl hQl ha hb hi hj
 unfold sv at *
 go_enter Tryz.func139, Tryz.ntmps139
 have HSB : Hid (SBox (w.alloc (.cells #[.int .i64 (d : Int), .slice (some ⟨gp, 0, none⟩) n cp, .slice (some ⟨gq, 0, none⟩) n cq] 103)) w.heap.size d (.slice (some ⟨gp, 0, none⟩) n cp) (.slice (some ⟨gq, 0, none⟩) n cq)) := ⟨World.alloc_heap_new w _⟩
 have HB1 : Hid (Below w.heap.size w (w.alloc (.cells #[.int .i64 (d : Int), .slice (some ⟨gp, 0, none⟩) n cp, .slice (some ⟨gq, 0, none⟩) n cq] 103))) := (Below.refl _ _).alloc (Nat.le_refl _) _
 go_wp2_with fail
 generalize w.alloc (.cells #[.int .i64 (d : Int), .slice (some ⟨gp, 0, none⟩) n cp, .slice (some ⟨gq, 0, none⟩) n cq] 103) = w1 at HSB HB1 ⊢
 refine (uh HSI w1).mono ?_
 rintro e w2 ⟨rfl, hk⟩
 replace HSB := hide ((uh HSB).below hk (uh HSB).lt)
 replace HB1 := hide ((uh HB1).trans (hk.mono (uh HB1).size))
 clear hk HSI
 obtain ⟨⟨c0, c1, c2⟩, _⟩ := three_at (uh HSB).h
 go_wp2_with fail
 refine (uh HSJ w2).mono ?_
 rintro e w3 ⟨rfl, hk⟩
 replace HSB := hide ((uh HSB).below hk (uh HSB).lt)
 replace HB1 := hide ((uh HB1).trans (hk.mono (uh HB1).size))
 clear hk HSJ c0 c1 c2
 go_wp2_with fail
 refine (inv_any (a ^^^ b) hab8 w3).mono ?_
 rintro e w4 ⟨rfl, hk⟩
 replace HSB := hide ((uh HSB).below hk (uh HSB).lt)
 replace HB1 := hide ((uh HB1).trans (hk.mono (uh HB1).size))
 clear hk
 have hv8 : pw (a ^^^ b) (-1) < 256 := pw_lt _ _
 have HF : Hid (∀ k, partF P Q a b k = gmul (cf Q k ^^^ gmul (cf P k) b) (pw (a ^^^ b) (-1))) := fun _ => rfl
 obtain ⟨iv, hiv⟩ : ∃ iv, pw (a ^^^ b) (-1) = iv := ⟨_, rfl⟩
 rw [hiv] at hv8 HF ⊢
 clear hiv
 obtain ⟨⟨c0, c1, c2⟩, _⟩ := three_at (uh HSB).h
 have hmk := run_zeros n (by omega)
 have HZB := hide (blk_zeros n w4)
 obtain ⟨zz, hzz⟩ : ∃ z, (List.replicate n (Value.int .u8 0)).toArray = z := ⟨_, rfl⟩
 rw [hzz] at hmk HZB
 clear hzz
 have HKA : Hid (Below w4.heap.size w4 (w4.alloc (.cells zz 5))) := (Below.refl _ _).alloc (Nat.le_refl _) _
 go_wp2_with fail
 have hsz : w4.heap.size < (w4.alloc (.cells zz 5)).heap.size := by simp
 obtain ⟨q, hq⟩ : ∃ q, w4.heap.size = q := ⟨_, rfl⟩
 have HQ4 := hide hq
 have hwq := (uh HB1).size
 have hbq := (uh HSB).lt
 generalize w4.alloc (.cells zz 5) = wa at HZB HKA hsz ⊢
 rw [hq] at HZB hsz HKA hwq hbq ⊢
 clear hq hmk c0 c1 c2
 go_loopw [36] (fun p wr => ∃ k : Nat, p = .int .i64 k ∧ k ≤ n ∧ Blk wr q (fillK n (partF P Q a b) k) ∧ Kp [q] wa wr) (fun p _ => n - (intOf p).toNat)
 case atStart => exact ⟨0, rfl, by omega, by rw [fillK_zero]; exact uh HZB, Kp.refl _ _⟩
 case round =>
  obtain ⟨k, rfl, hk, hBk, hKk⟩ := hrel
  have HBK := hide hBk
  have HKK := hide hKk
  clear hBk hKk
  have HBW : Hid (Below w.heap.size w wr) := below_kp ((uh HB1).trans ((uh HKA).mono hwq)) (uh HKK) (by simp; omega) (by omega)
  by_cases hkl : k < n
  ·have hk1 : (k : Int) < (n : Int) := by omega
   have hSBw : SBox wr w.heap.size d (.slice (some ⟨gp, 0, none⟩) n cp) (.slice (some ⟨gq, 0, none⟩) n cq) := ((uh HSB).below (uh HKA) hbq).kp (uh HKK) (by simp; omega)
   obtain ⟨⟨_, c1, c2⟩, _⟩ := three_at hSBw.h
   have HC1 := hide c1
   have HC2 := hide c2
   have HP1 := hide (((uh HBW).cell (p := ⟨gp, k, none⟩) hpl).trans ((uh HP).cell (j := k) (by rw [uh HPL]; exact hkl)))
   have HQ1 := hide (((uh HBW).cell (p := ⟨gq, k, none⟩) hql).trans ((uh HQ).cell (j := k) (by rw [uh HQL]; exact hkl)))
   have h1 : cf P k < 256 := uh HPB k
   have h2 : cf Q k < 256 := uh HQB k
   have HST := hide (fillK_step (f := partF P Q a b) hkl)
   rw [uh HF k] at HST
   obtain ⟨x, hx⟩ : ∃ x, cf P k = x := ⟨_, rfl⟩
   obtain ⟨y, hy⟩ : ∃ y, cf Q k = y := ⟨_, rfl⟩
   rw [hx] at HP1 h1 HST
   rw [hy] at HQ1 h2 HST
   have hm8 : gmul x b < 256 := gmul_lt h1
   have hxor := bits_xor_u8 h2 hm8
   have hxm8 : y ^^^ gmul x b < 256 := xor_lt h2 hm8
   clear hx hy c1 c2 hSBw
   go_wp2_with fail
   refine wp_region_noPanic ?_
   refine wp_region_held_drew (S := fun W => Kp [q] wr W) (by kernel_rfl) ((Kp.refl _ _).drew) (fun hHeld => ?_)
   have HH := hide hHeld
   have HBc : Hid (Blk wr.drew q _) := (uh HBK).of rfl
   clear hHeld
   refine tkL 0 (uh HH) ?_
   (try simp only [layB])
   refine tkL 1 (uh HH) ?_
   (try simp only [layB])
   refine tkL 2 (uh HH) ?_
   (try simp only [layB])
   refine tkW 3 (v := ?_) ?_ (uh HH) ?_
   rotate_left 1
   ·intro W1 hSW; have hc := hSW.cell (uh HC2) (by simp; omega); clear hSW; go_simp; all_goals (with_reducible rfl)
   (try simp only [layB])
   refine tkL 4 (uh HH) ?_
   (try simp only [layB])
   refine tkL 5 (uh HH) ?_
   (try simp only [layB])
   refine tkW 6 (v := ?_) ?_ (uh HH) ?_
   rotate_left 1
   ·intro W1 hSW; have hc := hSW.cell (uh HQ1) (by simp; omega); clear hSW; go_simp; all_goals (with_reducible rfl)
   (try simp only [layB])
   refine tkL 7 (uh HH) ?_
   (try simp only [layB])
   refine tkW 8 (v := ?_) ?_ (uh HH) ?_
   rotate_left 1
   ·intro W1 hSW; have hc := hSW.cell (uh HC1) (by simp; omega); clear hSW; go_simp; all_goals (with_reducible rfl)
   (try simp only [layB])
   refine tkL 9 (uh HH) ?_
   (try simp only [layB])
   refine tkL 10 (uh HH) ?_
   (try simp only [layB])
   refine tkW 11 (v := ?_) ?_ (uh HH) ?_
   rotate_left 1
   ·intro W1 hSW; have hc := hSW.cell (uh HP1) (by simp; omega); clear hSW; go_simp; all_goals (with_reducible rfl)
   (try simp only [layB])
   refine tkL 12 (uh HH) ?_
   (try simp only [layB])
   refine tkL 15 (uh HH) ?_
   (try simp only [layB])
   refine wpAnyH_ready (rs := [13]) (by kernel_rfl) (by simp) ?_
   refine consL rfl (fun K hK => ?_) AllReadyH.nil
   go_simp
   refine (mul_any (x) (b) h1 hb8 _).mono ?_
   rintro e w11 ⟨rfl, hk4⟩
   have HB1 : Hid (Blk w11 q _) := (uh HBc).of (hk4.block q (uh HBc).lt)
   have HK4 := hide hk4
   clear hk4
   go_wp2_with fail
   refine hK.out _ _ ((uh HH).ofBelow (uh HK4)) (fun hHeld => ?_)
   clear hK K HH
   have HH := hide hHeld
   clear hHeld
   (try simp only [layB])
   clear HK4
   refine tkL 14 (uh HH) ?_
   (try simp only [layB])
   refine wpAnyH_ready (rs := [16]) (by kernel_rfl) (by simp) ?_
   refine consL rfl (fun K hK => ?_) AllReadyH.nil
   go_simp
   refine (mul_any (y ^^^ gmul x b) (iv) hxm8 hv8 _).mono ?_
   rintro e w12 ⟨rfl, hk4⟩
   have HB2 : Hid (Blk w12 q _) := (uh HB1).of (hk4.block q (uh HB1).lt)
   have HK4 := hide hk4
   clear hk4
   go_wp2_with fail
   refine hK.out _ _ ((uh HH).ofBelow (uh HK4)) (fun hHeld => ?_)
   clear hK K HH
   have HH := hide hHeld
   clear hHeld
   (try simp only [layB])
   clear HK4
   refine tkL 17 (uh HH) ?_
   (try simp only [layB])
   refine wpAnyH_ready (rs := [18]) (by kernel_rfl) (by simp) ?_
   refine consL rfl (fun K hK => ?_) AllReadyH.nil
   have he : w12.cell? ⟨q, k, none⟩ = some (.int .u8 ((cf (fillK n (partF P Q a b) k) k : Nat) : Int)) := (uh HB2).cell (by rw [fillK_len]; exact hkl)
   have hf4 : w12.frozen? ⟨q, k, none⟩ = false := (uh HB2).free
   go_simp
   have HBW2 := hide ((uh HB2).set k (gmul (y ^^^ gmul x b) iv) (by rw [fillK_len]; exact hkl))
   have HKW2 := hide ((uh HH).setCell ⟨q, k, none⟩ (.int .u8 ((gmul (y ^^^ gmul x b) iv : Nat) : Int)) (.inl (by simp)))
   refine hK.out _ _ (uh HKW2) (fun hHeld => ?_)
   clear hHeld hK K HH he hf4
   (try simp only [layB])
   refine wpAnyH_done (by kernel_rfl) ?_ _
   refine NoPanic.normal ?_
   generalize w12.setCell ⟨q, k, none⟩ (.int .u8 ((gmul (y ^^^ gmul x b) iv : Nat) : Int)) = w7 at HBW2 HKW2 ⊢
   go_wp2_with fail
   go_roundw
   case rel => exact ⟨k + 1, by go_num, by omega, by rw [← uh HST]; exact uh HBW2, (uh HKK).trans (uh HKW2) (by simp)⟩
   case measure => simp [intOf]; omega
  have hk2 : k = n := by omega
  subst hk2
  go_wp2_with fail
  go_ret
  exact ⟨q, rfl, by omega, uh HBK, uh HBW⟩
end Go.Proofs.YtjdikhelabibnaaGreat

namespace Go.Proofs.YtjdikhelabibnaaGreat
theorem all_P {l : List (List Nat)} (hb : ∀ i, Bs (l.getD i [])) (d k : Nat) : sm (shP d) l (List.range (d + 2)) k = sm (fun _ => 1) l (List.range d) k ^^^ rc l d k := by
 rw [sm_next, sm_next, sm_congr (c' := fun _ => 1) (fun i hi => by have := List.mem_range.1 hi; unfold shP; rw [if_neg (by omega)])]
 have h1 : shP d d = 1 := by unfold shP; rw [if_neg (by omega)]
 have h2 : shP d (d + 1) = 0 := by unfold shP; rw [if_pos rfl]
 rw [h1, h2, gmul_zero, gmul_one (a := rc l d k) (hb d k), Nat.xor_zero]
theorem all_Q {l : List (List Nat)} (hb : ∀ i, Bs (l.getD i [])) (d k : Nat) : sm (shQ d) l (List.range (d + 2)) k = sm E l (List.range d) k ^^^ rc l (d + 1) k := by
 rw [sm_next, sm_next, sm_congr (c' := E) (fun i hi => by have := List.mem_range.1 hi; unfold shQ; rw [if_neg (by omega), if_neg (by omega)])]
 have h1 : shQ d d = 0 := by unfold shQ; rw [if_pos rfl]
 have h2 : shQ d (d + 1) = 1 := by unfold shQ; rw [if_neg (by omega), if_pos rfl]
 rw [h1, h2, gmul_zero, gmul_one (a := rc l (d + 1) k) (hb (d + 1) k), Nat.xor_zero]
theorem getD_take {l : List (List Nat)} {d i : Nat} (h : i < d) : (l.take d).getD i [] = l.getD i [] := by
 rw [List.getD_eq_getElem?_getD, List.getD_eq_getElem?_getD, List.getElem?_take, if_pos h]
theorem sm_take (c : Nat → Nat) (l : List (List Nat)) (d k : Nat) : sm c (l.take d) (List.range d) k = sm c l (List.range d) k := xsum_congr (fun i hi => by
 show gmul (rc (l.take d) i k) (c i) = _
 unfold rc
 rw [getD_take (List.mem_range.1 hi)])
theorem xor_nil {a b : Nat} : a ^^^ b = 0 ↔ a = b := by
 refine ⟨fun h => ?_, fun h => by rw [h, Nat.xor_self]⟩
 have := congrArg (· ^^^ b) h
 simpa [Nat.xor_assoc, Nat.xor_self] using this
theorem okC_parts {l : List (List Nat)} (h : okC l = true) : 4 ≤ l.length ∧ l.length ≤ 16 ∧ ∀ i, i < l.length → (l.getD i []).length = size l := by
 unfold okC at h
 rw [Bool.and_eq_true, Bool.and_eq_true, decide_eq_true_eq, decide_eq_true_eq] at h
 exact ⟨h.1.1, h.1.2, fun i hi => (evn_iff l).1 h.2 i hi⟩
theorem take_ok {l : List (List Nat)} {d s : Nat} (hl : l.length = d + 2) (h1 : 2 ≤ d) (h2 : d ≤ 14) (hs : ∀ i, i < d → (l.getD i []).length = s) : okP (l.take d) = true ∧ size (l.take d) = s ∧ (l.take d).length = d := by
 have hlt : (l.take d).length = d := by simp; omega
 obtain ⟨a, b⟩ := okP_of hlt h1 h2 (fun i hi => by rw [getD_take hi]; exact hs i hi)
 exact ⟨a, b, hlt⟩
theorem chk_eq {l : List (List Nat)} {d : Nat} (hl : l.length = d + 2) (hb : ∀ i, Bs (l.getD i [])) (h : okC l = true) : chk l = (decide (pP (l.take d) = l.getD d []) && decide (pQ (l.take d) = l.getD (d + 1) [])) := by
 obtain ⟨h4, h16, hs⟩ := okC_parts h
 obtain ⟨o1, o2, o3⟩ := take_ok hl (by omega) (by omega) (fun i hi => hs i (by omega))
 have e1 : nil0 (allP l) = decide (pP (l.take d) = l.getD d []) := by
  rw [Bool.eq_iff_iff, nil0_iff, decide_eq_true_eq, (par_of o1).1, o2, o3]
  unfold allP
  rw [smL_len, hl, show d + 2 - 2 = d from by omega]
  refine ⟨fun hz => eq_of_cf (by rw [smL_len, hs d (by omega)]) (fun k => ?_), fun he k hk => ?_⟩
  ·rw [cf_smL]
   by_cases hk : k < size l
   ·have h2 := hz k hk
    rw [cf_smL, if_pos hk, all_P hb, xor_nil] at h2
    rw [if_pos hk, sm_take]
    exact h2
   rw [if_neg hk, cf_ge (by rw [hs d (by omega)]; omega)]
  rw [cf_smL, if_pos hk, all_P hb, xor_nil]
  have h2 := congrArg (fun s => cf s k) he
  simp only [cf_smL, if_pos hk, sm_take] at h2
  exact h2
 have e2 : nil0 (allQ l) = decide (pQ (l.take d) = l.getD (d + 1) []) := by
  rw [Bool.eq_iff_iff, nil0_iff, decide_eq_true_eq, (par_of o1).2, o2, o3]
  unfold allQ
  rw [smL_len, hl, show d + 2 - 2 = d from by omega]
  refine ⟨fun hz => eq_of_cf (by rw [smL_len, hs (d + 1) (by omega)]) (fun k => ?_), fun he k hk => ?_⟩
  ·rw [cf_smL]
   by_cases hk : k < size l
   ·have h2 := hz k hk
    rw [cf_smL, if_pos hk, all_Q hb, xor_nil] at h2
    rw [if_pos hk, sm_take]
    exact h2
   rw [if_neg hk, cf_ge (by rw [hs (d + 1) (by omega)]; omega)]
  rw [cf_smL, if_pos hk, all_Q hb, xor_nil]
  have h2 := congrArg (fun s => cf s k) he
  simp only [cf_smL, if_pos hk, sm_take] at h2
  exact h2
 unfold chk
 rw [h, e1, e2, Bool.true_and]
end Go.Proofs.YtjdikhelabibnaaGreat
