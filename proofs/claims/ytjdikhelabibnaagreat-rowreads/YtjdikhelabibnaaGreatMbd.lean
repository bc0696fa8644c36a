/-
  
-/
import Derived.Test.YtjdikhelabibnaaGreatMbb
import Derived.Test.YtjdikhelabibnaaGreatMbc
import Derived.Test.YtjdikhelabibnaaGreatMal
import Derived.Test.YtjdikhelabibnaaGreatMay
import Derived.Test.YtjdikhelabibnaaGreatMah
import Derived.RangeFuncNested
import Derived.Test.YtjdikhelabibnaaGreatMat
import Derived.Test.YtjdikhelabibnaaGreatMaj
namespace Go.Proofs.YtjdikhelabibnaaGreat
open Go Go.RowKit Go.Shelf
attribute [local go_sem] Oper.semAt_some
theorem OwnR.keptc {base : Nat} {w w' : World} {v : Value} {ps : List (Option Addr × Nat)} {l : List (List Nat)} {row : Option Nat} (h : OwnR base w v ps l) (hg : w.grownBy w' row) (hr : ∀ r, row = Option.some r → ∃ o : Obj, w.heap[r]? = Option.some o ∧ o.isCells = false) : OwnR base w' v ps l := by
 refine ⟨h.len, ⟨h.own.1, ?_⟩, fun i hi => ?_⟩
 ·rcases h.own.2 with hn | ⟨g, cap, cur, h1, h2, h3, h4⟩
  ·exact .inl hn
  refine .inr ⟨g, cap, cur, h1, h2, ?_, h4⟩
  rw [hg.block g (Array.getElem?_eq_some_iff.1 h3).1 (fun e => by
   obtain ⟨o, ho, hc⟩ := hr g e.symm
   rw [h3] at ho; cases ho; cases hc)]
  exact h3
 obtain ⟨g, hA⟩ := h.rows i hi
 exact ⟨g, hA.kept hg hr⟩
theorem OwnR.vshape {base : Nat} {w : World} {v : Value} {ps : List (Option Addr × Nat)} {l : List (List Nat)} (h : OwnR base w v ps l) : ∃ a n c, v = .slice a n c := by
 rcases h.shape with ⟨h1, -⟩ | ⟨g, cap, h1, -⟩
 ·exact ⟨_, _, _, h1⟩
 exact ⟨_, _, _, h1⟩
theorem run_append_r (w : World) (base : Nat) (v : Value) (ps : List (Option Addr × Nat)) (l : List (List Nat)) (hO : OwnR base w v ps l) (g0 : Nat) (a : Option Addr) (n c : Nat) (hc : w.heap[g0]? = some (.cells #[.slice a n c] 47 (0, 0))) (hb : l.length ≤ 1000) (hbase : base ≤ w.heap.size) :
  ∃ v' w', (Builtin.append_ #[25, 25] 25 #[v, .slice (some ⟨g0, 0, none⟩) 1 1]).run Tryz.prog w = .ok v' w' ∧ w'.ownsRow base 47 1 v' (l.length + 1) (vals5 ps l ++ [.slice a n c]) ∧ w.grownBy w' v.ownBlock := by
 obtain ⟨i0, hi0, hz0, hz1, hz2⟩ := info_parts infoR
 exact run_append_vals (P := Tryz.prog) (w := w) base 25 25 47 i0 Tryz.underlying25 hi0 hz0 hz1 hz2 v l.length (vals5 ps l) hO.own (some ⟨g0, 0, none⟩) g0 1 1 [.slice a n c] rfl (.inr ⟨0, rfl, fun j u hu => by
  match j, hu with
  | 0, hu => simp at hu; rw [← hu]; exact cell_blk hc rfl
  | j + 1, hu => simp at hu⟩) (by intro u hu; rw [List.mem_singleton.1 hu]; rfl) (fun h => by cases h) (by omega) hbase
theorem run_append_r2 (w : World) (base : Nat) (v : Value) (ps : List (Option Addr × Nat)) (l : List (List Nat)) (hO : OwnR base w v ps l) (g0 : Nat) (a b : Option Addr) (n c m d : Nat) (hc : w.heap[g0]? = some (.cells #[.slice a n c, .slice b m d] 47 (0, 0))) (hb : l.length ≤ 1000) (hbase : base ≤ w.heap.size) :
  ∃ v' w', (Builtin.append_ #[25, 25] 25 #[v, .slice (some ⟨g0, 0, none⟩) 2 2]).run Tryz.prog w = .ok v' w' ∧ w'.ownsRow base 47 1 v' (l.length + 2) (vals5 ps l ++ [.slice a n c, .slice b m d]) ∧ w.grownBy w' v.ownBlock := by
 obtain ⟨i0, hi0, hz0, hz1, hz2⟩ := info_parts infoR
 exact run_append_vals (P := Tryz.prog) (w := w) base 25 25 47 i0 Tryz.underlying25 hi0 hz0 hz1 hz2 v l.length (vals5 ps l) hO.own (some ⟨g0, 0, none⟩) g0 2 2 [.slice a n c, .slice b m d] rfl (.inr ⟨0, rfl, fun j u hu => by
  match j, hu with
  | 0, hu => simp at hu; rw [← hu]; exact cell_blk hc rfl
  | 1, hu => simp at hu; rw [← hu]; exact cell_blk hc rfl
  | j + 2, hu => simp at hu⟩) (by intro u hu; simp only [List.mem_cons, List.not_mem_nil, or_false] at hu; rcases hu with rfl | rfl <;> rfl) (fun h => by cases h) (by omega) hbase
theorem arg_nbE {w : World} {ao : Option Addr} {g c : Nat} {a b cc i : Int} {e : EV} (he : e.Ok) (hc : 48 ≤ c ∧ c ≤ 48) (h : Row w ao g (byT a b cc i e.k e.l e.s e.d)) : Arg w (.slice ao 48 c) g (nbE a b cc i e) := by
 refine ⟨⟨ao, c, by rw [nbE_len he], by rw [nbE_len he]; exact hc.1, by unfold maxLen; omega, fun hn => ?_, by rw [nbE_ints he]; exact h⟩, nbE_bs he⟩
 rcases h with h | ⟨o, h, -⟩
 ·have := byW_len (a := a) (b := b) (c := cc) (e := i) (k := e.k) (l := e.l) (s := e.s) (d := e.d) (t := [0, 0, 0, 0]) he.len rfl
  rw [show byW a b cc i e.k e.l e.s e.d [0, 0, 0, 0] = [] from h] at this
  simp at this
 rw [hn] at h; cases h
theorem wpIn_region_roundK {P : Program} {ops : Array Oper} {Q : Exit → Act → World → Prop} {kk : Nat} {S : World → Prop} {id : Nat} {a : Act} {w : World} {l n : Nat} (hm : P.follows .mixedOrders = true) (hc : calm ops = true) (hQ : ¬ LetsOut Q)
  (h : anyK P .any ops Q kk S ops.size (Array.replicate ops.size false) a w.drew) : (Code.region id ops true).wpIn (Fence.wide.inRound l) n P Q a w :=
 wpIn_region_any hm (wpAnyIn_of l n hc hQ _ _ _ _ (any_of_K _ _ _ _ h))
theorem ownr_block {base : Nat} {w : World} {v : Value} {ps : List (Option Addr × Nat)} {l : List (List Nat)} {k : Nat} (h : OwnR base w v ps l) (hk : v.ownBlock = some k) : base ≤ k ∧ ∃ cur, w.heap[k]? = some (.cells cur 47 (0, 0)) := by
 rcases h.own.2 with ⟨h1, -⟩ | ⟨q, cap, cur, h1, h2, h3, -⟩
 ·rw [h1] at hk; cases hk
 rw [h1] at hk; cases hk; exact ⟨h2, cur, h3⟩
structure OwnQ (base : Nat) (w : World) (v : Value) (l : List (List Nat)) : Prop where
 ex : ∃ ps, OwnR base w v ps l ∧ ∀ i, i < l.length → ∃ g, Arg w (.slice (psA ps i) (l.getD i []).length (psC ps i)) g (l.getD i []) ∧ ∃ cur, w.heap[g]? = some (.cells cur 5 (0, 0))
theorem OwnQ.nil (base : Nat) (w : World) : OwnQ base w (.slice none 0 0) [] := ⟨[], OwnR.nil _ _, fun i hi => by simp at hi⟩
theorem OwnQ.below {base : Nat} {w w' : World} {v : Value} {l : List (List Nat)} (h : OwnQ base w v l) (k : Below w.heap.size w w') : OwnQ base w' v l := by
 obtain ⟨ps, h1, h2⟩ := h.ex
 refine ⟨ps, h1.below k, fun i hi => ?_⟩
 obtain ⟨g, hA, cur, hc⟩ := h2 i hi
 exact ⟨g, hA.below k, cur, (k.block g (Array.getElem?_eq_some_iff.1 hc).1).trans hc⟩
theorem OwnQ.keptc {base : Nat} {w w' : World} {v : Value} {l : List (List Nat)} {row : Option Nat} (h : OwnQ base w v l) (hg : w.grownBy w' row) (hr : ∀ r, row = some r → ∃ o : Obj, w.heap[r]? = some o ∧ o.isCells = false) : OwnQ base w' v l := by
 obtain ⟨ps, h1, h2⟩ := h.ex
 refine ⟨ps, h1.keptc hg hr, fun i hi => ?_⟩
 obtain ⟨g, hA, cur, hc⟩ := h2 i hi
 exact ⟨g, hA.kept hg hr, cur, (grow_cells hg hr hc).trans hc⟩
theorem OwnQ.vshape {base : Nat} {w : World} {v : Value} {l : List (List Nat)} (h : OwnQ base w v l) : ∃ a n c, v = .slice a n c := by
 obtain ⟨ps, h1, -⟩ := h.ex
 exact h1.vshape
theorem OwnQ.block {base : Nat} {w : World} {v : Value} {l : List (List Nat)} {k : Nat} (h : OwnQ base w v l) (hk : v.ownBlock = some k) : base ≤ k ∧ ∃ cur, w.heap[k]? = some (.cells cur 47 (0, 0)) := by
 obtain ⟨ps, h1, -⟩ := h.ex
 exact ownr_block h1 hk
theorem OwnQ.snoc {base : Nat} {w : World} {v : Value} {l : List (List Nat)} (h : OwnQ base w v l) {g0 : Nat} {a : Option Addr} {c : Nat} {r : List Nat} {g : Nat} {cur0 : Array Value} (hr : Arg w (.slice a r.length c) g r) (hty : w.heap[g]? = some (.cells cur0 5 (0, 0)))
  (hc : w.heap[g0]? = some (.cells #[.slice a r.length c] 47 (0, 0))) (hb : l.length ≤ 1000) (hbase : base ≤ w.heap.size) :
  ∃ v' w', (Builtin.append_ #[25, 25] 25 #[v, .slice (some ⟨g0, 0, none⟩) 1 1]).run Tryz.prog w = .ok v' w' ∧ OwnQ base w' v' (l ++ [r]) ∧ w.grownBy w' v.ownBlock := by
 obtain ⟨ps, h1, h2⟩ := h.ex
 obtain ⟨v', w', hr1, ho, hg⟩ := run_append_r w base v ps l h1 g0 a r.length c hc hb hbase
 have hne : ∀ {q : Nat} {cq : Array Value}, w.heap[q]? = some (.cells cq 5 (0, 0)) → v.ownBlock ≠ some q := fun hq e => by
  obtain ⟨-, cc, hcc⟩ := ownr_block h1 e
  rw [hq] at hcc
  simp at hcc
 have hk : ∀ {q : Nat} {cq : Array Value}, w.heap[q]? = some (.cells cq 5 (0, 0)) → w'.heap[q]? = some (.cells cq 5 (0, 0)) := fun {q cq} hq => (hg.block q (Array.getElem?_eq_some_iff.1 hq).1 (fun e => hne hq e.symm)).trans hq
 have hrow : ∀ i, i < l.length → ∃ g, Arg w' (.slice (psA ps i) (l.getD i []).length (psC ps i)) g (l.getD i []) ∧ ∃ cur, w'.heap[g]? = some (.cells cur 5 (0, 0)) := fun i hi => by
  obtain ⟨q, hA, cq, hq⟩ := h2 i hi
  exact ⟨q, hA.grown hg (fun _ => hne hq), cq, hk hq⟩
 have hlast : Arg w' (.slice a r.length c) g r := hr.grown hg (fun _ => hne hty)
 have hO : OwnR base w' v' (ps ++ [(a, c)]) (l ++ [r]) := OwnR.snoc h1 ho (fun i hi => by obtain ⟨q, hA, -⟩ := hrow i hi; exact ⟨q, hA⟩) rfl ⟨g, hlast⟩
 refine ⟨v', w', hr1, ⟨_, hO, fun i hi => ?_⟩, hg⟩
 rw [List.length_append, List.length_cons, List.length_nil] at hi
 by_cases e : i = l.length
 ·subst e
  rw [getD_last]
  obtain ⟨e1, e2⟩ := ps_last (ps := ps) (a := a) (c := c) (n := l.length) h1.len.symm
  rw [e1, e2]
  exact ⟨g, hlast, cur0, hk hty⟩
 have hi' : i < l.length := by omega
 rw [getD_snoc hi']
 obtain ⟨e1, e2⟩ := ps_snoc (ps := ps) (a := a) (c := c) (i := i) (by rw [h1.len]; exact hi')
 rw [e1, e2]
 exact hrow i hi'
theorem OwnQ.set {base : Nat} {w : World} {v u u' : Value} {l : List (List Nat)} {k : Nat} {t : TypeId} (h : OwnQ base w v l) (hk : k < base) (hb : Boxed w k t u') (ht : t ≠ 5) : OwnQ base (w.setCell ⟨k, 0, none⟩ u) v l := by
 obtain ⟨ps, h1, h2⟩ := h.ex
 have hoth : ∀ q, q ≠ k → (w.setCell ⟨k, 0, none⟩ u).heap[q]? = w.heap[q]? := fun q hq => Below.heap_setCell _ _ _ _ (fun e => hq e)
 have hne : ∀ {q : Nat} {cq : Array Value}, w.heap[q]? = some (.cells cq 5 (0, 0)) → q ≠ k := fun hq e => by
  rw [e, show w.heap[k]? = _ from hb] at hq
  simp at hq
  exact ht hq.2
 have hrow : ∀ i, i < l.length → ∃ g, Arg (w.setCell ⟨k, 0, none⟩ u) (.slice (psA ps i) (l.getD i []).length (psC ps i)) g (l.getD i []) ∧ ∃ cur, (w.setCell ⟨k, 0, none⟩ u).heap[g]? = some (.cells cur 5 (0, 0)) := fun i hi => by
  obtain ⟨q, hA, cq, hq⟩ := h2 i hi
  exact ⟨q, hA.grown (grownBy_setCell' w k u) (fun _ e => hne hq (by cases e; rfl)), cq, (hoth q (hne hq)).trans hq⟩
 refine ⟨ps, ⟨h1.len, ⟨h1.own.1, ?_⟩, fun i hi => by obtain ⟨q, hA, -⟩ := hrow i hi; exact ⟨q, hA⟩⟩, hrow⟩
 rcases h1.own.2 with hn | ⟨g, cap, cur, e1, e2, e3, e4⟩
 ·exact .inl hn
 exact .inr ⟨g, cap, cur, e1, e2, (hoth g (by omega)).trans e3, e4⟩
set_option maxRecDepth 100000 in
set_option maxHeartbeats 16000000 in
theorem enc11_any (n a b cc : Int) (ao : Option Addr) (m c g : Nat) (L : List EV) (w : World) (hL : EArg w (.slice ao m c) g L) :
  Calls Tryz.prog 11 #[.int .i64 n, .int .i64 a, .int .i64 b, .int .i64 cc, .slice ao m c] w fun e w' => EncR w w' e n a b cc L := by
 have HL := hide hL
 obtain ⟨hln, -, -, hrow⟩ := hL.mrow
 have HLN := hide hln
 clear hL hrow hln
 refine (callsIn_wide (n := 3)).1 ?_
 refine callsIn_of_wp_marks Tryz.func11 rfl trivial ?_ rfl
 simp only [Tryz.ntmps11, List.size_toArray, List.length_cons, List.length_nil, Nat.reduceAdd, Nat.reduceSub, Array.replicate_succ, Array.replicate_zero, List.push_toArray, List.append_toArray, List.nil_append, List.cons_append]
 by_cases h1 : 6 ≤ n ∧ n ≤ 8
 rotate_left 1
 ·have hno : ¬ okRow n a b cc L := fun h => h1 h.1
  have HNO := hide hno
  have H1 := hide (decide_eq_false h1)
  clear hno h1
  refine wpIn_wide.2 ?_
  go_wp2_with fail
  refine (dies_any n _ false (uh H1)).mono ?_
  rintro e w1 ⟨rfl, rfl⟩
  go_wp2
  exact ⟨_, results_tmp2 rfl _ _ _, (Below.refl _ w).alloc (Nat.le_refl _) _, .inr ⟨uh HNO, rfl⟩⟩
 obtain ⟨d, hd⟩ : ∃ d : Nat, n = (d : Int) + 2 := ⟨(n - 2).toNat, by omega⟩
 have hd4 : 4 ≤ d ∧ d ≤ 6 := by omega
 obtain ⟨hd4, hd6⟩ := hd4
 subst hd
 have H1 := hide (decide_eq_true h1)
 have hnn : (d : Int) + 2 - 2 = (d : Int) := by omega
 clear h1
 refine wpIn_wide.2 ?_
 go_wp2_with fail
 refine (dies_any _ _ true (uh H1)).mono ?_
 rintro e w1 ⟨rfl, hw1⟩
 have hq0 : HdAt w1 w.heap.size a b cc 0 := by rw [hw1]; exact ⟨World.alloc_heap_new w _⟩
 have hk0 : Below w.heap.size w w1 := by rw [hw1]; exact (Below.refl _ w).alloc (Nat.le_refl _) _
 have hz1 : w.heap.size + 1 ≤ w1.heap.size := by rw [hw1]; simp
 clear hw1
 obtain ⟨c0, c1, c2, c3, -⟩ := hq0.cells
 have Q0 := hide hq0
 have HT := hide hk0
 clear hq0 hk0
 go_wp2_with fail
 have hh := headM_any a b cc 0 w1
 unfold headA at hh
 refine hh.mono ?_
 rintro e w2 ⟨rfl, hk⟩
 replace HT := hide ((uh HT).trans (hk.mono (uh HT).size))
 replace Q0 := hide ((uh Q0).below hk)
 have hz2 : w.heap.size + 1 ≤ w2.heap.size := by have := hk.size; omega
 clear hk hh c0 c1 c2 c3 hz1
 by_cases h2 : okH a b cc
 rotate_left 1
 ·have hno : ¬ okRow ((d : Int) + 2) a b cc L := fun h => h2 h.2.1
  have HNO := hide hno
  rw [decide_eq_false h2]
  clear hno h2
  go_wp2
  exact ⟨_, results_tmp2 rfl _ _ _, uh HT, .inr ⟨uh HNO, rfl⟩⟩
 have H2 := hide h2
 rw [decide_eq_true h2]
 clear h2
 go_wp2_with fail
 refine (entM_any ao m c g L (d : Int) (by omega) w2 ((uh HL).below (uh HT))).mono ?_
 rintro e w3 ⟨rfl, hk⟩
 replace HT := hide ((uh HT).trans (hk.mono (uh HT).size))
 replace Q0 := hide ((uh Q0).below hk)
 have hz3 : w.heap.size + 1 ≤ w3.heap.size := by have := hk.size; omega
 clear hk hz2
 obtain ⟨r, hr⟩ : ∃ r, (decide ((m : Int) ≤ (d : Int)) && decide (okL L)) = r := ⟨_, rfl⟩
 have HR := hide hr
 rw [hr]
 cases r
 ·have hno : ¬ okRow ((d : Int) + 2) a b cc L := fun h => by
   rw [decide_eq_true (show (m : Int) ≤ (d : Int) by have := h.2.2.1; rw [uh HLN] at this; omega), decide_eq_true h.2.2.2] at hr
   cases hr
  have HNO := hide hno
  clear hno hr
  go_wp2
  exact ⟨_, results_tmp2 rfl _ _ _, uh HT, .inr ⟨uh HNO, rfl⟩⟩
 have hyes : okRow ((d : Int) + 2) a b cc L := by
  rw [Bool.and_eq_true] at hr
  exact ⟨⟨by omega, by omega⟩, uh H2, by have := of_decide_eq_true hr.1; rw [uh HLN]; omega, of_decide_eq_true hr.2⟩
 have HYES := hide hyes
 clear hyes hr HR
 go_wp2_with fail
 obtain ⟨w4, hw4⟩ : ∃ w4, w3.alloc (.cells #[.slice none 0 0] 25) = w4 := ⟨_, rfl⟩
 have hk34 : Below w3.heap.size w3 w4 := by rw [← hw4]; exact (Below.refl _ w3).alloc (Nat.le_refl _) _
 have hb4 : Boxed w4 w3.heap.size 25 (.slice none 0 0) := by rw [← hw4]; exact Boxed.new _ _ _
 have hz4 : w4.heap.size = w3.heap.size + 1 := by rw [← hw4]; exact World.size_alloc _ _
 rw [hw4]
 clear hw4
 refine (slotsE_any ao m c ((d : Int) + 2) w4).mono ?_
 rintro e w5 ⟨rfl, k1, k2, hz5, hk⟩
 have hk35 := hk34.trans (hk.mono hk34.size)
 replace HT := hide ((uh HT).trans (hk35.mono (uh HT).size))
 replace Q0 := hide ((uh Q0).below hk35)
 have HB4 := hide (Boxed.below hb4 hk)
 have HL5 := hide ((uh HL).below (uh HT))
 have HS := hide (slotsE_seq (d := d) (by omega) (uh HL5) k2 k1)
 have hz5a : w3.heap.size + 3 ≤ w5.heap.size := by omega
 have HZ4 : Hid (w4.heap.size = w3.heap.size + 1) := hz4
 have hgl : 0 < m → g < w.heap.size := fun h => (uh HL).lt (fun e => by have := uh HLN; rw [e] at this; simp at this; omega)
 have HGL := hide hgl
 clear hk34 hk hk35 hb4 k1 k2 hz5 hz4 hgl
 go_wp2_with fail
 refine (wpIn_wide (n := 3)).1 ?_
 refine wpIn_rangeFunc_ownH rfl (by omega) (gf := 47) (lb := #[.pointer (some ⟨w4.heap.size + 1, 0, none⟩), .pointer (some ⟨w4.heap.size, 0, none⟩)]) rfl trivial (uh HS).enters
  ((uh HS).seq w5 [w3.heap.size] w5.heap.size (Below.refl _ _) (by have := uh HZ4; intro s hs; rw [List.mem_singleton.1 hs]; rintro (h | ⟨hm, h⟩); omega; have := uh HGL hm; omega) (Nat.le_refl _))
  (fun h k => h.trans k) (kq_b (Nat.le_refl _)) (Below.refl _ _) (fun _ => rfl)
  (fun pre W => (∃ v, Boxed W w3.heap.size 25 v ∧ OwnQ w5.heap.size W v (pre.map (fun x => nbE a b cc (x.val : Nat) (L.getD x.val zEV)))) ∧ (HdAt W w.heap.size a b cc 0 ∧ w5.heap.size ≤ W.heap.size) ∧ Below w.heap.size w W)
  (fun _ _ _ => False)
  (OwnFrom.and (Own.from (fun s A B row hs hg hr => by
   obtain ⟨v, h1, h2⟩ := hs
   exact ⟨v, (grow_cells hg hr h1).trans h1, h2.keptc hg hr⟩) _) (OwnFrom.and (Own.from (fun s A B row hs hg hr => ⟨hs.1.of (grow_cells hg hr hs.1.blk), Nat.le_trans hs.2 hg.size⟩) _) (ownFrom_below (Nat.le_refl _) (by omega))))
  (fun cx => fun _ _ _ _ hs _ _ => hs)
  ⟨⟨.slice none 0 0, uh HB4, OwnQ.nil _ _⟩, ⟨uh Q0, Nat.le_refl _⟩, uh HT⟩
  (fun x a' W => ∃ p, a' = { tmps := #[.int .i64 ((d : Int) + 2), .int .i64 a, .int .i64 b, .int .i64 cc, .slice ao m c, undef, undef, undef, undef, undef, .slice none 0 0, .int .i64 0, .pointer (some ⟨w.heap.size, 0, none⟩), .pointer (some ⟨w3.heap.size, 0, none⟩), .int .i64 (x.val : Nat), .pointer (some ⟨p, 0, none⟩), undef, undef, .int .i64 a, .int .i64 b, .int .i64 cc, .agg #[.int .i64 a, .int .i64 b, .int .i64 cc, .int .i64 0], .int .i64 ((d : Int) + 2), .bool true, .bool false, .bool false, .agg #[.int .i64 a, .int .i64 b, .int .i64 cc, .int .i64 0], .bool true, .bool false, .bool false, .bool false, .slice ao m c, .int .i64 ((d : Int) + 2), .int .i64 (d : Int), .bool true, .bool false, .bool false, .slice ao m c, .int .i64 ((d : Int) + 2), .func (.func 47) #[] #[.pointer (some ⟨w4.heap.size + 1, 0, none⟩), .pointer (some ⟨w4.heap.size, 0, none⟩)], .int .i64 (x.val : Nat), .agg (L.getD x.val zEV).ar, undef, undef, undef, undef, undef, undef, undef, undef, undef, undef, undef, undef, undef, undef, undef, undef, undef, undef], defers := [] } ∧ EvAt W p (L.getD x.val zEV)) (fun x a' => Own.from (fun s A B row hs hg hr => by
   obtain ⟨p, h1, h2⟩ := hs
   exact ⟨p, h1, ⟨(grow_cells hg hr h2.blk).trans h2.blk⟩⟩) _)
  ?assign ?body ?done ?stop
 case stop =>
  rintro D cx pre W hD hpre h hK
  exact h.elim
 case assign =>
  rintro l pre x W K hI hK
  have HKK := hide hK
  have HEO := hide ((uh HL5).get_ok x.val)
  have HEB := hide hI
  clear hK hI
  gi_wp2_with (refine wpListIn_store_new11 rfl 44 _ _ rfl _ (L.getD x.val zEV).ar 44 rfl rfl (by rw [EV.ar_size (uh HEO)]; kernel_rfl) (by rw [EV.ar_size (uh HEO)]; rfl) (EV.ar_one _) ?_)
  have hal := (Below.refl W.heap.size W).alloc (Nat.le_refl _) (.cells (L.getD x.val zEV).ar 44)
  obtain ⟨⟨v, h1, h2⟩, ⟨h3, h4⟩, h5⟩ := uh HEB
  exact (uh HKK) _ _ ((kept_of_below hal).from _) ⟨hal.size, fun k hk _ => hal.block k (by omega)⟩ ⟨⟨v, Boxed.below h1 hal, h2.below hal⟩, ⟨h3.below hal, Nat.le_trans h4 hal.size⟩, h5.trans (hal.mono h5.size)⟩ ⟨_, rfl, ⟨World.alloc_heap_new W _⟩⟩
 case body =>
  rintro l pre x a' W hl hlr ⟨⟨v, hbx, hown⟩, ⟨hhd, hzw⟩, hB⟩ ⟨p, rfl, hev⟩ hlt
  obtain ⟨va, vn, vc, hv⟩ := hown.vshape
  subst hv
  have HEO := hide ((uh HL5).get_ok x.val)
  obtain ⟨ev, hev'⟩ : ∃ ev, L.getD x.val zEV = ev := ⟨_, rfl⟩
  rw [hev'] at hev HEO ⊢
  have HE' := hide hev'
  have HBX := hide hbx
  have HOW := hide hown
  have HHD := hide hhd
  have HZW := hide hzw
  have HB := hide hB
  have HEV := hide hev
  have HPL := hide (show pre.length < d from hlt)
  clear hbx hown hhd hzw hB hev hev' hlr hl
  gi_wp2
  refine wpIn_region_roundK (kk := 8) (S := fun V => Below w5.heap.size W V ∧ V.heap[p]? = W.heap[p]?) (by kernel_rfl) (by kernel_rfl) (fun ⟨_, _, h⟩ => h) ?_
  have HH : Hid (Below w5.heap.size W W.drew ∧ W.drew.heap[p]? = W.heap[p]?) := ⟨((Below.refl _ W).mono (uh HZW)).drew, rfl⟩
  have hpz := (Array.getElem?_eq_some_iff.1 (uh HEV).blk).1
  refine takeK (i := 0) (v := ?_) rfl (by kernel_rfl) (by kernel_rfl) (by kernel_rfl) (by kernel_rfl) (by kernel_rfl) (by kernel_rfl) (fun _ _ _ h => h) (Or.inl ⟨by rfl, ?_⟩) (uh HH) ?_
  rotate_left 1
  ·intro W1 hSW; have hc := Boxed.cell (show Boxed W1 w3.heap.size 25 _ from (hSW.1.block _ (by omega)).trans (uh HBX)); clear hSW; go_simp; all_goals (with_reducible rfl)
  (try simp only [layB])
  refine takeK (i := 1) (v := .agg (headA a b cc 0)) rfl (by kernel_rfl) (by kernel_rfl) (by kernel_rfl) (by kernel_rfl) (by kernel_rfl) (by kernel_rfl) (fun _ _ _ h => h) (Or.inl ⟨by rfl, fun W1 hSW => run_load_agg9 rfl rfl ((HdAt.of (uh HHD) (hSW.1.block _ (by omega))).load)⟩) (uh HH) ?_
  (try simp only [layB])
  refine takeK (i := 2) (v := ?_) rfl (by kernel_rfl) (by kernel_rfl) (by kernel_rfl) (by kernel_rfl) (by kernel_rfl) (by kernel_rfl) (fun _ _ _ h => h) (Or.inl ⟨by rfl, ?_⟩) (uh HH) ?_
  rotate_left 1
  ·intro W1 hSW; go_simp; all_goals (with_reducible rfl)
  (try simp only [layB])
  refine takeK (i := 4) (v := .agg (ev.ar)) rfl (by kernel_rfl) (by kernel_rfl) (by kernel_rfl) (by kernel_rfl) (by kernel_rfl) (by kernel_rfl) (fun _ _ _ h => h) (Or.inl ⟨by rfl, fun W1 hSW => run_load_agg9 rfl rfl ((show EvAt W1 p ev from ⟨hSW.2.trans (uh HEV).blk⟩).load (uh HEO))⟩) (uh HH) ?_
  (try simp only [layB])
  refine readyK (rs := [3]) (by kernel_rfl) (by simp) ?_
  refine consK rfl (fun K hK => ?_) nilK
  go_simp
  refine (on_any _ _ _ _ _ W.drew).mono ?_
  rintro e W6 ⟨rfl, hk⟩
  have HK6 : Hid (Below W.heap.size W W6) := (Below.refl _ W).drew.trans hk
  clear hk
  go_wp2_with fail
  refine hK.out _ _ (fun _ => ⟨(uh HK6).mono (uh HZW), (uh HK6).block p hpz⟩) ?_
  clear hK K
  (try simp only [layB])
  refine readyK (rs := [5]) (by kernel_rfl) (by simp) ?_
  refine consK rfl (fun K hK => ?_) nilK
  go_simp
  refine (bytes_fit a b cc (x.val : Nat) ev.k ev.l ev.s ev.d (uh HEO).len (uh HEO).bs W6).mono ?_
  rintro e W7 ⟨a7, g7, c7, rfl, hc7, hr7, hk, cur7, ht7⟩
  have HA7 := hide (arg_nbE (uh HEO) hc7 hr7)
  have HTY7 := hide ht7
  clear ht7
  have HK7 : Hid (Below W.heap.size W W7) := (uh HK6).trans (hk.mono (uh HK6).size)
  clear hk hc7 hr7
  go_wp2_with fail
  refine hK.out _ _ (fun _ => ⟨(uh HK7).mono (uh HZW), (uh HK7).block p hpz⟩) ?_
  clear hK K
  (try simp only [layB])
  refine readyK (rs := [6]) (by kernel_rfl) (by simp) ?_
  refine consK rfl (fun K hK => ?_) nilK
  go_simp
  obtain ⟨W8, hW8⟩ : ∃ W8, W7.alloc (.cells #[.slice a7 48 c7] 47) = W8 := ⟨_, rfl⟩
  have hk78 : Below W7.heap.size W7 W8 := by rw [← hW8]; exact (Below.refl _ W7).alloc (Nat.le_refl _) _
  have HC8 : Hid (W8.heap[W7.heap.size]? = some (.cells #[.slice a7 48 c7] 47 (0, 0))) := by rw [← hW8]; exact World.alloc_heap_new W7 _
  rw [hW8]
  have HK8 : Hid (Below W.heap.size W W8) := (uh HK7).trans (hk78.mono (uh HK7).size)
  have HA8 := hide ((uh HA7).below hk78)
  have HTY8 := hide ((hk78.block g7 (Array.getElem?_eq_some_iff.1 (uh HTY7)).1).trans (uh HTY7))
  clear hW8 hk78
  refine hK.out _ _ (fun _ => ⟨(uh HK8).mono (uh HZW), (uh HK8).block p hpz⟩) ?_
  clear hK K
  (try simp only [layB])
  refine readyK (rs := [7]) (by kernel_rfl) (by simp) ?_
  refine consK rfl (fun K hK => ?_) nilK
  have HOW8 := hide ((uh HOW).below (uh HK8))
  have hz8 := (uh HK8).size
  have hzw := uh HZW
  have hln := nbE_len (a := a) (b := b) (c := cc) (i := (x.val : Nat)) (uh HEO)
  obtain ⟨v9, w9, hr9, hq9, hg9⟩ := OwnQ.snoc (uh HOW8) (g0 := W7.heap.size) (r := nbE a b cc (x.val : Nat) ev) (a := a7) (c := c7) (g := g7) (by rw [hln]; exact uh HA8) (uh HTY8) (by rw [hln]; exact uh HC8) (by rw [List.length_map]; have := uh HPL; omega) (by omega)
  obtain ⟨ua, un, uc, hu⟩ := hq9.vshape
  subst hu
  have hown8 : ∀ k, (Value.slice va vn vc).ownBlock = some k → w5.heap.size ≤ k ∧ ∃ cur, W8.heap[k]? = some (.cells cur 47 (0, 0)) := fun k hk => (uh HOW8).block hk
  have HS9 := hide hq9
  have HRA := hide hr9
  have HK9 : Hid (Below w5.heap.size W8 w9) := ⟨hg9.os, hg9.tape, hg9.output, hg9.size, fun k hk => hg9.block k (by omega) (fun e => by have := (hown8 k e.symm).1; omega)⟩
  have HKO9 : Hid (KeepsOthers W8 w9) := KeepsOthers.of_grownBy hg9 (fun j o ej hj => by
   obtain ⟨-, cur, hc⟩ := hown8 j ej
   rw [hc] at hj; cases hj; rfl)
  have HP9 : Hid (w9.heap[p]? = W.heap[p]?) := (hg9.block p (by omega) (fun e => by
   obtain ⟨-, cur, hc⟩ := hown8 p e.symm
   rw [(uh HK8).block p hpz, (uh HEV).blk] at hc
   cases hc)).trans ((uh HK8).block p hpz)
  have HK59 : Hid (Below w5.heap.size W w9) := ((uh HK8).mono hzw).trans (uh HK9)
  have HZ9 : Hid (W8.heap.size ≤ w9.heap.size) := hg9.size
  clear hq9 hg9 hr9 hln
  rw [if_pos (by rfl)]
  refine wp_append_run _ (.tmp 42) (.tmp 48) 25 25 (by rfl) _ _ (by rfl) (by rfl) (uh HRA) ?_
  refine hK.out _ _ (fun _ => ⟨uh HK59, uh HP9⟩) ?_
  clear hK K
  (try simp only [layB])
  refine readyK (rs := [8]) (by kernel_rfl) (by simp) ?_
  refine consK rfl (fun K hK => ?_) nilK
  have hb9 : Boxed w9 w3.heap.size 25 (.slice va vn vc) := ((uh HK59).block _ (by omega)).trans (uh HBX)
  have hcx := Boxed.cell hb9
  have hfx := Boxed.frozen hb9
  have HB9 := hide hb9
  clear hb9
  go_simp
  clear hcx hfx
  refine hK.out _ _ (fun h => (by cases h)) ?_
  clear hK K
  (try simp only [layB])
  refine doneK (by kernel_rfl) ?_ _
  have h9 : ∀ k, k ≠ w3.heap.size → (w9.setCell ⟨w3.heap.size, 0, none⟩ (.slice ua un uc)).heap[k]? = w9.heap[k]? := fun k hk => Below.heap_setCell _ _ _ _ (fun e => hk e)
  have hk59 := uh HK59
  have hz8 := (uh HK8).size
  have hz9 := uh HZ9
  have hzw := uh HZW
  have hz99 : (w9.setCell ⟨w3.heap.size, 0, none⟩ (.slice ua un uc)).heap.size = w9.heap.size := by simp [World.setCell]
  refine ⟨(((kept_of_below (uh HK8)).trans (uh HKO9)).trans (KeepsOthers.setCell _ _ _)).from _, ⟨by rw [hz99]; omega, fun k hk hks => (h9 k (by simpa using hks)).trans (hk59.block k hk)⟩, ⟨_, Boxed.set _ (uh HB9), ?_⟩, ⟨(uh HHD).of ((h9 _ (by omega)).trans (hk59.block _ (by omega))), by rw [hz99]; omega⟩, ?_⟩
  ·rw [List.map_append, List.map_singleton, uh HE']
   exact (uh HS9).set (by omega) (uh HB9) (by decide)
  exact (((uh HB).trans (hk59.mono (by omega)))).setCell (p := ⟨w3.heap.size, 0, none⟩) (by simp <;> omega) _
 case done =>
  rintro D xs wd hD hxs ⟨⟨v, hbx, hown⟩, ⟨hhd, hzw⟩, hB⟩ hK
  rw [dataL_of hxs] at hown
  obtain ⟨va, vn, vc, hv⟩ := hown.vshape
  subst hv
  obtain ⟨ps, hO, hOty⟩ := hown.ex
  have HTYQ := hide (fun (V : World) (hkV : Below wd.heap.size wd V) => (fun (i : Nat) (hi : i < (dataL d a b cc L).length) => (show ∃ g, Arg V (.slice (psA ps i) ((dataL d a b cc L).getD i []).length (psC ps i)) g ((dataL d a b cc L).getD i []) ∧ (Value.slice va vn vc).ownBlock ≠ some g from by
   obtain ⟨q, hA, cq, hq⟩ := hOty i hi
   refine ⟨q, hA.below hkV, fun e => ?_⟩
   obtain ⟨-, c2, hc2⟩ := ownr_block hO e
   rw [hq] at hc2
   simp at hc2)))
  clear hOty
  obtain ⟨G, hRG, -⟩ := hO.arg
  obtain ⟨f1, f2, -, -⟩ := encL_facts (a := a) (b := b) (c := cc) (l := L) (d := d) (uh HL5).get_ok (by omega) (by omega)
  have hlP : (pP (dataL d a b cc L)).length = 48 := by
   have h := f1 d (by omega)
   have e := withP_p (dataL d a b cc L)
   rw [dataL_len] at e
   rw [encL, e] at h
   exact h
  have hlQ : (pQ (dataL d a b cc L)).length = 48 := by
   have h := f1 (d + 1) (by omega)
   have e := withP_q (dataL d a b cc L)
   rw [dataL_len] at e
   rw [encL, e] at h
   exact h
  obtain ⟨hsP, hsQ⟩ := par_bs (l := dataL d a b cc L) (dataL_bs (uh HL5).get_ok)
  have HPAR := hide (parity_any _ G _ _ (dataL d a b cc L) wd hRG (fun i => by
   by_cases hi : i < d
   ·rw [dataL_sz (uh HL5).get_ok hi]; omega
   rw [List.getD_eq_getElem?_getD, List.getElem?_eq_none (by rw [dataL_len]; omega)]; simp))
  have hc := Boxed.cell hbx
  have HBX := hide hbx
  have HO := hide hO
  have HB := hide hB
  have HK := hide (show ObjAt wd D (.deferred (some [])) from ⟨hK⟩)
  have HLP := hide hlP
  have HLQ := hide hlQ
  have HSP := hide hsP
  have HSQ := hide hsQ
  have HZD : Hid (w.heap.size ≤ D ∧ w5.heap.size ≤ wd.heap.size) := ⟨by omega, hzw⟩
  clear hbx hown hO hRG hhd hB hK f1 f2 hlP hlQ hsP hsQ hxs
  go_wp2_with fail
  refine (uh HPAR).mono ?_
  rintro e w7 ⟨v1, v2, rfl, hF1, hF2, hk⟩
  obtain ⟨g1, d1, hv1, h11, h12, hb1, hg1⟩ := hF1.blk (by intro e; have := uh HLP; rw [e] at this; simp at this)
  obtain ⟨g2, d2, hv2, h21, h22, hb2, hg2⟩ := hF2.blk (by intro e; have := uh HLQ; rw [e] at this; simp at this)
  rw [uh HLP] at hv1 h11
  rw [uh HLQ] at hv2 h21
  subst hv1
  subst hv2
  have hbx7 := Boxed.below (uh HBX) hk
  have hc7 := Boxed.cell hbx7
  obtain ⟨w8, hw8⟩ : ∃ w8, w7.alloc (.cells #[.slice (some ⟨g1, 0, none⟩) 48 d1, .slice (some ⟨g2, 0, none⟩) 48 d2] 47) = w8 := ⟨_, rfl⟩
  have hk78 : Below w7.heap.size w7 w8 := by rw [← hw8]; exact (Below.refl _ w7).alloc (Nat.le_refl _) _
  have hc8 : w8.heap[w7.heap.size]? = some (.cells #[.slice (some ⟨g1, 0, none⟩) 48 d1, .slice (some ⟨g2, 0, none⟩) 48 d2] 47 (0, 0)) := by rw [← hw8]; exact World.alloc_heap_new w7 _
  have hz7 := hk.size
  have hz8 := hk78.size
  have hO8 := ((uh HO).below hk).below hk78
  have hO7d := (uh HZD).2
  obtain ⟨v9, w9, hr9, ho9, hg9⟩ := run_append_r2 w8 w5.heap.size _ _ _ hO8 w7.heap.size _ _ 48 d1 48 d2 hc8 (by rw [dataL_len]; omega) (by omega)
  have hown8 := fun (k : Nat) (hk : (Value.slice va vn vc).ownBlock = some k) => ownr_block hO8 hk
  have hne : ∀ {q : Nat} {cq : Array Value}, w8.heap[q]? = some (.cells cq 5 (0, 0)) → (Value.slice va vn vc).ownBlock ≠ some q := fun hq e => by
   obtain ⟨-, cc', hcc⟩ := hown8 _ e
   rw [hq] at hcc
   simp at hcc
  have hA1 : Arg w8 (.slice (some ⟨g1, 0, none⟩) 48 d1) g1 (pP (dataL d a b cc L)) := by have h := (hb1.below hk78 hb1.lt).arg (uh HSP) (c := d1) (by rw [uh HLP]; exact h11) h12; rw [uh HLP] at h; exact h
  have hA2 : Arg w8 (.slice (some ⟨g2, 0, none⟩) 48 d2) g2 (pQ (dataL d a b cc L)) := by have h := (hb2.below hk78 hb2.lt).arg (uh HSQ) (c := d2) (by rw [uh HLQ]; exact h21) h22; rw [uh HLQ] at h; exact h
  have ht1 : ∃ cq, w8.heap[g1]? = some (.cells cq 5 (0, 0)) := by obtain ⟨cq, h, -⟩ := hb1.below hk78 hb1.lt; exact ⟨cq, h⟩
  have ht2 : ∃ cq, w8.heap[g2]? = some (.cells cq 5 (0, 0)) := by obtain ⟨cq, h, -⟩ := hb2.below hk78 hb2.lt; exact ⟨cq, h⟩
  obtain ⟨-, hty⟩ : True ∧ ∀ i, i < (dataL d a b cc L).length → ∃ g, Arg w8 (.slice (psA ps i) ((dataL d a b cc L).getD i []).length (psC ps i)) g ((dataL d a b cc L).getD i []) ∧ (Value.slice va vn vc).ownBlock ≠ some g := ⟨trivial, (uh HTYQ) w8 (hk.trans (hk78.mono hz7))⟩
  have HO9 : Hid (OwnR w5.heap.size w9 v9 (ps ++ [(some ⟨g1, 0, none⟩, d1)] ++ [(some ⟨g2, 0, none⟩, d2)]) (encL d a b cc L)) :=
   OwnR.snoc2 (n := 48) (m := 48) hO8 ho9 (fun i hi => by obtain ⟨q, hA, hq⟩ := hty i hi; exact ⟨q, hA.grown hg9 (fun _ => hq)⟩) (uh HLP) (uh HLQ)
    ⟨g1, hA1.grown hg9 (fun _ => by obtain ⟨cq, h⟩ := ht1; exact hne h)⟩ ⟨g2, hA2.grown hg9 (fun _ => by obtain ⟨cq, h⟩ := ht2; exact hne h)⟩
  have HD9 : Hid (w9.heap[D]? = some (.deferred (some []))) := by
   have hd := ((uh HK).below hk).below hk78
   exact (hg9.block D (Array.getElem?_eq_some_iff.1 hd.at').1 (fun e => by
    obtain ⟨-, cq, hcq⟩ := hown8 D e.symm
    rw [hd.at'] at hcq; cases hcq)).trans hd.at'
  have HB9 : Hid (Below w.heap.size w w9) := (((uh HB).trans (hk.mono (uh HB).size)).trans (hk78.mono (by have := (uh HB).size; omega))).trans ⟨hg9.os, hg9.tape, hg9.output, hg9.size, fun k hk' => hg9.block k (by have := (uh HB).size; omega) (fun e => by have := (hown8 k e.symm).1; omega)⟩
  have HRA := hide hr9
  obtain ⟨ua, un, uc, hu⟩ := (uh HO9).vshape
  subst hu
  clear hO8 ho9 hg9 hr9 hown8 hA1 hA2 ht1 ht2 hty hne hk78 hc8 hk hF1 hF2 hb1 hb2 hbx7 hc
  go_wp2_with (first | (rw [hw8]) | (at_builtin; refine wpList_append_run rfl _ _ _ _ _ rfl _ _ rfl rfl (uh HRA) ?_))
  refine ⟨by simp, .inl ⟨_, _, rfl, run_takeDeferred (uh HD9), ?_⟩⟩
  have hfin := ((uh HO9).keptc (grownBy_putObj' _ D (.deferred none)) (fun r e => by cases e; exact ⟨_, uh HD9, rfl⟩)).mono (show w.heap.size ≤ w5.heap.size by omega)
  have hd9 : ((d : Int) + 2 - 2).toNat = d := by omega
  exact ⟨_, results_tmp2 rfl _ _ _, (uh HB9).trans (below_put _ _ (uh HZD).1), .inl ⟨uh HYES, .slice ua un uc, _, rfl, by rw [hd9]; exact hfin⟩⟩
end Go.Proofs.YtjdikhelabibnaaGreat

namespace Go.Proofs.YtjdikhelabibnaaGreat
open Go Go.RowKit Go.Shelf
attribute [local go_sem] Oper.semAt_some
theorem results_ct11 {P : Program} {fn : Func} {p r : Tmp} {t : TypeId} (h : fn.results = #[.cell p t, .tmp r]) (tmps : Array Value) (w : World) (a : Addr) (x : Value) (hp : tmps.getD p undef = .pointer (some a)) (hx : (loadVar t a).run P w = .ok x w) :
  (results fn tmps).run P w = .ok (.tuple #[x, tmps.getD r undef]) w := by
 rw [Array.getD_eq_getD_getElem?] at hp
 simp only [results, h]
 simp [Result.andThen, hp, asAddr, hx]
theorem ev_ne_row {w : World} {v : Value} {g k : Nat} {l : List EV} {cs : Array Value} {t : TypeId} {fr : Nat × Nat} (h : EArg w v g l) (hne : l ≠ []) (hk : w.heap[k]? = some (.cells cs t fr)) (hs : cs.size ≤ 18) : g ≠ k := by
 intro e
 subst e
 obtain ⟨ao, c, -, -, -, -, hr⟩ := h.ex
 obtain ⟨o, -, h2⟩ := hr hne
 have hl : 0 < l.length := List.length_pos_iff.2 hne
 have hcl := EV.cs_len (h.get_ok 0)
 have := h2 0 hl 18 ((l.getD 0 zEV).cs[18]'(by omega)) (List.getElem?_eq_getElem (by omega))
 rw [cell_of_row _ _ _ _ _ _ hk] at this
 have := (Array.getElem?_eq_some_iff.1 this).1
 omega
theorem decF_sta {super at' : Int} {l : List PV} {most : Int} (h : (6 ≤ l.length ∧ l.length ≤ 8) ∧ 0 ≤ most ∧ most ≤ 2) (hs : staF l most ≠ 0) : decF super at' l most = (zRow, staF l most) := by
 unfold decF staF
 unfold staF at hs
 rw [if_neg (fun hn => hn h)]
 split
 ·rfl
 split
 ·rfl
 split
 ·rfl
 rename_i h1 h2 h3
 rw [if_neg h1, if_neg h2, if_neg h3] at hs
 exact absurd rfl hs
theorem sta_none {l : List PV} {most : Int} (hs : staF l most = 0) : (¬ l.all (fun p => p.st == 0) = true) ∧ (¬ l.any (fun p => p.st == 0) = true) ∧ ¬ most < ((lostG l).length : Int) := by
 unfold staF at hs
 split at hs
 ·omega
 rename_i h1
 split at hs
 ·omega
 rename_i h2
 split at hs
 ·omega
 rename_i h3
 exact ⟨h1, h2, h3⟩
theorem decF_no {super at' : Int} {l : List PV} {most : Int} (h : (6 ≤ l.length ∧ l.length ≤ 8) ∧ 0 ≤ most ∧ most ≤ 2) (hs : staF l most = 0) (hr : (!l.any oddP && chk (fixL (l.map (·.x)) (ints (lostG l)))) = false) : decF super at' l most = (zRow, 5) := by
 obtain ⟨h1, h2, h3⟩ := sta_none hs
 unfold decF
 rw [if_neg (fun hn => hn h), if_neg h1, if_neg h2, if_neg h3]
 by_cases ho : l.any oddP = true
 ·rw [if_pos ho]
 rw [if_neg ho]
 rw [Bool.not_eq_true] at ho
 rw [ho] at hr
 simp only [Bool.not_false, Bool.true_and] at hr
 rw [hr]
 rfl
theorem decF_yes {super at' : Int} {l : List PV} {most : Int} (h : (6 ≤ l.length ∧ l.length ≤ 8) ∧ 0 ≤ most ∧ most ≤ 2) (hs : staF l most = 0) (hr : (!l.any oddP && chk (fixL (l.map (·.x)) (ints (lostG l)))) = true) : decF super at' l most = rowF super at' (fixL (l.map (·.x)) (ints (lostG l))) := by
 obtain ⟨h1, h2, h3⟩ := sta_none hs
 rw [Bool.and_eq_true] at hr
 unfold decF
 rw [if_neg (fun hn => hn h), if_neg h1, if_neg h2, if_neg h3, if_neg (by intro e; rw [e] at hr; simp at hr), if_pos hr.2]
set_option maxRecDepth 100000 in
set_option maxHeartbeats 8000000 in
theorem dec11_any (super at' : Int) (ao : Option Addr) (n c g : Nat) (l : List PV) (most : Int) (hlen : ∀ i, (l.getD i zPV).x.length ≤ 100000) (w : World) (hL : PgArg w (.slice ao n c) g l) :
  Calls Tryz.prog 16 #[.int .i64 super, .int .i64 at', .slice ao n c, .int .i64 most] w fun e w' => DecW w w' e super at' l most := by
 have HL := hide hL
 obtain ⟨hln, hnc, hcm, -⟩ := hL.mrow
 have HLN := hide hln
 have HLEN := hide hlen
 have hnm : (n : Int) ≤ 9223372036854775807 := by unfold maxLen at hcm; omega
 clear hL hln hlen hnc hcm
 obtain ⟨w1, hw1⟩ : ∃ w1, w.alloc (.cells #[.int .i64 0, .int .i64 0, .slice none 0 0] 37) = w1 := ⟨_, rfl⟩
 have HT : Hid (Below w.heap.size w w1) := by rw [← hw1]; exact (Below.refl _ w).alloc (Nat.le_refl _) _
 have HQ : Hid (RwAt w1 w.heap.size 0 0 (.slice none 0 0)) := ⟨by rw [← hw1]; exact World.alloc_heap_new w _⟩
 by_cases h1 : 6 ≤ n ∧ n ≤ 8
 rotate_left 1
 ·have hd : decF super at' l most = (zRow, 1) := by unfold decF; rw [if_pos (by rw [uh HLN]; omega)]
  have HD := hide hd
  have H1 := hide (decide_eq_false (show ¬ (6 ≤ (n : Int) ∧ (n : Int) ≤ 8) by omega))
  clear hd h1
  go_enter Tryz.func16, Tryz.ntmps16
  go_wp2_with fail
  refine (dies_any (n : Int) _ false (uh H1)).mono ?_
  rintro e w2 ⟨rfl, hw2⟩
  rw [hw2]
  clear hw2 w2
  go_wp2_with (refine wpList_store_row rfl 37 _ _ rfl w.heap.size #[.int .i64 0, .int .i64 0, .slice none 0 0] rfl rfl 37 _ (uh HQ).blk (by kernel_rfl) rfl (one_row11 _ _ _ _ _) ?_)
  have hq : RwAt (w1.setRow w.heap.size #[.int .i64 0, .int .i64 0, .slice none 0 0]) w.heap.size 0 0 (.slice none 0 0) := ⟨setRow_heap _ _ _ _ _ _ (uh HQ).blk⟩
  refine bodyPost_ret (results_ct11 rfl _ _ ⟨w.heap.size, 0, none⟩ _ rfl hq.load) rfl ⟨below_setRow11 (uh HT) (Nat.le_refl _) _, _, by rw [uh HD]; rfl, by rw [uh HD]; exact ⟨_, 0, rfl, EArg.nil _, fun h => absurd rfl h⟩⟩
 have H1 := hide (decide_eq_true (show (6 ≤ (n : Int) ∧ (n : Int) ≤ 8) by omega))
 by_cases h2 : 0 ≤ most ∧ most ≤ 2
 rotate_left 1
 ·have hd : decF super at' l most = (zRow, 1) := by unfold decF; rw [if_pos (by rw [uh HLN]; omega)]
  have HD := hide hd
  have H2 := hide (decide_eq_false h2)
  clear hd h1 h2
  go_enter Tryz.func16, Tryz.ntmps16
  go_wp2_with fail
  refine (dies_any (n : Int) _ true (uh H1)).mono ?_
  rintro e w2 ⟨rfl, hw2⟩
  rw [hw2]
  clear hw2 w2
  go_wp2_with fail
  refine (rwithin11_any most 0 2 _ false (uh H2)).mono ?_
  rintro e w2 ⟨rfl, hw2⟩
  rw [hw2]
  clear hw2 w2
  go_wp2_with (refine wpList_store_row rfl 37 _ _ rfl w.heap.size #[.int .i64 0, .int .i64 0, .slice none 0 0] rfl rfl 37 _ (uh HQ).blk (by kernel_rfl) rfl (one_row11 _ _ _ _ _) ?_)
  have hq : RwAt (w1.setRow w.heap.size #[.int .i64 0, .int .i64 0, .slice none 0 0]) w.heap.size 0 0 (.slice none 0 0) := ⟨setRow_heap _ _ _ _ _ _ (uh HQ).blk⟩
  refine bodyPost_ret (results_ct11 rfl _ _ ⟨w.heap.size, 0, none⟩ _ rfl hq.load) rfl ⟨below_setRow11 (uh HT) (Nat.le_refl _) _, _, by rw [uh HD]; rfl, by rw [uh HD]; exact ⟨_, 0, rfl, EArg.nil _, fun h => absurd rfl h⟩⟩
 have HC : Hid ((6 ≤ l.length ∧ l.length ≤ 8) ∧ 0 ≤ most ∧ most ≤ 2) := by rw [uh HLN]; exact ⟨h1, h2⟩
 have H2 := hide (decide_eq_true h2)
 obtain ⟨h6, h8⟩ := h1
 have HM := hide h2
 clear h2
 go_enter Tryz.func16, Tryz.ntmps16
 go_wp2_with fail
 refine (dies_any (n : Int) _ true (uh H1)).mono ?_
 rintro e w2 ⟨rfl, hw2⟩
 rw [hw2]
 clear hw2 w2
 go_wp2_with fail
 refine (rwithin11_any most 0 2 _ true (uh H2)).mono ?_
 rintro e w2 ⟨rfl, hw2⟩
 rw [hw2]
 clear hw2 w2
 go_wp2_with fail
 refine (stM_any ao n c g l h8 most w1 ((uh HL).below (uh HT))).mono ?_
 rintro e w2 ⟨rfl, hk⟩
 replace HQ := hide ((uh HQ).below hk)
 replace HT := hide ((uh HT).trans (hk.mono (uh HT).size))
 clear hk hw1
 obtain ⟨s, hs⟩ : ∃ s, staF l most = s := ⟨_, rfl⟩
 have HS := hide hs
 rw [hs]
 by_cases h0 : s = 0
 rotate_left 1
 ·have hd : decF super at' l most = (zRow, s) := by rw [decF_sta (uh HC) (by rw [hs]; exact h0), hs]
  have HD := hide hd
  have hs0 : (s != 0) = true := by simp [bne, h0]
  clear hd hs h0
  go_wp2_with (refine wpList_store_row rfl 37 _ _ rfl w.heap.size #[.int .i64 0, .int .i64 0, .slice none 0 0] rfl rfl 37 _ (uh HQ).blk (by kernel_rfl) rfl (one_row11 _ _ _ _ _) ?_)
  have hq : RwAt (w2.setRow w.heap.size #[.int .i64 0, .int .i64 0, .slice none 0 0]) w.heap.size 0 0 (.slice none 0 0) := ⟨setRow_heap _ _ _ _ _ _ (uh HQ).blk⟩
  refine bodyPost_ret (results_ct11 rfl _ _ ⟨w.heap.size, 0, none⟩ _ rfl hq.load) rfl ⟨below_setRow11 (uh HT) (Nat.le_refl _) _, _, by rw [uh HD]; rfl, by rw [uh HD]; exact ⟨_, 0, rfl, EArg.nil _, fun h => absurd rfl h⟩⟩
 subst h0
 obtain ⟨-, hn2, hn3⟩ := sta_none hs
 have HP := hide (payO_any ao n c g l h6 h8 (uh HLEN) (fun p hp e => hn2 (List.any_eq_true.2 ⟨p, hp, by rw [e]; rfl⟩)) (by have := (uh HM).2; omega) w2 ((uh HL).below (uh HT)))
 clear hn2 hn3 hs
 go_wp2_with fail
 refine (uh HP).mono ?_
 rintro e w3 ⟨hk, v, r, rfl, hr, hrr⟩
 replace HQ := hide ((uh HQ).below hk)
 replace HT := hide ((uh HT).trans (hk.mono (uh HT).size))
 clear hk
 cases r
 ·have hd : decF super at' l most = (zRow, 5) := decF_no (uh HC) (uh HS) hr
  have HD := hide hd
  clear hd hr hrr
  go_wp2_with (refine wpList_store_row rfl 37 _ _ rfl w.heap.size #[.int .i64 0, .int .i64 0, .slice none 0 0] rfl rfl 37 _ (uh HQ).blk (by kernel_rfl) rfl (one_row11 _ _ _ _ _) ?_)
  have hq : RwAt (w3.setRow w.heap.size #[.int .i64 0, .int .i64 0, .slice none 0 0]) w.heap.size 0 0 (.slice none 0 0) := ⟨setRow_heap _ _ _ _ _ _ (uh HQ).blk⟩
  refine bodyPost_ret (results_ct11 rfl _ _ ⟨w.heap.size, 0, none⟩ _ rfl hq.load) rfl ⟨below_setRow11 (uh HT) (Nat.le_refl _) _, _, by rw [uh HD]; rfl, by rw [uh HD]; exact ⟨_, 0, rfl, EArg.nil _, fun h => absurd rfl h⟩⟩
 have hd : decF super at' l most = rowF super at' (fixL (l.map (·.x)) (ints (lostG l))) := decF_yes (uh HC) (uh HS) hr
 have HD := hide hd
 obtain ⟨hfl, hfn, G, A, C, hRG⟩ := hrr rfl
 obtain ⟨vo, vc, hv, -⟩ := hRG.ex
 rw [hfl] at hv
 subst hv
 have HRO := hide (rowO_any vo n vc G A C _ super at' h6 h8 hfl hfn w3 hRG)
 clear hd hr hrr hfl hfn hRG
 go_wp2_with fail
 refine (uh HRO).mono ?_
 rintro e w4 ⟨hk, u, rfl, sv, g4, hu, hEA, hgb⟩
 subst hu
 replace HQ := hide ((uh HQ).below hk)
 have hg4 : sv = sv := rfl
 obtain ⟨so, sc, hsv, -⟩ := hEA.ex
 subst hsv
 have HEA := hide hEA
 have hzT := (uh HT).size
 have HGB : Hid ((rowF super at' (fixL (l.map (·.x)) (ints (lostG l)))).1.sl ≠ [] → w.heap.size ≤ g4) := fun h => Nat.le_trans hzT (hgb h)
 replace HT := hide ((uh HT).trans (hk.mono (uh HT).size))
 clear hk hEA hg4 hgb hzT
 obtain ⟨R, hR⟩ : ∃ R, rowF super at' (fixL (l.map (·.x)) (ints (lostG l))) = R := ⟨_, rfl⟩
 rw [hR] at HEA HD HGB ⊢
 clear HRO hR
 go_wp2_with (refine wpList_store_row rfl 37 _ _ rfl w.heap.size #[.int .i64 R.1.se, .int .i64 R.1.at', .slice so R.1.sl.length sc] rfl rfl 37 _ (uh HQ).blk (by kernel_rfl) rfl (one_row11 _ _ _ _ _) ?_)
 have hq : RwAt (w4.setRow w.heap.size #[.int .i64 R.1.se, .int .i64 R.1.at', .slice so R.1.sl.length sc]) w.heap.size R.1.se R.1.at' (.slice so R.1.sl.length sc) := ⟨setRow_heap _ _ _ _ _ _ (uh HQ).blk⟩
 refine bodyPost_ret (results_ct11 rfl _ _ ⟨w.heap.size, 0, none⟩ _ rfl hq.load) rfl ⟨below_setRow11 (uh HT) (Nat.le_refl _) _, _, by rw [uh HD]; rfl, by rw [uh HD]; exact ⟨_, g4, rfl, (uh HEA).of (fun hne => setRow_other _ _ _ _ (fun e => ev_ne_row (uh HEA) hne (uh HQ).blk (by simp) e)), uh HGB⟩⟩
end Go.Proofs.YtjdikhelabibnaaGreat

namespace Go.Proofs.YtjdikhelabibnaaGreat
open Go Go.RowKit Go.Shelf
theorem within11_any (a n : Int) (w : World) (hn : 0 < n) (hn2 : n < 100000) :
  Calls Tryz.prog 10 #[.int .i64 a, .int .i64 n] w fun e w' => e = .returned (.int .i64 (a % n)) ∧ w' = w := by
 obtain ⟨h1, h2, h3, h4⟩ := tmod_emod a n hn
 have H1 := hide h1
 have H2 := hide h2
 clear h1 h2
 go_enter Tryz.func10, Tryz.ntmps10
 go_wp2
 ·have h5 : a.tmod n < 0 := by assumption
  go_ret
  exact ⟨by rw [← uh H1 h5]; rfl, rfl⟩
 have h5 : 0 ≤ a.tmod n := by assumption
 go_ret
 exact ⟨by rw [← uh H2 h5]; rfl, rfl⟩
theorem wpList_build_pv11 {ops : Array Oper} {rest : List Oper} {o : Oper} {a : Act} {w : World} {Q : Exit → Act → World → Prop} (hgd : o.guard = none) (x : Operand) (ho : o.op = .buildSlice 40 1 #[(0, x)])
  (p : PV) (hx : a.eval x = .agg #[.int .i64 p.st, p.b])
  (h : wpList Tryz.prog ops Q rest (a.put o.dst (.slice (some ⟨w.heap.size, 0, none⟩) 1 1)) (w.alloc (.cells #[.int .i64 p.st, p.b] 49))) : wpList Tryz.prog ops Q (o :: rest) a w := by
 refine wpList_plain hgd fun K hK => ?_
 unfold Oper.wp execOp
 have hp : (#[(0, x)] : Array (Nat × Operand)).map (fun (i, x) => (i, a.eval x)) = #[(0, .agg #[.int .i64 p.st, p.b])] := by simp [hx]
 simp only [ho, Sem.run_bind, hp, run_build_pv p w, Result.andThen_ok]
 exact hK _ _ h
def lostP : PV := ⟨1, none, 0, 0, []⟩
def pagesL (A : Nat → Option Addr) (C gf : Nat → Nat) (l : List (List Nat)) (k : Nat) (lost : List Nat) : List PV := (List.range k).map (fun i => if i ∈ lost then lostP else ⟨2, A i, C i, gf i, l.getD i []⟩)
theorem pagesL_len (A : Nat → Option Addr) (C gf : Nat → Nat) (l : List (List Nat)) (k : Nat) (lost : List Nat) : (pagesL A C gf l k lost).length = k := by simp [pagesL]
theorem pagesL_get {A : Nat → Option Addr} {C gf : Nat → Nat} {l : List (List Nat)} {k : Nat} {lost : List Nat} {i : Nat} (hi : i < k) : (pagesL A C gf l k lost).getD i zPV = if i ∈ lost then lostP else ⟨2, A i, C i, gf i, l.getD i []⟩ := by
 rw [pagesL, List.getD_eq_getElem?_getD, List.getElem?_map, List.getElem?_range hi]; rfl
theorem pagesL_snoc (A : Nat → Option Addr) (C gf : Nat → Nat) (l : List (List Nat)) (k : Nat) : pagesL A C gf l (k + 1) [] = pagesL A C gf l k [] ++ [⟨2, A k, C k, gf k, l.getD k []⟩] := by
 rw [pagesL, List.range_succ, List.map_append]; rfl
structure PgBlk (base : Nat) (w : World) (v : Value) (G : Nat) (P : List PV) : Prop where
 blk : RowM w G 49 2 P.length (fun i => (P.getD i zPV).cs)
 ex : ∃ c, v = .slice (some ⟨G, 0, none⟩) P.length c ∧ P.length ≤ c ∧ c ≤ maxLen
 le : base ≤ G
 ok : ∀ p ∈ P, p.Ok w
theorem PgBlk.arg {base : Nat} {w : World} {v : Value} {G : Nat} {P : List PV} (h : PgBlk base w v G P) : PgArg w v G P := by
 obtain ⟨c, h1, h2, h3⟩ := h.ex
 exact ⟨⟨_, c, h1, h2, h3, (fun e => by cases e), fun _ => ⟨0, rfl, fun i hi => by rw [Nat.zero_add]; exact h.blk.range hi⟩⟩, h.ok⟩
theorem PgBlk.below {base : Nat} {w w' : World} {v : Value} {G : Nat} {P : List PV} (h : PgBlk base w v G P) (k : Below w.heap.size w w') : PgBlk base w' v G P := ⟨h.blk.below k h.blk.lt, h.ex, h.le, fun p hp => (h.ok p hp).below k⟩
theorem pagesL_take {A : Nat → Option Addr} {C gf : Nat → Nat} {l : List (List Nat)} {N : Nat} {lost : List Nat} {j i : Nat} (hj : j < lost.length) (hi : i < N) : ((pagesL A C gf l N (lost.take (j + 1))).getD i zPV).cs = if i = cf lost j then lostP.cs else ((pagesL A C gf l N (lost.take j)).getD i zPV).cs := by
 rw [pagesL_get hi, pagesL_get hi]
 have hm : i ∈ lost.take (j + 1) ↔ i ∈ lost.take j ∨ i = cf lost j := by rw [take_mem hj]; exact or_congr Iff.rfl eq_comm
 by_cases e : i = cf lost j
 ·rw [if_pos e, if_pos (hm.2 (.inr e))]
 rw [if_neg e]
 by_cases e2 : i ∈ lost.take j
 ·rw [if_pos e2, if_pos (hm.2 (.inl e2))]
 rw [if_neg e2, if_neg (fun h => (hm.1 h).elim e2 e)]
set_option maxRecDepth 100000 in
set_option maxHeartbeats 8000000 in
theorem pgs11_any (ao : Option Addr) (N c G : Nat) (A : Nat → Option Addr) (C : Nat → Nat) (l : List (List Nat)) (zo : Option Addr) (Lz zc gz : Nat) (lost : List Nat) (hlz : lost.length = Lz) (hl : l.length = N) (h0 : 0 < N) (h8 : N ≤ 100) (hlost : ∀ i ∈ lost, i < N) (w : World) (hA : RArg w (.slice ao N c) G A C l) (hZ : ZArg w (.slice zo Lz zc) gz (ints lost)) :
  Calls Tryz.prog 17 #[.slice ao N c, .slice zo Lz zc] w fun e w' => ∃ gf v Gp, e = .returned v ∧ PgBlk w.heap.size w' v Gp (pagesL A C gf l N lost) ∧ (∀ i, i < N → Arg w (.slice (A i) (l.getD i []).length (C i)) (gf i) (l.getD i [])) ∧ Below w.heap.size w w' := by
 obtain ⟨gf, hgf⟩ : ∃ gf : Nat → Nat, ∀ i, i < N → Arg w (.slice (A i) (l.getD i []).length (C i)) (gf i) (l.getD i []) :=
  ⟨fun i => if h : i < N then Classical.choose (hA.rows i (by rw [hl]; exact h)) else 0, fun i hi => by simp only [dif_pos hi]; exact Classical.choose_spec (hA.rows i (by rw [hl]; exact hi))⟩
 have HGF := hide hgf
 have HV := hide (rarg_vrow hA hl)
 have HZ := hide hZ
 have HLS := hide hlost
 have HLZ := hide hlz
 have hzm : (Lz : Int) ≤ 9223372036854775807 := by
  obtain ⟨_, _, h1, h2, h3, -⟩ := hZ.ex
  have := congrArg (fun v : Value => match v with | .slice _ n _ => n | _ => 0) h1
  simp only [ints_len] at this
  rw [ints_len] at h2
  unfold maxLen at h3
  omega
 clear hgf hA hl hZ hlost hlz
 go_enter Tryz.func17, Tryz.ntmps17
 go_wp2_with fail
 go_loopw [5, 6] (fun v i wr => ∃ (k : Nat), k ≤ N ∧ i = .int .i64 k ∧ OwnG w.heap.size wr v (pagesL A C gf l k []) ∧ Below w.heap.size w wr) (fun _ i _ => N - (intOf i).toNat)
 case atStart => exact ⟨0, by omega, rfl, OwnG.nil _ _, Below.refl _ _⟩
 case round =>
  obtain ⟨k, hk, rfl, hO, hB⟩ := hrel
  obtain ⟨va, vc, hv, -⟩ := hO.1.shape
  rw [pagesL_len] at hv
  subst hv
  have HO := hide hO
  have HB := hide hB
  clear hO hB
  by_cases hlt : k < N
  ·have hi1 : (k : Int) < (N : Int) := by omega
   obtain ⟨o, hao, hcl⟩ := (uh HV).at h0
   subst hao
   have hc := ((uh HB).cell (block_lt_of_cell (hcl k hlt))).trans (hcl k hlt)
   clear hcl
   obtain ⟨p, hp⟩ : ∃ p : PV, p = ⟨2, A k, C k, gf k, l.getD k []⟩ := ⟨_, rfl⟩
   have hpb : p.b = .slice (A k) (l.getD k []).length (C k) := by rw [hp]; rfl
   have hps : p.st = 2 := by rw [hp]
   have hal := (Below.refl wr.heap.size wr).alloc (Nat.le_refl _) (.cells #[.int .i64 p.st, p.b] 49)
   have hrg : (wr.alloc (.cells #[.int .i64 p.st, p.b] 49)).rangeAt wr.heap.size 0 p.cs := fun j v hv => cell_blk (World.alloc_heap_new wr _) (by rw [Nat.zero_add]; simpa [PV.cs] using hv)
   obtain ⟨v9, w9, hr9, ho9, hg9⟩ := run_append_pv (wr.alloc (.cells #[.int .i64 p.st, p.b] 49)) w.heap.size 40 (.slice va k vc) (pagesL A C gf l k []) ((uh HO).below hal) wr.heap.size 0 p hrg (by rw [pagesL_len]; omega) (by have := (uh HB).size; have := hal.size; omega)
   have hB9 : Below w.heap.size w w9 := ((uh HB).trans (hal.mono (uh HB).size)).trans ⟨hg9.os, hg9.tape, hg9.output, hg9.size, fun q hq => hg9.block q (by have := (uh HB).size; have := hal.size; omega) (fun e => by have := ((uh HO).below hal).1.ownBlock e.symm; omega)⟩
   have HO9 : Hid (OwnG w.heap.size w9 v9 (pagesL A C gf l (k + 1) [])) := by
    rw [pagesL_snoc, ← hp]
    refine ⟨ho9, fun q hq => ?_⟩
    have hq' : q ∈ pagesL A C gf l (k + 1) [] := by rw [pagesL_snoc, ← hp]; exact hq
    obtain ⟨i, hi, he⟩ := mem_getD11 (z := zPV) hq'
    rw [pagesL_len] at hi
    rw [pagesL_get hi, if_neg (by simp)] at he
    rw [← he]
    exact (uh HGF i (by omega)).below hB9
   have HRA := hide hr9
   have HB9 := hide hB9
   have HPE : Hid ((.agg #[.int .i64 2, .slice (A k) (l.getD k []).length (C k)] : Value) = .agg #[.int .i64 p.st, p.b]) := by show _ = _; rw [hps, hpb]
   clear hr9 ho9 hg9 hB9 hrg hal hp hpb hps
   go_wp2_with (first | (refine wpList_build_pv11 rfl _ rfl p (uh HPE) ?_) | (at_builtin; refine wpList_append_run rfl _ _ _ _ _ rfl _ _ rfl rfl (uh HRA) ?_))
   go_roundw
   case rel => exact ⟨k + 1, by omega, by go_num, uh HO9, uh HB9⟩
   case measure => simp [intOf]; omega
  have : k = N := by omega
  subst this
  obtain ⟨g, cg, hv, hge, hcc, hcm, hrow⟩ := (uh HO).1.row (by rw [pagesL_len]; exact h0)
  rw [pagesL_len] at hv hcc hrow
  cases hv
  have HRW := hide hrow
  have hgB := hrow.lt
  clear hrow
  go_wp2_with fail
  go_loopw [7] (fun i wq => ∃ (j : Nat), j ≤ Lz ∧ i = .int .i64 j ∧ Below w.heap.size w wq ∧ RowM wq g 49 2 k (fun i => ((pagesL A C gf l k (lost.take j)).getD i zPV).cs)) (fun i _ => Lz - (intOf i).toNat)
  case atStart => exact ⟨0, by omega, rfl, uh HB, by rw [List.take_zero]; exact uh HRW⟩
  case round =>
   obtain ⟨j, hj, rfl, hB2, hR2⟩ := hrel
   have HB2 := hide hB2
   have HR2 := hide hR2
   clear hB2 hR2
   by_cases hlt2 : j < Lz
   ·have hj1 : (j : Int) < (Lz : Int) := by omega
    have hjl : j < lost.length := by rw [uh HLZ]; exact hlt2
    obtain ⟨oz, hzo, hcz⟩ := irow_some' (zarg_row ((uh HZ).below (uh HB2))) (by rw [ints_len]; omega)
    have hcj := hcz j (by rw [ints_len]; exact hjl)
    rw [ints_getD] at hcj
    subst hzo
    clear hcz
    have hcl : cf lost j < k := uh HLS _ (by rw [← cf_getD]; exact getD_mem11 hjl)
    have hcl1 : ((cf lost j : Nat) : Int) < (k : Int) := by omega
    have hth := (uh HR2).there hcl
    have HR3 := hide ((uh HR2).put hcl lostP.cs rfl)
    have HB3 := hide (below10_setCells g lostP.cs (cf lost j * 2) _ (uh HB2) hge)
    have HTH := hide hth
    clear hth
    go_wp2_with (refine wpList_store_mid rfl 49 _ _ rfl g (cf lost j * 2) lostP.cs.toArray rfl rfl (uh HTH) sizeTP (all_oneCell_toArray lostP.cs_one) ?_)
    go_roundw
    case rel => exact ⟨j + 1, by omega, by go_num, uh HB3, (uh HR3).congr (fun i hi => pagesL_take hjl hi)⟩
    case measure => simp [intOf]; omega
   have : j = Lz := by omega
   subst this
   have HFIN : Hid (PgBlk w.heap.size wr (.slice (some ⟨g, 0, none⟩) k vc) g (pagesL A C gf l k lost)) := by
    have hr := uh HR2
    rw [List.take_of_length_le (by rw [uh HLZ]; exact Nat.le_refl _)] at hr
    refine ⟨by rw [pagesL_len]; exact hr, ⟨vc, by rw [pagesL_len], by rw [pagesL_len]; exact hcc, hcm⟩, hge, fun q hq => ?_⟩
    obtain ⟨i, hi, he⟩ := mem_getD11 (z := zPV) hq
    rw [pagesL_len] at hi
    rw [pagesL_get hi] at he
    rw [← he]
    split
    ·exact ⟨⟨none, 0, rfl, by simp [lostP], by simp, fun _ => rfl, .inl rfl⟩, Bs.nil⟩
    exact (uh HGF i hi).below (uh HB2)
   go_wp2
   go_ret
   exact ⟨gf, _, g, rfl, uh HFIN, uh HGF, uh HB2⟩
end Go.Proofs.YtjdikhelabibnaaGreat

namespace Go.Proofs.YtjdikhelabibnaaGreat
open Go Go.RowKit Go.Shelf
def gdV (e : EV) : EV := ⟨gdK e.k, gdLb e.k e.l, gdS e.k e.s, gdD e.k e.d⟩
theorem gd_ok11 (k l s : Int) (d : List Nat) : okE (gdK k) (gdLb k l) (gdS k s) (gdD k d) := by
 unfold gdK gdLb gdS gdD okE
 refine ⟨⟨by omega, by omega⟩, fun h => ?_, fun h => ?_, fun h => ?_⟩
 ·rw [if_pos h, if_pos h]; omega
 ·rw [if_neg h, if_neg h]; exact ⟨rfl, rfl⟩
 rw [if_neg h]
theorem gdV_ok {e : EV} (h : e.Ok) : (gdV e).Ok := ⟨gdD_len h.len, fun j => by
 show cf (gdD e.k e.d) j < 256
 unfold gdD
 split
 ·exact h.bs j
 exact zEV_ok.bs j⟩
theorem EV.cs_arr {e : EV} : e.cs.toArray = e.ar := by simp [EV.cs, EV.ar]
def gdSl (l : List EV) (m : Nat) : List EV := (l.take m).map gdV
theorem gdSl_len (l : List EV) (m : Nat) : (gdSl l m).length = min m l.length := by simp [gdSl]
theorem gdSl_snoc {l : List EV} {m : Nat} (h : m < l.length) : gdSl l (m + 1) = gdSl l m ++ [gdV (l.getD m zEV)] := by
 rw [gdSl, gdSl, List.take_add_one, List.map_append, List.getElem?_eq_getElem h, List.getD_eq_getElem?_getD, List.getElem?_eq_getElem h]
 rfl
set_option maxRecDepth 100000 in
set_option maxHeartbeats 8000000 in
theorem slots11_any (ao : Option Addr) (n c G : Nat) (l : List EV) (M : Nat) (hM : M ≤ 1000) (w : World) (hL : EArg w (.slice ao n c) G l) :
  Calls Tryz.prog 12 #[.slice ao n c, .int .i64 (M : Int)] w fun e w' => ∃ v, e = .returned v ∧ OwnE w.heap.size w' v (gdSl l M) ∧ Below w.heap.size w w' := by
 obtain ⟨ao', c', hv, hnc, hcm, -, hr⟩ := hL.ex
 obtain ⟨rfl, hnl, rfl⟩ : ao = ao' ∧ n = l.length ∧ c = c' := by cases hv; exact ⟨rfl, rfl, rfl⟩
 have HOK : Hid (∀ i, (l.getD i zEV).Ok) := hL.get_ok
 have HNL := hide hnl
 have HR := hide hr
 have hnm : (n : Int) ≤ 9223372036854775807 := by unfold maxLen at hcm; omega
 clear hv hr hL hnl hnc hcm
 go_enter Tryz.func12, Tryz.ntmps12
 go_wp2_with fail
 go_loopw [5, 6] (fun v i wr => ∃ (k : Nat), k ≤ M ∧ k ≤ n ∧ i = .int .i64 k ∧ OwnE w.heap.size wr v (gdSl l k) ∧ Below w.heap.size w wr) (fun _ i _ => n - (intOf i).toNat)
 case atStart => exact ⟨0, by omega, by omega, rfl, OwnE.nil _ _, Below.refl _ _⟩
 case round =>
  obtain ⟨k, hkM, hkn, rfl, hO, hB⟩ := hrel
  obtain ⟨va, vc, hv, -⟩ := hO.1.shape
  have hlk : (gdSl l k).length = k := by rw [gdSl_len, ← uh HNL]; omega
  rw [hlk] at hv
  subst hv
  have HO := hide hO
  have HB := hide hB
  have HLK2 := hide hlk
  clear hO hB hlk
  have HFIN : Hid (k = n ∨ k = M → gdSl l k = gdSl l M) := by
   rintro (h | h)
   ·unfold gdSl
    rw [h, uh HNL, List.take_length, List.take_of_length_le (by rw [← uh HNL]; omega)]
   rw [h]
  by_cases hlt : k < n
  ·have hi1 : (k : Int) < (n : Int) := by omega
   by_cases hlm : k < M
   ·have hi2 : (k : Int) < (M : Int) := by omega
    have hlt2 : k < l.length := by rw [← uh HNL]; exact hlt
    obtain ⟨o, rfl, hcl⟩ := (uh HR) (fun h => by rw [h] at hlt2; simp at hlt2)
    have HCL : Hid (wr.rangeAt G (o + k * 19) (l.getD k zEV).cs) := fun j v hv => ((uh HB).cell (block_lt_of_cell (hcl k hlt2 j v hv))).trans (hcl k hlt2 j v hv)
    clear hcl
    have hoe := (uh HOK) k
    have hsn := gdSl_snoc hlt2
    obtain ⟨e, he⟩ : ∃ e, l.getD k zEV = e := ⟨_, rfl⟩
    rw [he] at HCL hoe hsn
    have HOE := hide hoe
    have HSN := hide hsn
    clear hoe hsn he hlt2
    go_wp2_with (refine wpList_load_mid rfl 44 _ rfl G (o + k * 19) rfl e.cs _ (uh HCL) Tryz.underlying44 (by rfl) (by rw [sizeTE, EV.cs_len (uh HOE)]) ?_)
    rw [EV.cs_arr]
    refine (good_any e.k e.l e.s e.d (uh HOE).len wr).mono ?_
    rintro x w5 ⟨rfl, hk5⟩
    obtain ⟨e2, he2⟩ : ∃ e2 : EV, e2 = gdV e := ⟨_, rfl⟩
    have hea : entA (gdK e.k) (gdLb e.k e.l) (gdS e.k e.s) (gdD e.k e.d) = e2.ar := by rw [he2]; rfl
    have hok2 : e2.Ok := by rw [he2]; exact gdV_ok (uh HOE)
    rw [hea]
    have hal := (Below.refl w5.heap.size w5).alloc (Nat.le_refl _) (.cells e2.ar 44)
    have hk6 := hk5.trans (hal.mono hk5.size)
    obtain ⟨v9, w9, hr9, ho9, hg9⟩ := run_append_ev (w5.alloc (.cells e2.ar 44)) w.heap.size 22 (.slice va k vc) (gdSl l k) ((uh HO).below hk6) w5.heap.size 0 e2 (range_ev w5 e2 44) hok2 (by rw [uh HLK2]; omega) (by have := (uh HB).size; have := hk6.size; omega)
    have hB9 : Below w.heap.size w w9 := ((uh HB).trans (hk6.mono (uh HB).size)).trans ⟨hg9.os, hg9.tape, hg9.output, hg9.size, fun q hq => hg9.block q (by have := (uh HB).size; have := hk6.size; omega) (fun e => by have := ((uh HO).below hk6).1.ownBlock e.symm; omega)⟩
    have HO9 : Hid (OwnE w.heap.size w9 v9 (gdSl l (k + 1))) := by
     rw [uh HSN, ← he2]
     exact ho9
    have HRA := hide hr9
    have HB9 := hide hB9
    have HOK2 := hide hok2
    clear hr9 ho9 hg9 hB9 hk6 hal hk5 hea he2 hok2
    go_wp2_with (first | (refine wpList_build_ev11 rfl _ rfl e2 (uh HOK2) rfl ?_) | (at_builtin; refine wpList_append_run rfl _ _ _ _ _ rfl _ _ rfl rfl (uh HRA) ?_))
    go_roundw
    case rel => exact ⟨k + 1, by omega, by omega, by go_num, uh HO9, uh HB9⟩
    case measure => simp [intOf]; omega
   have hi2 : (M : Int) ≤ (k : Int) := by omega
   go_wp2_with fail
   go_ret
   refine ⟨_, rfl, ?_, uh HB⟩
   rw [← uh HFIN (.inr (by omega))]
   exact uh HO
  have hi1 : (n : Int) ≤ (k : Int) := by omega
  go_wp2_with fail
  go_ret
  refine ⟨_, rfl, ?_, uh HB⟩
  rw [← uh HFIN (.inl (by omega))]
  exact uh HO
end Go.Proofs.YtjdikhelabibnaaGreat
