/-
  
-/
import Derived.Test.YtjdikhelabibnaaGreatMaz
import Derived.Test.YtjdikhelabibnaaGreatMah
import Derived.Test.YtjdikhelabibnaaGreatMag
import Derived.RangeFuncBox
import Derived.OwnWalkIn
import Derived.Deep.WholeRow
namespace Go.Proofs.YtjdikhelabibnaaGreat
open Go Go.RowKit Go.Shelf
attribute [local go_sem] Oper.semAt_some
theorem wpListIn_load_mid11 {F : Fence} {n : Nat} {ops : Array Oper} {rest : List Oper} {o : Oper} {a : Act} {w : World} {Q : Exit → Act → World → Prop} (hgd : o.guard = none) (ty : TypeId) (x : Operand) (ho : o.op = .load ty x)
  (b p : Nat) (hx : a.eval x = .pointer (some ⟨b, p, none⟩)) (cs : List Value) (d : TypeDesc) (hc : w.rangeAt b p cs)
  (hu : Tryz.prog.underlying ty = some d) (hd : d.isRow = true) (hi : (Tryz.prog.info? ty).map (·.size) = some cs.length)
  (h : wpListIn F n Tryz.prog ops Q rest (a.put o.dst (.agg cs.toArray)) w) : wpListIn F n Tryz.prog ops Q (o :: rest) a w := by
 refine wpListIn_plain hgd fun K hK => ?_
 unfold Oper.wpIn
 refine ⟨?_, ?_⟩
 ·simp [Oper.about, ho]
 rw [Oper.semAt_plain F _ _ (by rw [ho]; intro c hc'; cases hc')]
 unfold execOp
 simp only [ho, hx, Instr.loadAt, Instr.sureAddr, Sem.run_bind, Sem.run_pure, Result.andThen_ok, run_loadVar_mid w b p ty cs d hc hu hd hi]
 exact hK _ _ h
theorem wpListIn_store_new11 {F : Fence} {n : Nat} {ops : Array Oper} {rest : List Oper} {o : Oper} {a : Act} {w : World} {Q : Exit → Act → World → Prop} (hgd : o.guard = none) (ty : TypeId) (x y : Operand) (ho : o.op = .store ty x y)
  (old cells : Array Value) (t : TypeId) (hx : a.eval x = .pointer (some ⟨w.heap.size, 0, none⟩)) (hy : a.eval y = .agg cells) (hi : (Tryz.prog.info? ty).map (·.size) = some cells.size)
  (hold : old.size = cells.size) (h1 : cells.all (·.oneCell') = true)
  (h : wpListIn F n Tryz.prog ops Q rest (a.put o.dst undef) (w.alloc (.cells cells t))) : wpListIn F n Tryz.prog ops Q (o :: rest) a (w.alloc (.cells old t)) := by
 refine wpListIn_plain hgd fun K hK => ?_
 unfold Oper.wpIn
 refine ⟨?_, ?_⟩
 ·simp [Oper.about, ho]
 rw [Oper.semAt_plain F _ _ (by rw [ho]; intro c hc'; cases hc')]
 unfold execOp
 simp only [ho, hx, hy, Instr.storeAt, Instr.sureAddr, Sem.run_bind, Sem.run_pure, Result.andThen_ok, run_storeVar_row (w.alloc (.cells old t)) w.heap.size t ty old cells (World.alloc_heap_new w _) hi hold h1, World.setRow_alloc_new]
 exact hK _ _ h
theorem wpListIn_load_new11 {F : Fence} {n : Nat} {ops : Array Oper} {rest : List Oper} {o : Oper} {a : Act} {w : World} {Q : Exit → Act → World → Prop} (hgd : o.guard = none) (ty : TypeId) (x : Operand) (ho : o.op = .load ty x)
  (cs : Array Value) (t : TypeId) (hx : a.eval x = .pointer (some ⟨w.heap.size, 0, none⟩)) (d : TypeDesc)
  (hu : Tryz.prog.underlying ty = some d) (hd : d.isRow = true) (hi : (Tryz.prog.info? ty).map (·.size) = some cs.size)
  (h : wpListIn F n Tryz.prog ops Q rest (a.put o.dst (.agg cs)) (w.alloc (.cells cs t))) : wpListIn F n Tryz.prog ops Q (o :: rest) a (w.alloc (.cells cs t)) := by
 have hl := run_loadVar_mid (P := Tryz.prog) (w.alloc (.cells cs t)) w.heap.size 0 ty cs.toList d (fun j v hv => cell_blk (World.alloc_heap_new w _) (by rw [Nat.zero_add]; simpa using hv)) hu hd (by rw [hi, Array.length_toList])
 rw [Array.toArray_toList] at hl
 refine wpListIn_plain hgd fun K hK => ?_
 unfold Oper.wpIn
 refine ⟨?_, ?_⟩
 ·simp [Oper.about, ho]
 rw [Oper.semAt_plain F _ _ (by rw [ho]; intro c hc'; cases hc')]
 unfold execOp
 simp only [ho, hx, Instr.loadAt, Instr.sureAddr, Sem.run_bind, Sem.run_pure, Result.andThen_ok, hl]
 exact hK _ _ h
def MRow (w : World) (ao : Option Addr) (G m N : Nat) (f : Nat → List Value) : Prop := N = 0 ∨ ∃ o, ao = some ⟨G, o, none⟩ ∧ ∀ i, i < N → w.rangeAt G (o + i * m) (f i)
theorem MRow.of {w w' : World} {ao : Option Addr} {G m N : Nat} {f : Nat → List Value} (h : MRow w ao G m N f) (k : 0 < N → w'.heap[G]? = w.heap[G]?) : MRow w' ao G m N f := by
 rcases h with h | ⟨o, h1, h2⟩
 ·exact .inl h
 rcases Nat.eq_zero_or_pos N with h0 | h0
 ·exact .inl h0
 exact .inr ⟨o, h1, fun i hi j v hv => (World.cell?_of_block (k h0)).trans (h2 i hi j v hv)⟩
theorem MRow.lt {w : World} {ao : Option Addr} {G m N : Nat} {f : Nat → List Value} (h : MRow w ao G m N f) (hN : 0 < N) (hm : 0 < (f 0).length) : G < w.heap.size := by
 rcases h with h | ⟨o, h1, h2⟩
 ·omega
 exact block_lt_of_cell (h2 0 hN 0 ((f 0)[0]'hm) (List.getElem?_eq_getElem hm))
theorem MRow.at {w : World} {ao : Option Addr} {G m N : Nat} {f : Nat → List Value} (h : MRow w ao G m N f) (hN : 0 < N) : ∃ o, ao = some ⟨G, o, none⟩ ∧ ∀ i, i < N → w.rangeAt G (o + i * m) (f i) := by
 rcases h with h | h
 ·omega
 exact h
theorem EArg.mrow {w : World} {ao : Option Addr} {n c g : Nat} {l : List EV} (h : EArg w (.slice ao n c) g l) : l.length = n ∧ n ≤ c ∧ c ≤ maxLen ∧ MRow w ao g 19 n (fun i => (l.getD i zEV).cs) := by
 obtain ⟨ao', c', h1, h2, h3, h4, hr⟩ := h.ex
 cases h1
 refine ⟨rfl, h2, h3, ?_⟩
 rcases Nat.eq_zero_or_pos l.length with h0 | h0
 ·exact .inl h0
 exact .inr (hr (fun e => by rw [e] at h0; exact absurd h0 (by simp)))
theorem PgArg.mrow {w : World} {ao : Option Addr} {n c g : Nat} {l : List PV} (h : PgArg w (.slice ao n c) g l) : l.length = n ∧ n ≤ c ∧ c ≤ maxLen ∧ MRow w ao g 2 n (fun i => (l.getD i zPV).cs) := by
 obtain ⟨ao', c', h1, h2, h3, h4, hr⟩ := h.ex
 cases h1
 refine ⟨rfl, h2, h3, ?_⟩
 rcases Nat.eq_zero_or_pos l.length with h0 | h0
 ·exact .inl h0
 exact .inr (hr (fun e => by rw [e] at h0; exact absurd h0 (by simp)))
structure Seq11 (gf : Nat) (lb : Array Value) (N : Nat) (K : Nat → Bool) (V : Nat → Prop) (w : World) : Prop where
 enters : ∀ args W, (callFunc gf args).run Tryz.prog W = .ok (.enter gf args) W
 seq : ∀ (W : World) (S : List Nat) (n₀ : Nat), Below w.heap.size w W → (∀ s ∈ S, ¬ V s) → w.heap.size ≤ n₀ →
  SeqStopsK Fence.wide 2 Tryz.prog gf lb (fun x : It5 N K => #[Value.int .i64 x.val]) (Kq S n₀) (fun ys => ys.map Subtype.val = (List.range N).filter K) (fun _ => True) N W
 seqY : SeqY Tryz.prog gf lb (fun x : It5 N K => #[Value.int .i64 (x.val : Nat)]) (fun k => k < w.heap.size) 0 (fun ys => ys.map Subtype.val = (List.range N).filter K) N w
set_option maxHeartbeats 1000000 in
theorem suchP_any (ao : Option Addr) (n c isf : Nat) (w : World) : Calls Tryz.prog 62 #[.slice ao n c, .func (.func isf) #[] #[]] w fun e w' =>
  e = .returned (.func (.func 96) #[] #[.pointer (some ⟨w.heap.size, 0, none⟩), .pointer (some ⟨w.heap.size + 1, 0, none⟩)]) ∧ w'.cell? ⟨w.heap.size, 0, none⟩ = some (.slice ao n c) ∧ w'.cell? ⟨w.heap.size + 1, 0, none⟩ = some (.func (.func isf) #[] #[]) ∧ w'.heap.size = w.heap.size + 2 ∧ Below w.heap.size w w' := by
 go_enter Tryz.func62, Tryz.ntmps62
 go_wp2
 go_ret
 have h := (cell_new' (w.alloc (.cells #[.slice ao n c] 112)) (.func (.func isf) #[] #[]) 117).1
 rw [World.size_alloc] at h
 exact ⟨rfl, (World.cell?_of_block (Below.heap_alloc _ _ _ (by simp))).trans (cell_new' w _ _).1, h, by simp, ((Below.refl _ w).alloc (Nat.le_refl _) _).alloc (by simp) _⟩
set_option maxRecDepth 100000 in
set_option maxHeartbeats 8000000 in
theorem suchP_in (S : List Nat) (n l B B2 n₀ nz : Nat) (ao : Option Addr) (G N c isf : Nat) (f : Nat → List Value) (K : Nat → Bool) (hNc : N ≤ 281474976710656) (hf : ∀ i, (f i).length = 2) (hf1 : ∀ i, ∀ u ∈ f i, u.oneCell' = true) (J Jx : List (It5 N K) → World → Prop) (hJb : ∀ s A B, J s A → Below A.heap.size A B → J s B)
  (hY : ∀ pre (x : It5 N K) W, J pre W → pre.length < N → nz ≤ W.heap.size → YieldAt Fence.wide (n - 1) Tryz.prog l #[.int .i64 x.val] W fun e W' =>
   (e = .returned (.bool true) ∧ J (pre ++ [x]) W' ∧ Kq S n₀ W W') ∨ (e = .returned (.bool false) ∧ Jx (pre ++ [x]) W'))
  (hen : ∀ args W, (callFunc isf args).run Tryz.prog W = .ok (.enter isf args) W)
  (his : ∀ i, i < N → ∀ W, Calls Tryz.prog isf #[.agg (f i).toArray] W fun e W' => e = .returned (.bool (K i)) ∧ Below W.heap.size W W')
  (W : World) (hcap : W.cell? ⟨B, 0, none⟩ = some (.slice ao N c)) (hcap2 : W.cell? ⟨B2, 0, none⟩ = some (.func (.func isf) #[] #[])) (hrow : MRow W ao G 2 N f) (hg : 0 < N → G < n₀ ∧ G ∉ S) (hB2 : B2 < n₀ ∧ B2 ∉ S) (hnz : n₀ ≤ nz) (hn : nz ≤ W.heap.size) (h0 : J [] W) :
  CallsIn Fence.wide n Tryz.prog 96 #[.func (.yield l) #[] #[], .pointer (some ⟨B, 0, none⟩), .pointer (some ⟨B2, 0, none⟩)] W fun e W' => (∃ v, e = .returned v) ∧
   ((∃ ys, ys.map Subtype.val = (List.range N).filter K ∧ J ys W') ∨ (∃ pre, True ∧ Jx pre W')) := by
 have HR := hide hrow
 have HC2 := hide hcap2
 have HIS := hide his
 clear hrow hcap2 his
 refine callsIn_of_wp Tryz.func96 rfl trivial ?_ rfl
 simp only [Tryz.ntmps96, List.size_toArray, List.length_cons, List.length_nil, Nat.reduceAdd, Nat.reduceSub, Array.replicate_succ, Array.replicate_zero, List.push_toArray, List.append_toArray, List.nil_append, List.cons_append]
 gi_wp2
 clear hcap
 gi_loopw [8] (fun q wr => ∃ (pre : List (It5 N K)) (i : Nat), q = .int .i64 i ∧ i ≤ N ∧ pre.map Subtype.val = (List.range i).filter K ∧ J pre wr ∧ MRow wr ao G 2 N f ∧ wr.cell? ⟨B2, 0, none⟩ = some (.func (.func isf) #[] #[]) ∧ nz ≤ wr.heap.size) (fun q _ => N - (intOf q).toNat)
 case atStart => exact ⟨[], 0, rfl, by omega, rfl, h0, uh HR, uh HC2, hn⟩
 case round =>
  obtain ⟨pre, i, rfl, hi, hp, hJ1, hr1, hc2, hnw⟩ := hrel
  have hl : pre.length ≤ i := by have := congrArg List.length hp; simp only [List.length_map] at this; rw [this]; exact Nat.le_trans (List.length_filter_le _ _) (by simp)
  have HP := hide hp
  have HR1 := hide hr1
  have HL := hide hl
  have HJ1 := hide hJ1
  clear hp hr1 hl hJ1
  by_cases hlt : i < N
  ·have hi1 : (i : Int) < (N : Int) := by omega
   obtain ⟨o, rfl, hcl⟩ := (uh HR1).at (by omega)
   have HCL := hide (hcl i hlt)
   clear hcl
   have HC2w := hide hc2
   have hal := (Below.refl wr.heap.size wr).alloc (Nat.le_refl _) (.cells (f i).toArray 49)
   have hc2' := (hal.cell (p := ⟨B2, 0, none⟩) (block_lt_of_cell hc2)).trans hc2
   have HAL := hide hal
   clear hal
   gi_wp2_with (first | (refine wpListIn_load_mid11 rfl 49 _ rfl G (o + i * 2) rfl (f i) _ (uh HCL) Tryz.underlying49 (by rfl) (by rw [hf i]; kernel_rfl) ?_) | (refine wpListIn_store_new11 rfl 49 _ _ rfl _ (f i).toArray 49 rfl rfl (by rw [List.size_toArray, hf i]; kernel_rfl) (by rw [show (f i).toArray.size = 2 from by rw [List.size_toArray, hf i]]; rfl) (all_oneCell_toArray (hf1 i)) ?_) | (refine wpListIn_load_new11 rfl 49 _ rfl (f i).toArray 49 rfl _ Tryz.underlying49 (by rfl) (by rw [List.size_toArray, hf i]; kernel_rfl) ?_))
   refine ⟨trivial, fun h => absurd h (by simp [Fence.wide]), (callsIn_wide.2 (uh HIS i hlt _)).mono ?_⟩
   rintro e w' ⟨rfl, hk⟩
   have hkk := (uh HAL).trans (hk.mono (uh HAL).size)
   have HJ2 := hide (hJb _ _ _ (uh HJ1) hkk)
   have HR2 := hide ((uh HR1).of (fun h => hkk.block G (Nat.lt_of_lt_of_le (hg h).1 (Nat.le_trans hnz hnw))))
   have HC22 := hide ((hkk.cell (p := ⟨B2, 0, none⟩) (block_lt_of_cell (uh HC2w))).trans (uh HC2w))
   have hnw2 := Nat.le_trans hnw hkk.size
   clear hk hkk hc2' hc2 HAL HC2w
   obtain ⟨r, hr⟩ : ∃ r, K i = r := ⟨_, rfl⟩
   rw [hr]
   cases r
   ·have HP' : Hid (pre.map Subtype.val = (List.range (i + 1)).filter K) := by show _ = _; rw [uh HP, List.range_succ, List.filter_append]; simp [hr]
    clear hr
    gi_wp2
    refine ⟨fun _ h => (by cases h), ?_⟩
    gi_wp2
    go_roundw
    case rel => exact ⟨pre, i + 1, by go_num, by omega, uh HP', uh HJ2, uh HR2, uh HC22, hnw2⟩
    case measure => simp [intOf]; omega
   have HKi : Hid (K i = true) := hr
   have HP' : Hid ((pre ++ [(⟨i, hlt, uh HKi⟩ : It5 N K)]).map Subtype.val = (List.range (i + 1)).filter K) := by show _ = _; rw [List.map_append, uh HP, List.range_succ, List.filter_append]; simp [hr]
   clear hr
   obtain ⟨fn, tmps, assign, body, hy1, hR⟩ := hY pre ⟨i, hlt, uh HKi⟩ w' (uh HJ2) (by have := uh HL; omega) hnw2
   dsimp only at hy1
   gi_wp2
   refine ⟨fun h => absurd h (by simp [Fence.wide]), hR.mono ?_⟩
   rintro e W3 (⟨rfl, hJ3, hk3⟩ | ⟨rfl, hJx3⟩)
   ·have HR3 := hide ((uh HR2).of (fun h => hk3.block G (hg h).1 (hg h).2))
    have HC3 := hide (hk3.cell (uh HC22) hB2.1 hB2.2)
    have hn3 := Nat.le_trans hnw2 hk3.size
    gi_wp2
    go_roundw
    case rel => exact ⟨pre ++ [(⟨i, hlt, uh HKi⟩ : It5 N K)], i + 1, by go_num, by omega, uh HP', hJ3, uh HR3, uh HC3, hn3⟩
    case measure => simp [intOf]; omega
   gi_wp2
   refine bodyPost_ret (results_none rfl _ _ _) rfl ?_
   exact ⟨⟨_, rfl⟩, .inr ⟨pre ++ [⟨i, hlt, uh HKi⟩], trivial, hJx3⟩⟩
  have hi2 : i = N := by omega
  subst hi2
  gi_wp2
  go_end0
  exact ⟨⟨_, rfl⟩, .inl ⟨pre, uh HP, uh HJ1⟩⟩
theorem suchP_seq {w : World} {B B2 G N c isf : Nat} {ao : Option Addr} {f : Nat → List Value} {K : Nat → Bool} (hNc : N ≤ 281474976710656) (hf : ∀ i, (f i).length = 2) (hf1 : ∀ i, ∀ u ∈ f i, u.oneCell' = true) (hcap : w.cell? ⟨B, 0, none⟩ = some (.slice ao N c)) (hcap2 : w.cell? ⟨B2, 0, none⟩ = some (.func (.func isf) #[] #[]))
  (hrow : MRow w ao G 2 N f) (hen : ∀ args W, (callFunc isf args).run Tryz.prog W = .ok (.enter isf args) W) (his : ∀ i, i < N → ∀ W, Calls Tryz.prog isf #[.agg (f i).toArray] W fun e W' => e = .returned (.bool (K i)) ∧ Below W.heap.size W W') :
  Seq11 96 #[.pointer (some ⟨B, 0, none⟩), .pointer (some ⟨B2, 0, none⟩)] N K (fun k => k = B2 ∨ 0 < N ∧ k = G) w := by
 have hlt : 0 < N → G < w.heap.size := fun h => hrow.lt h (by rw [hf]; omega)
 refine ⟨enters_of Tryz.func96 (by kernel_rfl) rfl, fun W S n₀ hW hS hn l J Jx W2 hW2 hA _ hY h0 => ?_, fun l J W hW hJ hY h0 n => ?_⟩
 ·have hb : Below w.heap.size w W2 := hW.trans (hW2.mono hW.size)
  exact suchP_in S 2 l B B2 w.heap.size w.heap.size ao G N c isf f K hNc hf hf1 J Jx (fun s A B' hs hk => hA s A B' none hs ⟨hk.os, hk.tape, hk.output, hk.size, fun j hj _ => hk.block j hj⟩ (fun r e => by cases e)) (fun pre x W' hj hl _ => by
   obtain ⟨fn, tmps, assign, body, h1, h2⟩ := hY pre x W' hj hl
   exact ⟨fn, tmps, assign, body, h1, h2.mono (fun e W'' he => he.imp (fun h => ⟨h.1, h.2.1, h.2.2.size, fun k hk hks => h.2.2.block k (by omega) hks⟩) id)⟩) hen his W2 ((hb.cell (p := ⟨B, 0, none⟩) (block_lt_of_cell hcap)).trans hcap) ((hb.cell (p := ⟨B2, 0, none⟩) (block_lt_of_cell hcap2)).trans hcap2) (hrow.of (fun h => hb.block G (hlt h)))
   (fun h => ⟨hlt h, fun hm => hS G hm (.inr ⟨h, rfl⟩)⟩) ⟨block_lt_of_cell hcap2, fun hm => hS B2 hm (.inl rfl)⟩ (Nat.le_refl _) hb.size h0
 show CallsIn Fence.wide n Tryz.prog 96 #[.func (.yield l) #[] #[], .pointer (some ⟨B, 0, none⟩), .pointer (some ⟨B2, 0, none⟩)] W _
 refine (suchP_in [] n l B B2 w.heap.size W.heap.size ao G N c isf f K hNc hf hf1 J (fun _ _ => False) (fun s A B' hs hk => hJ s A B' hs (Ka.of_below hk)) (fun pre x W' hj hl hn => ?_) hen his W ((hW.cell (p := ⟨B, 0, none⟩) (block_lt_of_cell hcap)).trans hcap) ((hW.cell (p := ⟨B2, 0, none⟩) (block_lt_of_cell hcap2)).trans hcap2) (hrow.of (fun h => hW.block G (hlt h)))
  (fun h => ⟨hlt h, by simp⟩) ⟨block_lt_of_cell hcap2, by simp⟩ hW.size (Nat.le_refl _) h0).mono ?_
 ·obtain ⟨fn, tmps, assign, body, h1, h2⟩ := hY pre x W' hj hl hn
  exact ⟨fn, tmps, assign, body, h1, (round_any h2).mono (fun e W'' he => .inl ⟨he.1, he.2.1, he.2.2.size, fun k hk _ => he.2.2.block k (Nat.lt_of_lt_of_le hk (Nat.le_trans hW.size hn)) (.inr hk)⟩)⟩
 rintro e W' ⟨h1, (⟨ys, h2, h3⟩ | ⟨pre, -, h⟩)⟩
 ·exact ⟨h1, ys, h2, h3⟩
 exact h.elim
set_option maxHeartbeats 1000000 in
theorem suchE_any (ao : Option Addr) (n c isf : Nat) (w : World) : Calls Tryz.prog 75 #[.slice ao n c, .func (.func isf) #[] #[]] w fun e w' =>
  e = .returned (.func (.func 110) #[] #[.pointer (some ⟨w.heap.size, 0, none⟩), .pointer (some ⟨w.heap.size + 1, 0, none⟩)]) ∧ w'.cell? ⟨w.heap.size, 0, none⟩ = some (.slice ao n c) ∧ w'.cell? ⟨w.heap.size + 1, 0, none⟩ = some (.func (.func isf) #[] #[]) ∧ w'.heap.size = w.heap.size + 2 ∧ Below w.heap.size w w' := by
 go_enter Tryz.func75, Tryz.ntmps75
 go_wp2
 go_ret
 have h := (cell_new' (w.alloc (.cells #[.slice ao n c] 66)) (.func (.func isf) #[] #[]) 86).1
 rw [World.size_alloc] at h
 exact ⟨rfl, (World.cell?_of_block (Below.heap_alloc _ _ _ (by simp))).trans (cell_new' w _ _).1, h, by simp, ((Below.refl _ w).alloc (Nat.le_refl _) _).alloc (by simp) _⟩
set_option maxRecDepth 100000 in
set_option maxHeartbeats 8000000 in
theorem suchE_in (S : List Nat) (n l B B2 n₀ nz : Nat) (ao : Option Addr) (G N c isf : Nat) (f : Nat → List Value) (K : Nat → Bool) (hNc : N ≤ 281474976710656) (hf : ∀ i, (f i).length = 19) (hf1 : ∀ i, ∀ u ∈ f i, u.oneCell' = true) (J Jx : List (It5 N K) → World → Prop) (hJb : ∀ s A B, J s A → Below A.heap.size A B → J s B)
  (hY : ∀ pre (x : It5 N K) W, J pre W → pre.length < N → nz ≤ W.heap.size → YieldAt Fence.wide (n - 1) Tryz.prog l #[.int .i64 x.val] W fun e W' =>
   (e = .returned (.bool true) ∧ J (pre ++ [x]) W' ∧ Kq S n₀ W W') ∨ (e = .returned (.bool false) ∧ Jx (pre ++ [x]) W'))
  (hen : ∀ args W, (callFunc isf args).run Tryz.prog W = .ok (.enter isf args) W)
  (his : ∀ i, i < N → ∀ W, Calls Tryz.prog isf #[.agg (f i).toArray] W fun e W' => e = .returned (.bool (K i)) ∧ Below W.heap.size W W')
  (W : World) (hcap : W.cell? ⟨B, 0, none⟩ = some (.slice ao N c)) (hcap2 : W.cell? ⟨B2, 0, none⟩ = some (.func (.func isf) #[] #[])) (hrow : MRow W ao G 19 N f) (hg : 0 < N → G < n₀ ∧ G ∉ S) (hB2 : B2 < n₀ ∧ B2 ∉ S) (hnz : n₀ ≤ nz) (hn : nz ≤ W.heap.size) (h0 : J [] W) :
  CallsIn Fence.wide n Tryz.prog 110 #[.func (.yield l) #[] #[], .pointer (some ⟨B, 0, none⟩), .pointer (some ⟨B2, 0, none⟩)] W fun e W' => (∃ v, e = .returned v) ∧
   ((∃ ys, ys.map Subtype.val = (List.range N).filter K ∧ J ys W') ∨ (∃ pre, True ∧ Jx pre W')) := by
 have HR := hide hrow
 have HC2 := hide hcap2
 have HIS := hide his
 clear hrow hcap2 his
 refine callsIn_of_wp Tryz.func110 rfl trivial ?_ rfl
 simp only [Tryz.ntmps110, List.size_toArray, List.length_cons, List.length_nil, Nat.reduceAdd, Nat.reduceSub, Array.replicate_succ, Array.replicate_zero, List.push_toArray, List.append_toArray, List.nil_append, List.cons_append]
 gi_wp2
 clear hcap
 gi_loopw [8] (fun q wr => ∃ (pre : List (It5 N K)) (i : Nat), q = .int .i64 i ∧ i ≤ N ∧ pre.map Subtype.val = (List.range i).filter K ∧ J pre wr ∧ MRow wr ao G 19 N f ∧ wr.cell? ⟨B2, 0, none⟩ = some (.func (.func isf) #[] #[]) ∧ nz ≤ wr.heap.size) (fun q _ => N - (intOf q).toNat)
 case atStart => exact ⟨[], 0, rfl, by omega, rfl, h0, uh HR, uh HC2, hn⟩
 case round =>
  obtain ⟨pre, i, rfl, hi, hp, hJ1, hr1, hc2, hnw⟩ := hrel
  have hl : pre.length ≤ i := by have := congrArg List.length hp; simp only [List.length_map] at this; rw [this]; exact Nat.le_trans (List.length_filter_le _ _) (by simp)
  have HP := hide hp
  have HR1 := hide hr1
  have HL := hide hl
  have HJ1 := hide hJ1
  clear hp hr1 hl hJ1
  by_cases hlt : i < N
  ·have hi1 : (i : Int) < (N : Int) := by omega
   obtain ⟨o, rfl, hcl⟩ := (uh HR1).at (by omega)
   have HCL := hide (hcl i hlt)
   clear hcl
   have HC2w := hide hc2
   have hal := (Below.refl wr.heap.size wr).alloc (Nat.le_refl _) (.cells (f i).toArray 44)
   have hc2' := (hal.cell (p := ⟨B2, 0, none⟩) (block_lt_of_cell hc2)).trans hc2
   have HAL := hide hal
   clear hal
   gi_wp2_with (first | (refine wpListIn_load_mid11 rfl 44 _ rfl G (o + i * 19) rfl (f i) _ (uh HCL) Tryz.underlying44 (by rfl) (by rw [hf i]; kernel_rfl) ?_) | (refine wpListIn_store_new11 rfl 44 _ _ rfl _ (f i).toArray 44 rfl rfl (by rw [List.size_toArray, hf i]; kernel_rfl) (by rw [show (f i).toArray.size = 19 from by rw [List.size_toArray, hf i]]; rfl) (all_oneCell_toArray (hf1 i)) ?_) | (refine wpListIn_load_new11 rfl 44 _ rfl (f i).toArray 44 rfl _ Tryz.underlying44 (by rfl) (by rw [List.size_toArray, hf i]; kernel_rfl) ?_))
   refine ⟨trivial, fun h => absurd h (by simp [Fence.wide]), (callsIn_wide.2 (uh HIS i hlt _)).mono ?_⟩
   rintro e w' ⟨rfl, hk⟩
   have hkk := (uh HAL).trans (hk.mono (uh HAL).size)
   have HJ2 := hide (hJb _ _ _ (uh HJ1) hkk)
   have HR2 := hide ((uh HR1).of (fun h => hkk.block G (Nat.lt_of_lt_of_le (hg h).1 (Nat.le_trans hnz hnw))))
   have HC22 := hide ((hkk.cell (p := ⟨B2, 0, none⟩) (block_lt_of_cell (uh HC2w))).trans (uh HC2w))
   have hnw2 := Nat.le_trans hnw hkk.size
   clear hk hkk hc2' hc2 HAL HC2w
   obtain ⟨r, hr⟩ : ∃ r, K i = r := ⟨_, rfl⟩
   rw [hr]
   cases r
   ·have HP' : Hid (pre.map Subtype.val = (List.range (i + 1)).filter K) := by show _ = _; rw [uh HP, List.range_succ, List.filter_append]; simp [hr]
    clear hr
    gi_wp2
    refine ⟨fun _ h => (by cases h), ?_⟩
    gi_wp2
    go_roundw
    case rel => exact ⟨pre, i + 1, by go_num, by omega, uh HP', uh HJ2, uh HR2, uh HC22, hnw2⟩
    case measure => simp [intOf]; omega
   have HKi : Hid (K i = true) := hr
   have HP' : Hid ((pre ++ [(⟨i, hlt, uh HKi⟩ : It5 N K)]).map Subtype.val = (List.range (i + 1)).filter K) := by show _ = _; rw [List.map_append, uh HP, List.range_succ, List.filter_append]; simp [hr]
   clear hr
   obtain ⟨fn, tmps, assign, body, hy1, hR⟩ := hY pre ⟨i, hlt, uh HKi⟩ w' (uh HJ2) (by have := uh HL; omega) hnw2
   dsimp only at hy1
   gi_wp2
   refine ⟨fun h => absurd h (by simp [Fence.wide]), hR.mono ?_⟩
   rintro e W3 (⟨rfl, hJ3, hk3⟩ | ⟨rfl, hJx3⟩)
   ·have HR3 := hide ((uh HR2).of (fun h => hk3.block G (hg h).1 (hg h).2))
    have HC3 := hide (hk3.cell (uh HC22) hB2.1 hB2.2)
    have hn3 := Nat.le_trans hnw2 hk3.size
    gi_wp2
    go_roundw
    case rel => exact ⟨pre ++ [(⟨i, hlt, uh HKi⟩ : It5 N K)], i + 1, by go_num, by omega, uh HP', hJ3, uh HR3, uh HC3, hn3⟩
    case measure => simp [intOf]; omega
   gi_wp2
   refine bodyPost_ret (results_none rfl _ _ _) rfl ?_
   exact ⟨⟨_, rfl⟩, .inr ⟨pre ++ [⟨i, hlt, uh HKi⟩], trivial, hJx3⟩⟩
  have hi2 : i = N := by omega
  subst hi2
  gi_wp2
  go_end0
  exact ⟨⟨_, rfl⟩, .inl ⟨pre, uh HP, uh HJ1⟩⟩
theorem suchE_seq {w : World} {B B2 G N c isf : Nat} {ao : Option Addr} {f : Nat → List Value} {K : Nat → Bool} (hNc : N ≤ 281474976710656) (hf : ∀ i, (f i).length = 19) (hf1 : ∀ i, ∀ u ∈ f i, u.oneCell' = true) (hcap : w.cell? ⟨B, 0, none⟩ = some (.slice ao N c)) (hcap2 : w.cell? ⟨B2, 0, none⟩ = some (.func (.func isf) #[] #[]))
  (hrow : MRow w ao G 19 N f) (hen : ∀ args W, (callFunc isf args).run Tryz.prog W = .ok (.enter isf args) W) (his : ∀ i, i < N → ∀ W, Calls Tryz.prog isf #[.agg (f i).toArray] W fun e W' => e = .returned (.bool (K i)) ∧ Below W.heap.size W W') :
  Seq11 110 #[.pointer (some ⟨B, 0, none⟩), .pointer (some ⟨B2, 0, none⟩)] N K (fun k => k = B2 ∨ 0 < N ∧ k = G) w := by
 have hlt : 0 < N → G < w.heap.size := fun h => hrow.lt h (by rw [hf]; omega)
 refine ⟨enters_of Tryz.func110 (by kernel_rfl) rfl, fun W S n₀ hW hS hn l J Jx W2 hW2 hA _ hY h0 => ?_, fun l J W hW hJ hY h0 n => ?_⟩
 ·have hb : Below w.heap.size w W2 := hW.trans (hW2.mono hW.size)
  exact suchE_in S 2 l B B2 w.heap.size w.heap.size ao G N c isf f K hNc hf hf1 J Jx (fun s A B' hs hk => hA s A B' none hs ⟨hk.os, hk.tape, hk.output, hk.size, fun j hj _ => hk.block j hj⟩ (fun r e => by cases e)) (fun pre x W' hj hl _ => by
   obtain ⟨fn, tmps, assign, body, h1, h2⟩ := hY pre x W' hj hl
   exact ⟨fn, tmps, assign, body, h1, h2.mono (fun e W'' he => he.imp (fun h => ⟨h.1, h.2.1, h.2.2.size, fun k hk hks => h.2.2.block k (by omega) hks⟩) id)⟩) hen his W2 ((hb.cell (p := ⟨B, 0, none⟩) (block_lt_of_cell hcap)).trans hcap) ((hb.cell (p := ⟨B2, 0, none⟩) (block_lt_of_cell hcap2)).trans hcap2) (hrow.of (fun h => hb.block G (hlt h)))
   (fun h => ⟨hlt h, fun hm => hS G hm (.inr ⟨h, rfl⟩)⟩) ⟨block_lt_of_cell hcap2, fun hm => hS B2 hm (.inl rfl)⟩ (Nat.le_refl _) hb.size h0
 show CallsIn Fence.wide n Tryz.prog 110 #[.func (.yield l) #[] #[], .pointer (some ⟨B, 0, none⟩), .pointer (some ⟨B2, 0, none⟩)] W _
 refine (suchE_in [] n l B B2 w.heap.size W.heap.size ao G N c isf f K hNc hf hf1 J (fun _ _ => False) (fun s A B' hs hk => hJ s A B' hs (Ka.of_below hk)) (fun pre x W' hj hl hn => ?_) hen his W ((hW.cell (p := ⟨B, 0, none⟩) (block_lt_of_cell hcap)).trans hcap) ((hW.cell (p := ⟨B2, 0, none⟩) (block_lt_of_cell hcap2)).trans hcap2) (hrow.of (fun h => hW.block G (hlt h)))
  (fun h => ⟨hlt h, by simp⟩) ⟨block_lt_of_cell hcap2, by simp⟩ hW.size (Nat.le_refl _) h0).mono ?_
 ·obtain ⟨fn, tmps, assign, body, h1, h2⟩ := hY pre x W' hj hl hn
  exact ⟨fn, tmps, assign, body, h1, (round_any h2).mono (fun e W'' he => .inl ⟨he.1, he.2.1, he.2.2.size, fun k hk _ => he.2.2.block k (Nat.lt_of_lt_of_le hk (Nat.le_trans hW.size hn)) (.inr hk)⟩)⟩
 rintro e W' ⟨h1, (⟨ys, h2, h3⟩ | ⟨pre, -, h⟩)⟩
 ·exact ⟨h1, ys, h2, h3⟩
 exact h.elim
end Go.Proofs.YtjdikhelabibnaaGreat

namespace Go.Proofs.YtjdikhelabibnaaGreat
open Go Go.RowKit Go.Shelf
attribute [local go_sem] Oper.semAt_some
theorem load_bo11 (w : World) (ad : Addr) (x : Value) (hc : w.cell? ad = some x) : (loadVar 4 ad).run Tryz.prog w = .ok x w := by
 have hu := Tryz.underlying4
 simp [loadVar, isAgg, run_underlying hu, run_load, hc]
set_option maxRecDepth 100000 in
set_option maxHeartbeats 8000000 in
theorem hasP_any (ao : Option Addr) (G N c isf : Nat) (f : Nat → List Value) (K : Nat → Bool) (hNc : N ≤ 281474976710656) (hf : ∀ i, (f i).length = 2) (hf1 : ∀ i, ∀ u ∈ f i, u.oneCell' = true) (w : World) (hrow : MRow w ao G 2 N f)
  (hen : ∀ args W, (callFunc isf args).run Tryz.prog W = .ok (.enter isf args) W) (his : ∀ i, i < N → ∀ W, Calls Tryz.prog isf #[.agg (f i).toArray] W fun e W' => e = .returned (.bool (K i)) ∧ Below W.heap.size W W') :
  Calls Tryz.prog 65 #[.slice ao N c, .func (.func isf) #[] #[]] w fun e w' => e = .returned (.bool ((List.range N).any K)) ∧ Below w.heap.size w w' := by
 have HR := hide hrow
 have HIS := hide his
 have HEN := hide hen
 clear hrow his hen
 refine (callsIn_wide (n := 3)).1 ?_
 refine callsIn_of_wp_marks Tryz.func65 rfl trivial ?_ rfl
 simp only [Tryz.ntmps65, List.size_toArray, List.length_cons, List.length_nil, Nat.reduceAdd, Nat.reduceSub, Array.replicate_succ, Array.replicate_zero, List.push_toArray, List.append_toArray, List.nil_append, List.cons_append]
 gi_wp2
 have b0 : Boxed (w.alloc (.cells #[.bool false] 4)) w.heap.size 4 (.bool false) := Boxed.new _ _ _
 have hal := (Below.refl w.heap.size w).alloc (Nat.le_refl _) (.cells #[.bool false] 4)
 have hz1 : (w.alloc (.cells #[.bool false] 4)).heap.size = w.heap.size + 1 := World.size_alloc _ _
 generalize w.alloc (.cells #[.bool false] 4) = w1 at b0 hal hz1 ⊢
 refine ⟨trivial, (callsIn_wide.2 (suchP_any ao N c isf w1)).mono ?_⟩
 rintro e w2 ⟨rfl, k1, k2, hz2, hk2⟩
 have hw2 : Below w.heap.size w w2 := hal.trans (hk2.mono (by omega))
 have B0 : Hid (Boxed w2 w.heap.size 4 (.bool false)) := Boxed.below b0 hk2
 have HR2 := hide ((uh HR).of (fun h => hw2.block G ((uh HR).lt h (by rw [hf]; omega))))
 have HS := hide (suchP_seq hNc hf hf1 k1 k2 (uh HR2) (uh HEN) (uh HIS))
 have HW2 := hide hw2
 have hzle : w.heap.size + 1 ≤ w2.heap.size := by omega
 have HZ1 := hide hz1
 clear b0 hal hz2 hk2 k1 k2 hw2 hz1
 gi_wp2
 refine wpIn_rangeFunc_ownF rfl (by omega) (gf := 96) (lb := #[.pointer (some ⟨w1.heap.size, 0, none⟩), .pointer (some ⟨w1.heap.size + 1, 0, none⟩)]) rfl trivial (uh HS).enters
  ((uh HS).seq w2 [] w2.heap.size (Below.refl _ _) (by simp) (Nat.le_refl _))
  (fun h k => h.trans k) (kq_b (Nat.le_refl _)) (Below.refl _ _) (fun _ => rfl)
  (fun pre W => (pre = [] ∧ Boxed W w.heap.size 4 (.bool false)) ∧ Below w.heap.size w W)
  (fun c pre W => (c = .ret ∧ pre ≠ [] ∧ Boxed W w.heap.size 4 (.bool true)) ∧ Below w.heap.size w W)
  (OwnFrom.and (Own.from (fun s A B row hs hg hr => ⟨hs.1, boxed_own _ _ _ s A B row hs.2 hg hr⟩) _) (ownFrom_below (Nat.le_refl _) (by omega)))
  (fun c => OwnFrom.and (Own.from (fun s A B row hs hg hr => ⟨hs.1, hs.2.1, boxed_own _ _ _ s A B row hs.2.2 hg hr⟩) _) (ownFrom_below (Nat.le_refl _) (by omega)))
  ⟨⟨rfl, uh B0⟩, uh HW2⟩
  (fun x => { tmps := #[.slice ao N c, .func (.func isf) #[] #[], undef, undef, .pointer (some ⟨w.heap.size, 0, none⟩), .slice ao N c, .func (.func isf) #[] #[], .func (.func 96) #[] #[.pointer (some ⟨w1.heap.size, 0, none⟩), .pointer (some ⟨w1.heap.size + 1, 0, none⟩)], .int .i64 (x.val : Nat)], defers := [] }) ?assign ?body ?done ?stop
 case assign =>
  intro l x W K hK
  gi_wp2
  simpa using hK
 case body =>
  rintro l pre x W ⟨⟨rfl, hb⟩, hB⟩ hlt
  have hc := hb.cell
  have hf := hb.frozen
  have HB0 := hide hb
  have HB := hide hB
  clear hb hB
  gi_wp2
  exact ⟨KeepsOthers.setCell _ _ _, ⟨rfl, by simp, (uh HB0).set _⟩, (uh HB).setCell (p := ⟨w.heap.size, 0, none⟩) (Nat.le_refl _) _⟩
 case done =>
  rintro D xs W hD hxs ⟨⟨rfl, hb⟩, hB⟩ hK
  have hc := hb.cell
  have hf := hb.frozen
  have HX := hide hxs
  have HB0 := hide hb
  have HB := hide hB
  have HK := hide hK
  clear hxs hb hB hK
  gi_wp2
  have hKD : (W.setCell ⟨w.heap.size, 0, none⟩ (.bool false)).heap[D]? = some (.deferred (some [])) := (KeepsOthers.setCell _ _ _).same D _ (uh HK) rfl
  refine ⟨by simp, .inl ⟨_, _, rfl, run_takeDeferred hKD, ?_⟩⟩
  have b1 : Boxed ((W.setCell ⟨w.heap.size, 0, none⟩ (.bool false)).putObj D (.deferred none)) w.heap.size 4 (.bool false) := ((uh HB0).set _).kept (grownBy_putObj' _ D (.deferred none)) (by simp; omega)
  have hany : (List.range N).any K = false := by
   have h := uh HX
   simp only [List.map_nil] at h
   rw [List.any_eq_false]
   intro i hi hk
   have : i ∈ (List.range N).filter K := List.mem_filter.2 ⟨hi, hk⟩
   rw [← h] at this
   exact absurd this (by simp)
  exact ⟨_, results_cell7 rfl _ _ ⟨w.heap.size, 0, none⟩ _ rfl (load_bo11 _ _ _ b1.cell), by rw [hany], ((uh HB).setCell (p := ⟨w.heap.size, 0, none⟩) (Nat.le_refl _) _).trans (below_put _ _ (by omega))⟩
 case stop =>
  rintro D c pre W hD hpre ⟨⟨rfl, hne, hb⟩, hB⟩ hK
  gi_wp2
  refine ⟨by simp, .inl ⟨_, _, rfl, run_takeDeferred hK, ?_⟩⟩
  have b1 := hb.kept (grownBy_putObj' _ D (.deferred none)) (fun e => by cases e; rw [show W.heap[w.heap.size]? = _ from hb] at hK; cases hK)
  have hany : (List.range N).any K = true := by
   match pre, hne with
   | x :: _, _ => exact List.any_eq_true.2 ⟨x.val, List.mem_range.2 x.property.1, x.property.2⟩
  exact ⟨_, results_cell7 rfl _ _ ⟨w.heap.size, 0, none⟩ _ rfl (load_bo11 _ _ _ b1.cell), by rw [hany], hB.trans (below_put _ _ (by omega))⟩
set_option maxRecDepth 100000 in
set_option maxHeartbeats 8000000 in
theorem hasE_any (ao : Option Addr) (G N c isf : Nat) (f : Nat → List Value) (K : Nat → Bool) (hNc : N ≤ 281474976710656) (hf : ∀ i, (f i).length = 19) (hf1 : ∀ i, ∀ u ∈ f i, u.oneCell' = true) (w : World) (hrow : MRow w ao G 19 N f)
  (hen : ∀ args W, (callFunc isf args).run Tryz.prog W = .ok (.enter isf args) W) (his : ∀ i, i < N → ∀ W, Calls Tryz.prog isf #[.agg (f i).toArray] W fun e W' => e = .returned (.bool (K i)) ∧ Below W.heap.size W W') :
  Calls Tryz.prog 45 #[.slice ao N c, .func (.func isf) #[] #[]] w fun e w' => e = .returned (.bool ((List.range N).any K)) ∧ Below w.heap.size w w' := by
 have HR := hide hrow
 have HIS := hide his
 have HEN := hide hen
 clear hrow his hen
 refine (callsIn_wide (n := 3)).1 ?_
 refine callsIn_of_wp_marks Tryz.func45 rfl trivial ?_ rfl
 simp only [Tryz.ntmps45, List.size_toArray, List.length_cons, List.length_nil, Nat.reduceAdd, Nat.reduceSub, Array.replicate_succ, Array.replicate_zero, List.push_toArray, List.append_toArray, List.nil_append, List.cons_append]
 gi_wp2
 have b0 : Boxed (w.alloc (.cells #[.bool false] 4)) w.heap.size 4 (.bool false) := Boxed.new _ _ _
 have hal := (Below.refl w.heap.size w).alloc (Nat.le_refl _) (.cells #[.bool false] 4)
 have hz1 : (w.alloc (.cells #[.bool false] 4)).heap.size = w.heap.size + 1 := World.size_alloc _ _
 generalize w.alloc (.cells #[.bool false] 4) = w1 at b0 hal hz1 ⊢
 refine ⟨trivial, (callsIn_wide.2 (suchE_any ao N c isf w1)).mono ?_⟩
 rintro e w2 ⟨rfl, k1, k2, hz2, hk2⟩
 have hw2 : Below w.heap.size w w2 := hal.trans (hk2.mono (by omega))
 have B0 : Hid (Boxed w2 w.heap.size 4 (.bool false)) := Boxed.below b0 hk2
 have HR2 := hide ((uh HR).of (fun h => hw2.block G ((uh HR).lt h (by rw [hf]; omega))))
 have HS := hide (suchE_seq hNc hf hf1 k1 k2 (uh HR2) (uh HEN) (uh HIS))
 have HW2 := hide hw2
 have hzle : w.heap.size + 1 ≤ w2.heap.size := by omega
 have HZ1 := hide hz1
 clear b0 hal hz2 hk2 k1 k2 hw2 hz1
 gi_wp2
 refine wpIn_rangeFunc_ownF rfl (by omega) (gf := 110) (lb := #[.pointer (some ⟨w1.heap.size, 0, none⟩), .pointer (some ⟨w1.heap.size + 1, 0, none⟩)]) rfl trivial (uh HS).enters
  ((uh HS).seq w2 [] w2.heap.size (Below.refl _ _) (by simp) (Nat.le_refl _))
  (fun h k => h.trans k) (kq_b (Nat.le_refl _)) (Below.refl _ _) (fun _ => rfl)
  (fun pre W => (pre = [] ∧ Boxed W w.heap.size 4 (.bool false)) ∧ Below w.heap.size w W)
  (fun c pre W => (c = .ret ∧ pre ≠ [] ∧ Boxed W w.heap.size 4 (.bool true)) ∧ Below w.heap.size w W)
  (OwnFrom.and (Own.from (fun s A B row hs hg hr => ⟨hs.1, boxed_own _ _ _ s A B row hs.2 hg hr⟩) _) (ownFrom_below (Nat.le_refl _) (by omega)))
  (fun c => OwnFrom.and (Own.from (fun s A B row hs hg hr => ⟨hs.1, hs.2.1, boxed_own _ _ _ s A B row hs.2.2 hg hr⟩) _) (ownFrom_below (Nat.le_refl _) (by omega)))
  ⟨⟨rfl, uh B0⟩, uh HW2⟩
  (fun x => { tmps := #[.slice ao N c, .func (.func isf) #[] #[], undef, undef, .pointer (some ⟨w.heap.size, 0, none⟩), .slice ao N c, .func (.func isf) #[] #[], .func (.func 110) #[] #[.pointer (some ⟨w1.heap.size, 0, none⟩), .pointer (some ⟨w1.heap.size + 1, 0, none⟩)], .int .i64 (x.val : Nat)], defers := [] }) ?assign ?body ?done ?stop
 case assign =>
  intro l x W K hK
  gi_wp2
  simpa using hK
 case body =>
  rintro l pre x W ⟨⟨rfl, hb⟩, hB⟩ hlt
  have hc := hb.cell
  have hf := hb.frozen
  have HB0 := hide hb
  have HB := hide hB
  clear hb hB
  gi_wp2
  exact ⟨KeepsOthers.setCell _ _ _, ⟨rfl, by simp, (uh HB0).set _⟩, (uh HB).setCell (p := ⟨w.heap.size, 0, none⟩) (Nat.le_refl _) _⟩
 case done =>
  rintro D xs W hD hxs ⟨⟨rfl, hb⟩, hB⟩ hK
  have hc := hb.cell
  have hf := hb.frozen
  have HX := hide hxs
  have HB0 := hide hb
  have HB := hide hB
  have HK := hide hK
  clear hxs hb hB hK
  gi_wp2
  have hKD : (W.setCell ⟨w.heap.size, 0, none⟩ (.bool false)).heap[D]? = some (.deferred (some [])) := (KeepsOthers.setCell _ _ _).same D _ (uh HK) rfl
  refine ⟨by simp, .inl ⟨_, _, rfl, run_takeDeferred hKD, ?_⟩⟩
  have b1 : Boxed ((W.setCell ⟨w.heap.size, 0, none⟩ (.bool false)).putObj D (.deferred none)) w.heap.size 4 (.bool false) := ((uh HB0).set _).kept (grownBy_putObj' _ D (.deferred none)) (by simp; omega)
  have hany : (List.range N).any K = false := by
   have h := uh HX
   simp only [List.map_nil] at h
   rw [List.any_eq_false]
   intro i hi hk
   have : i ∈ (List.range N).filter K := List.mem_filter.2 ⟨hi, hk⟩
   rw [← h] at this
   exact absurd this (by simp)
  exact ⟨_, results_cell7 rfl _ _ ⟨w.heap.size, 0, none⟩ _ rfl (load_bo11 _ _ _ b1.cell), by rw [hany], ((uh HB).setCell (p := ⟨w.heap.size, 0, none⟩) (Nat.le_refl _) _).trans (below_put _ _ (by omega))⟩
 case stop =>
  rintro D c pre W hD hpre ⟨⟨rfl, hne, hb⟩, hB⟩ hK
  gi_wp2
  refine ⟨by simp, .inl ⟨_, _, rfl, run_takeDeferred hK, ?_⟩⟩
  have b1 := hb.kept (grownBy_putObj' _ D (.deferred none)) (fun e => by cases e; rw [show W.heap[w.heap.size]? = _ from hb] at hK; cases hK)
  have hany : (List.range N).any K = true := by
   match pre, hne with
   | x :: _, _ => exact List.any_eq_true.2 ⟨x.val, List.mem_range.2 x.property.1, x.property.2⟩
  exact ⟨_, results_cell7 rfl _ _ ⟨w.heap.size, 0, none⟩ _ rfl (load_bo11 _ _ _ b1.cell), by rw [hany], hB.trans (below_put _ _ (by omega))⟩
end Go.Proofs.YtjdikhelabibnaaGreat

namespace Go.Proofs.YtjdikhelabibnaaGreat
open Go Go.RowKit Go.Shelf
attribute [local go_sem] Oper.semAt_some
def EV.ar (e : EV) : Array Value := entA e.k e.l e.s e.d
theorem wpListIn_load_ev11 {F : Fence} {n : Nat} {ops : Array Oper} {rest : List Oper} {o : Oper} {a : Act} {w : World} {Q : Exit → Act → World → Prop} (hgd : o.guard = none) (x : Operand) (ho : o.op = .load 44 x)
  (b p : Nat) (hx : a.eval x = .pointer (some ⟨b, p, none⟩)) (e : EV) (he : e.Ok) (hc : w.rangeAt b p e.cs)
  (h : wpListIn F n Tryz.prog ops Q rest (a.put o.dst (.agg e.ar)) w) : wpListIn F n Tryz.prog ops Q (o :: rest) a w :=
 wpListIn_load_mid11 hgd 44 x ho b p hx e.cs _ hc Tryz.underlying44 (by rfl) (by rw [sizeTE, EV.cs_len he]) h
theorem EV.ar_size {e : EV} (h : e.Ok) : e.ar.size = 19 := entA_size h.len
theorem EV.ar_one (e : EV) : e.ar.all (·.oneCell') = true := entA_one _ _ _ _
set_option maxHeartbeats 1000000 in
theorem slotsE_any (ao : Option Addr) (n c : Nat) (D : Int) (w : World) : Calls Tryz.prog 25 #[.slice ao n c, .int .i64 D] w fun e w' =>
  e = .returned (.func (.func 47) #[] #[.pointer (some ⟨w.heap.size + 1, 0, none⟩), .pointer (some ⟨w.heap.size, 0, none⟩)]) ∧ w'.cell? ⟨w.heap.size, 0, none⟩ = some (.slice ao n c) ∧ w'.cell? ⟨w.heap.size + 1, 0, none⟩ = some (.int .i64 D) ∧ w'.heap.size = w.heap.size + 2 ∧ Below w.heap.size w w' := by
 go_enter Tryz.func25, Tryz.ntmps25
 go_wp2
 go_ret
 have h := (cell_new' (w.alloc (.cells #[.slice ao n c] 66)) (.int .i64 D) 3).1
 rw [World.size_alloc] at h
 exact ⟨rfl, (World.cell?_of_block (Below.heap_alloc _ _ _ (by simp))).trans (cell_new' w _ _).1, h, by simp, ((Below.refl _ w).alloc (Nat.le_refl _) _).alloc (by simp) _⟩
set_option maxHeartbeats 1000000 in
theorem slotsB_any (ao : Option Addr) (n c : Nat) (D : Int) (w : World) : Calls Tryz.prog 70 #[.slice ao n c, .int .i64 D] w fun e w' =>
  e = .returned (.func (.func 102) #[] #[.pointer (some ⟨w.heap.size + 1, 0, none⟩), .pointer (some ⟨w.heap.size, 0, none⟩)]) ∧ w'.cell? ⟨w.heap.size, 0, none⟩ = some (.slice ao n c) ∧ w'.cell? ⟨w.heap.size + 1, 0, none⟩ = some (.int .i64 D) ∧ w'.heap.size = w.heap.size + 2 ∧ Below w.heap.size w w' := by
 go_enter Tryz.func70, Tryz.ntmps70
 go_wp2
 go_ret
 have h := (cell_new' (w.alloc (.cells #[.slice ao n c] 119)) (.int .i64 D) 3).1
 rw [World.size_alloc] at h
 exact ⟨rfl, (World.cell?_of_block (Below.heap_alloc _ _ _ (by simp))).trans (cell_new' w _ _).1, h, by simp, ((Below.refl _ w).alloc (Nat.le_refl _) _).alloc (by simp) _⟩
structure Seq11s (gf : Nat) (lb : Array Value) (d : Nat) (u : Nat → Value) (V : Nat → Prop) (w : World) : Prop where
 enters : ∀ args W, (callFunc gf args).run Tryz.prog W = .ok (.enter gf args) W
 seq : ∀ (W : World) (S : List Nat) (n₀ : Nat), Below w.heap.size w W → (∀ s ∈ S, ¬ V s) → w.heap.size ≤ n₀ →
  SeqStopsK Fence.wide 2 Tryz.prog gf lb (fun x : Fin d => #[Value.int .i64 x.val, u x.val]) (Kq S n₀) (fun ys => ys.map Fin.val = List.range d) (fun ys => ys.map Fin.val = List.range ys.length) d W
set_option maxRecDepth 100000 in
set_option maxHeartbeats 8000000 in
theorem slotsE_in (S : List Nat) (m l B B2 n₀ : Nat) (ao : Option Addr) (G n c d : Nat) (L : List EV) (hd : d ≤ 100000) (hok : ∀ i, (L.getD i zEV).Ok) (hn : L.length = n) (J Jx : List (Fin d) → World → Prop) (hJb : ∀ s A B, J s A → Below A.heap.size A B → J s B)
  (hY : ∀ pre (x : Fin d) W, J pre W → pre.length < d → YieldAt Fence.wide (m - 1) Tryz.prog l #[.int .i64 x.val, .agg (L.getD x.val zEV).ar] W fun e W' =>
   (e = .returned (.bool true) ∧ J (pre ++ [x]) W' ∧ Kq S n₀ W W') ∨ (e = .returned (.bool false) ∧ Jx (pre ++ [x]) W'))
  (W : World) (hcap : W.cell? ⟨B, 0, none⟩ = some (.int .i64 ((d : Int) + 2))) (hcap2 : W.cell? ⟨B2, 0, none⟩ = some (.slice ao n c)) (hrow : MRow W ao G 19 n (fun i => (L.getD i zEV).cs)) (hg : 0 < n → G < n₀ ∧ G ∉ S) (hB2 : B2 < n₀ ∧ B2 ∉ S) (hnW : n₀ ≤ W.heap.size) (h0 : J [] W) :
  CallsIn Fence.wide m Tryz.prog 47 #[.func (.yield l) #[] #[], .pointer (some ⟨B, 0, none⟩), .pointer (some ⟨B2, 0, none⟩)] W fun e W' => (∃ v, e = .returned v) ∧
   ((∃ ys, ys.map Fin.val = List.range d ∧ J ys W') ∨ (∃ pre, pre.map Fin.val = List.range pre.length ∧ Jx pre W')) := by
 have HR := hide hrow
 have HC2 := hide hcap2
 have HOK := hide hok
 have HN := hide hn
 clear hrow hcap2 hok hn
 refine callsIn_of_wp Tryz.func47 rfl trivial ?_ rfl
 simp only [Tryz.ntmps47, List.size_toArray, List.length_cons, List.length_nil, Nat.reduceAdd, Nat.reduceSub, Array.replicate_succ, Array.replicate_zero, List.push_toArray, List.append_toArray, List.nil_append, List.cons_append]
 have hdi : (d : Int) + 2 - 2 = (d : Int) := by omega
 gi_wp2
 clear hcap hdi
 gi_loopw [8] (fun q wr => ∃ (pre : List (Fin d)) (i : Nat), q = .int .i64 i ∧ i ≤ d ∧ pre.map Fin.val = List.range i ∧ J pre wr ∧ MRow wr ao G 19 n (fun i => (L.getD i zEV).cs) ∧ wr.cell? ⟨B2, 0, none⟩ = some (.slice ao n c) ∧ n₀ ≤ wr.heap.size) (fun q _ => d - (intOf q).toNat)
 case atStart => exact ⟨[], 0, rfl, by omega, rfl, h0, uh HR, uh HC2, hnW⟩
 case round =>
  obtain ⟨pre, i, rfl, hi, hp, hJ1, hr1, hc2, hnw⟩ := hrel
  have hl : pre.length = i := by have := congrArg List.length hp; simpa using this
  have HP := hide hp
  have HR1 := hide hr1
  have HL := hide hl
  have HJ1 := hide hJ1
  clear hp hr1 hl hJ1
  by_cases hlt : i < d
  ·have hi1 : (i : Int) < (d : Int) := by omega
   have HP' : Hid ((pre ++ [(⟨i, hlt⟩ : Fin d)]).map Fin.val = List.range (i + 1)) := by show _ = _; rw [List.map_append, uh HP, List.range_succ]; rfl
   have hal := (Below.refl wr.heap.size wr).alloc (Nat.le_refl _) (.cells (L.getD i zEV).ar 44)
   have HKK := hide hal
   have HJ2 := hide (hJb _ _ _ (uh HJ1) hal)
   have HR2 := hide ((uh HR1).of (fun h => hal.block G (Nat.lt_of_lt_of_le (hg h).1 hnw)))
   have hnw2 := Nat.le_trans hnw hal.size
   have hz0 := (Below.refl wr.heap.size wr).alloc (Nat.le_refl _) (.cells (entA 0 0 0 zer16) 44)
   have hc2a : (wr.alloc (.cells #[.int .i64 0, .int .i64 0, .int .i64 0, .int .u8 0, .int .u8 0, .int .u8 0, .int .u8 0, .int .u8 0, .int .u8 0, .int .u8 0, .int .u8 0, .int .u8 0, .int .u8 0, .int .u8 0, .int .u8 0, .int .u8 0, .int .u8 0, .int .u8 0, .int .u8 0] 44)).cell? ⟨B2, 0, none⟩ = some (.slice ao n c) := (hz0.cell (p := ⟨B2, 0, none⟩) (block_lt_of_cell hc2)).trans hc2
   have HC22 := hide ((hal.cell (p := ⟨B2, 0, none⟩) (block_lt_of_cell hc2)).trans hc2)
   obtain ⟨fn, tmps, assign, body, hy1, hR⟩ := hY pre ⟨i, hlt⟩ (wr.alloc (.cells (L.getD i zEV).ar 44)) (uh HJ2) (by rw [uh HL]; exact hlt)
   dsimp only at hy1
   have HRR := hide hR
   have HOI := hide ((uh HOK) i)
   clear hal hR
   by_cases hin : i < n
   ·have hin1 : (i : Int) < (n : Int) := by omega
    obtain ⟨o, rfl, hcl⟩ := (uh HR1).at (by omega)
    have HCL : Hid ((wr.alloc (.cells #[.int .i64 0, .int .i64 0, .int .i64 0, .int .u8 0, .int .u8 0, .int .u8 0, .int .u8 0, .int .u8 0, .int .u8 0, .int .u8 0, .int .u8 0, .int .u8 0, .int .u8 0, .int .u8 0, .int .u8 0, .int .u8 0, .int .u8 0, .int .u8 0, .int .u8 0] 44)).rangeAt G (o + i * 19) (L.getD i zEV).cs) := fun j v hv => (World.cell?_of_block (hz0.block G (Nat.lt_of_lt_of_le (hg (by omega)).1 hnw))).trans (hcl i hin j v hv)
    clear hcl hz0
    obtain ⟨e, he⟩ : ∃ e, L.getD i zEV = e := ⟨_, rfl⟩
    rw [he] at HCL HOI HKK HJ2 HR2 HC22 hy1 HRR hnw2
    gi_wp2_with (first | (refine wpListIn_load_ev11 rfl _ rfl G (o + i * 19) rfl e (uh HOI) (uh HCL) ?_) | (refine wpListIn_store_new11 rfl 44 _ _ rfl _ e.ar 44 rfl rfl (by rw [EV.ar_size (uh HOI)]; kernel_rfl) (by rw [EV.ar_size (uh HOI)]; rfl) e.ar_one ?_) | (refine wpListIn_load_new11 rfl 44 _ rfl e.ar 44 rfl _ Tryz.underlying44 (by rfl) (by rw [EV.ar_size (uh HOI)]; kernel_rfl) ?_))
    refine ⟨fun h => absurd h (by simp [Fence.wide]), (uh HRR).mono ?_⟩
    rintro x W3 (⟨rfl, hJ3, hk3⟩ | ⟨rfl, hJx3⟩)
    ·have HR3 := hide ((uh HR2).of (fun h => hk3.block G (hg h).1 (hg h).2))
     have HC3 := hide (hk3.cell (uh HC22) hB2.1 hB2.2)
     have hn3 := Nat.le_trans hnw2 hk3.size
     gi_wp2
     go_roundw
     case rel => exact ⟨pre ++ [(⟨i, hlt⟩ : Fin d)], i + 1, by go_num, by omega, uh HP', hJ3, uh HR3, uh HC3, hn3⟩
     case measure => simp [intOf]; omega
    gi_wp2
    refine bodyPost_ret (results_none rfl _ _ _) rfl ?_
    exact ⟨⟨_, rfl⟩, .inr ⟨pre ++ [⟨i, hlt⟩], by rw [uh HP', List.length_append, uh HL]; rfl, hJx3⟩⟩
   have hin1 : (n : Int) ≤ (i : Int) := by omega
   have he : L.getD i zEV = zEV := by rw [List.getD_eq_getElem?_getD, List.getElem?_eq_none (by rw [uh HN]; omega)]; rfl
   rw [he] at HOI HKK HJ2 HR2 HC22 hy1 HRR hnw2
   gi_wp2_with (refine wpListIn_load_new11 rfl 44 _ rfl zEV.ar 44 rfl _ Tryz.underlying44 (by rfl) (by kernel_rfl) ?_)
   refine ⟨fun h => absurd h (by simp [Fence.wide]), (uh HRR).mono ?_⟩
   rintro x W3 (⟨rfl, hJ3, hk3⟩ | ⟨rfl, hJx3⟩)
   ·have HR3 := hide ((uh HR2).of (fun h => hk3.block G (hg h).1 (hg h).2))
    have HC3 := hide (hk3.cell (uh HC22) hB2.1 hB2.2)
    have hn3 := Nat.le_trans hnw2 hk3.size
    gi_wp2
    go_roundw
    case rel => exact ⟨pre ++ [(⟨i, hlt⟩ : Fin d)], i + 1, by go_num, by omega, uh HP', hJ3, uh HR3, uh HC3, hn3⟩
    case measure => simp [intOf]; omega
   gi_wp2
   refine bodyPost_ret (results_none rfl _ _ _) rfl ?_
   exact ⟨⟨_, rfl⟩, .inr ⟨pre ++ [⟨i, hlt⟩], by rw [uh HP', List.length_append, uh HL]; rfl, hJx3⟩⟩
  have hi2 : i = d := by omega
  subst hi2
  gi_wp2
  go_end0
  exact ⟨⟨_, rfl⟩, .inl ⟨pre, uh HP, uh HJ1⟩⟩
theorem slotsE_seq {w : World} {B B2 G n c d : Nat} {ao : Option Addr} {L : List EV} (hd : d ≤ 100000) (hL : EArg w (.slice ao n c) G L) (hcap : w.cell? ⟨B, 0, none⟩ = some (.int .i64 ((d : Int) + 2))) (hcap2 : w.cell? ⟨B2, 0, none⟩ = some (.slice ao n c)) :
  Seq11s 47 #[.pointer (some ⟨B, 0, none⟩), .pointer (some ⟨B2, 0, none⟩)] d (fun i => .agg (L.getD i zEV).ar) (fun k => k = B2 ∨ 0 < n ∧ k = G) w := by
 obtain ⟨h1, -, -, hrow⟩ := hL.mrow
 have hlt : 0 < n → G < w.heap.size := fun h => hL.lt (fun e => by rw [e] at h1; simp at h1; omega)
 refine ⟨enters_of Tryz.func47 (by kernel_rfl) rfl, fun W S n₀ hW hS hn l J Jx W2 hW2 hA _ hY h0 => ?_⟩
 have hb : Below w.heap.size w W2 := hW.trans (hW2.mono hW.size)
 exact slotsE_in S 2 l B B2 w.heap.size ao G n c d L hd hL.get_ok h1 J Jx (fun s A B' hs hk => hA s A B' none hs ⟨hk.os, hk.tape, hk.output, hk.size, fun j hj _ => hk.block j hj⟩ (fun r e => by cases e)) (fun pre x W' hj hl => by
   obtain ⟨fn, tmps, assign, body, h1, h2⟩ := hY pre x W' hj hl
   exact ⟨fn, tmps, assign, body, h1, h2.mono (fun e W'' he => he.imp (fun h => ⟨h.1, h.2.1, h.2.2.size, fun k hk hks => h.2.2.block k (by omega) hks⟩) id)⟩) W2 ((hb.cell (p := ⟨B, 0, none⟩) (block_lt_of_cell hcap)).trans hcap) ((hb.cell (p := ⟨B2, 0, none⟩) (block_lt_of_cell hcap2)).trans hcap2) (hrow.of (fun h => hb.block G (hlt h)))
  (fun h => ⟨hlt h, fun hm => hS G hm (.inr ⟨h, rfl⟩)⟩) ⟨block_lt_of_cell hcap2, fun hm => hS B2 hm (.inl rfl)⟩ hb.size h0
set_option maxRecDepth 100000 in
set_option maxHeartbeats 8000000 in
theorem slotsB_in (S : List Nat) (m l B B2 n₀ : Nat) (ao : Option Addr) (G N c d : Nat) (A : Nat → Option Addr) (Ln C : Nat → Nat) (hd : d ≤ 100000) (hdN : d ≤ N) (J Jx : List (Fin d) → World → Prop)
  (hY : ∀ pre (x : Fin d) W, J pre W → pre.length < d → YieldAt Fence.wide (m - 1) Tryz.prog l #[.int .i64 x.val, .slice (A x.val) (Ln x.val) (C x.val)] W fun e W' =>
   (e = .returned (.bool true) ∧ J (pre ++ [x]) W' ∧ Kq S n₀ W W') ∨ (e = .returned (.bool false) ∧ Jx (pre ++ [x]) W'))
  (W : World) (hcap : W.cell? ⟨B, 0, none⟩ = some (.int .i64 ((d : Int) + 2))) (hcap2 : W.cell? ⟨B2, 0, none⟩ = some (.slice ao N c)) (hrow : VRow W ao G A Ln C N) (hg : 0 < N → G < n₀ ∧ G ∉ S) (hB2 : B2 < n₀ ∧ B2 ∉ S) (h0 : J [] W) :
  CallsIn Fence.wide m Tryz.prog 102 #[.func (.yield l) #[] #[], .pointer (some ⟨B, 0, none⟩), .pointer (some ⟨B2, 0, none⟩)] W fun e W' => (∃ v, e = .returned v) ∧
   ((∃ ys, ys.map Fin.val = List.range d ∧ J ys W') ∨ (∃ pre, pre.map Fin.val = List.range pre.length ∧ Jx pre W')) := by
 have HR := hide hrow
 have HC2 := hide hcap2
 clear hrow hcap2
 refine callsIn_of_wp Tryz.func102 rfl trivial ?_ rfl
 simp only [Tryz.ntmps102, List.size_toArray, List.length_cons, List.length_nil, Nat.reduceAdd, Nat.reduceSub, Array.replicate_succ, Array.replicate_zero, List.push_toArray, List.append_toArray, List.nil_append, List.cons_append]
 have hdi : (d : Int) + 2 - 2 = (d : Int) := by omega
 gi_wp2
 clear hcap hdi
 gi_loopw [8] (fun q wr => ∃ (pre : List (Fin d)) (i : Nat), q = .int .i64 i ∧ i ≤ d ∧ pre.map Fin.val = List.range i ∧ J pre wr ∧ VRow wr ao G A Ln C N ∧ wr.cell? ⟨B2, 0, none⟩ = some (.slice ao N c)) (fun q _ => d - (intOf q).toNat)
 case atStart => exact ⟨[], 0, rfl, by omega, rfl, h0, uh HR, uh HC2⟩
 case round =>
  obtain ⟨pre, i, rfl, hi, hp, hJ1, hr1, hc2⟩ := hrel
  have hl : pre.length = i := by have := congrArg List.length hp; simpa using this
  have HP := hide hp
  have HR1 := hide hr1
  have HL := hide hl
  clear hp hr1 hl
  by_cases hlt : i < d
  ·have hi1 : (i : Int) < (d : Int) := by omega
   have HP' : Hid ((pre ++ [(⟨i, hlt⟩ : Fin d)]).map Fin.val = List.range (i + 1)) := by show _ = _; rw [List.map_append, uh HP, List.range_succ]; rfl
   obtain ⟨o, rfl, hcl⟩ := (uh HR1).at (by omega)
   have hc := hcl i (by omega)
   clear hcl
   have hin1 : (i : Int) < (N : Int) := by omega
   have HC22 := hide hc2
   obtain ⟨fn, tmps, assign, body, hy1, hR⟩ := hY pre ⟨i, hlt⟩ wr hJ1 (by rw [uh HL]; exact hlt)
   dsimp only at hy1
   gi_wp2
   refine ⟨fun h => absurd h (by simp [Fence.wide]), hR.mono ?_⟩
   rintro x W3 (⟨rfl, hJ3, hk3⟩ | ⟨rfl, hJx3⟩)
   ·have HR3 := hide ((uh HR1).kq hk3 hg)
    have HC3 := hide (hk3.cell (uh HC22) hB2.1 hB2.2)
    gi_wp2
    go_roundw
    case rel => exact ⟨pre ++ [(⟨i, hlt⟩ : Fin d)], i + 1, by go_num, by omega, uh HP', hJ3, uh HR3, uh HC3⟩
    case measure => simp [intOf]; omega
   gi_wp2
   refine bodyPost_ret (results_none rfl _ _ _) rfl ?_
   exact ⟨⟨_, rfl⟩, .inr ⟨pre ++ [⟨i, hlt⟩], by rw [uh HP', List.length_append, uh HL]; rfl, hJx3⟩⟩
  have hi2 : i = d := by omega
  subst hi2
  gi_wp2
  go_end0
  exact ⟨⟨_, rfl⟩, .inl ⟨pre, uh HP, hJ1⟩⟩
theorem slotsB_seq {w : World} {B B2 G N c d : Nat} {ao : Option Addr} {A : Nat → Option Addr} {Ln C : Nat → Nat} (hd : d ≤ 100000) (hdN : d ≤ N) (hrow : VRow w ao G A Ln C N) (hcap : w.cell? ⟨B, 0, none⟩ = some (.int .i64 ((d : Int) + 2))) (hcap2 : w.cell? ⟨B2, 0, none⟩ = some (.slice ao N c)) :
  Seq11s 102 #[.pointer (some ⟨B, 0, none⟩), .pointer (some ⟨B2, 0, none⟩)] d (fun i => .slice (A i) (Ln i) (C i)) (fun k => k = B2 ∨ 0 < N ∧ k = G) w := by
 refine ⟨enters_of Tryz.func102 (by kernel_rfl) rfl, fun W S n₀ hW hS hn l J Jx W2 hW2 _ _ hY h0 => ?_⟩
 have hb : Below w.heap.size w W2 := hW.trans (hW2.mono hW.size)
 exact slotsB_in S 2 l B B2 w.heap.size ao G N c d A Ln C hd hdN J Jx (fun pre x W' hj hl => by
   obtain ⟨fn, tmps, assign, body, h1, h2⟩ := hY pre x W' hj hl
   exact ⟨fn, tmps, assign, body, h1, h2.mono (fun e W'' he => he.imp (fun h => ⟨h.1, h.2.1, h.2.2.size, fun k hk hks => h.2.2.block k (by omega) hks⟩) id)⟩) W2 ((hb.cell (p := ⟨B, 0, none⟩) (block_lt_of_cell hcap)).trans hcap) ((hb.cell (p := ⟨B2, 0, none⟩) (block_lt_of_cell hcap2)).trans hcap2) (hrow.kq (n := w.heap.size) (S := []) ⟨hb.size, fun k hk _ => hb.block k hk⟩ (fun h => ⟨hrow.lt h, by simp⟩))
  (fun h => ⟨hrow.lt h, fun hm => hS G hm (.inr ⟨h, rfl⟩)⟩) ⟨block_lt_of_cell hcap2, fun hm => hS B2 hm (.inl rfl)⟩ h0
end Go.Proofs.YtjdikhelabibnaaGreat

namespace Go.Proofs.YtjdikhelabibnaaGreat
open Go Go.RowKit Go.Shelf
attribute [local go_sem] Oper.semAt_some
def okL (l : List EV) : Prop := ∀ e ∈ l, okE e.k e.l e.s e.d
noncomputable instance (l : List EV) : Decidable (okL l) := Classical.propDecidable _
theorem getD_mem11 {α : Type} {l : List α} {z : α} {i : Nat} (h : i < l.length) : l.getD i z ∈ l := by
 rw [List.getD_eq_getElem?_getD, List.getElem?_eq_getElem h]; exact List.getElem_mem h
theorem mem_getD11 {α : Type} {l : List α} {z x : α} (h : x ∈ l) : ∃ i, i < l.length ∧ l.getD i z = x := by
 obtain ⟨i, hi, he⟩ := List.getElem_of_mem h
 exact ⟨i, hi, by rw [List.getD_eq_getElem?_getD, List.getElem?_eq_getElem hi, ← he]; rfl⟩
theorem any_range11 {α : Type} (l : List α) (z : α) (p : α → Bool) : (List.range l.length).any (fun i => p (l.getD i z)) = l.any p := by
 rw [Bool.eq_iff_iff, List.any_eq_true, List.any_eq_true]
 constructor
 ·rintro ⟨i, hi, hp⟩
  exact ⟨_, getD_mem11 (List.mem_range.1 hi), hp⟩
 rintro ⟨x, hx, hp⟩
 obtain ⟨i, hi, he⟩ := mem_getD11 (z := z) hx
 exact ⟨i, List.mem_range.2 hi, by rw [he]; exact hp⟩
theorem okL_any (l : List EV) : (l.any (fun e => !decide (okE e.k e.l e.s e.d))) = !decide (okL l) := by
 by_cases h : okL l
 ·rw [decide_eq_true h, Bool.not_true, List.any_eq_false]
  intro e he
  simp [h e he]
 rw [decide_eq_false h, Bool.not_false, List.any_eq_true]
 refine Classical.byContradiction (fun hn => h (fun e he => Classical.byContradiction (fun hk => hn ⟨e, he, by simp [hk]⟩)))
set_option maxRecDepth 100000 in
theorem entM_any (ao : Option Addr) (n c g : Nat) (l : List EV) (most : Int) (hmo : most ≤ 1000) (w : World) (hL : EArg w (.slice ao n c) g l) :
  Calls Tryz.prog 24 #[.slice ao n c, .int .i64 most] w fun e w' => e = .returned (.bool (decide ((n : Int) ≤ most) && decide (okL l))) ∧ Below w.heap.size w w' := by
 obtain ⟨h1, h2, h3, hrow⟩ := hL.mrow
 have hn : (n : Int) ≤ 9223372036854775807 := by unfold maxLen at h3; omega
 have HK := hide (fun hm : (n : Int) ≤ most => hasE_any ao g n c 46 (fun i => (l.getD i zEV).cs) (fun i => !decide (okE (l.getD i zEV).k (l.getD i zEV).l (l.getD i zEV).s (l.getD i zEV).d)) (by omega) (fun i => EV.cs_len (hL.get_ok i)) (fun i => EV.cs_one _) w hrow
  (enters_of Tryz.func46 (by kernel_rfl) rfl) (fun i _ W => refused_any (l.getD i zEV) (hL.get_ok i) W))
 have HA : Hid ((List.range n).any (fun i => !decide (okE (l.getD i zEV).k (l.getD i zEV).l (l.getD i zEV).s (l.getD i zEV).d)) = !decide (okL l)) := by
  show _ = _
  rw [← okL_any, ← any_range11 l zEV, h1]
 clear hrow hL h1 h2 h3
 by_cases hm : (n : Int) ≤ most
 ·go_enter Tryz.func24, Tryz.ntmps24
  go_wp2_with fail
  refine (uh HK hm).mono ?_
  rintro e w1 ⟨rfl, hk⟩
  have HB := hide hk
  rw [uh HA]
  clear hk
  obtain ⟨r, hr⟩ : ∃ r, decide (okL l) = r := ⟨_, rfl⟩
  have HR := hide hr
  rw [hr]
  clear hr
  go_wp2
  go_ret
  exact ⟨by rw [decide_eq_true hm, uh HR]; cases r <;> rfl, uh HB⟩
 go_enter Tryz.func24, Tryz.ntmps24
 go_wp2
 go_ret
 exact ⟨by rw [decide_eq_false (by omega)]; rfl, Below.refl _ _⟩
def atL (K : Nat → Bool) (N : Nat) : List Nat := (List.range N).filter K
theorem vals_of11 {N : Nat} {K : Nat → Bool} {xs : List (It5 N K)} (h : xs.map Subtype.val = (List.range N).filter K) : xs.map (fun x => x.val) = atL K N := h
theorem colP_any (gf : Nat) (lb : Array Value) (N : Nat) (hN : N ≤ 100000) (K : Nat → Bool) (V : Nat → Prop) (w : World) (hS : Seq11 gf lb N K V w) :
  Calls Tryz.prog 61 #[.func (.func gf) #[] lb] w fun e w' => ∃ v, e = .returned v ∧ OwnI w.heap.size w' v (atL K N) ∧ Below w.heap.size w w' :=
 (collect_any gf lb (fun x : It5 N K => x.val) 0 N _ hN w hS.enters hS.seqY).mono (fun e w' ⟨v, xs, h1, h2, h3, h4⟩ => ⟨v, h1, by have h5 := vals_of11 h2; rw [h5] at h3; exact h3, h4⟩)
end Go.Proofs.YtjdikhelabibnaaGreat
