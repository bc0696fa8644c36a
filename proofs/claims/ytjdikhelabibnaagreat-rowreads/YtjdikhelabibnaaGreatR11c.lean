/-
  row: line.such with its iterator, line.has: of pages, of slots.
-/
import Derived.Test.YtjdikhelabibnaaGreatR11b
import Derived.Test.YtjdikhelabibnaaGreatS5a
import Derived.Test.YtjdikhelabibnaaGreatRy
import Derived.RangeFuncBox
import Derived.OwnWalkIn
import Derived.Deep.WholeRow
namespace Go.Proofs.YtjdikhelabibnaaGreat
open Go Go.RowKit Go.Shelf
attribute [local go_sem] Oper.semAt_some

theorem wpListIn_load_mid11 {F : Fence} {n : Nat} {ops : Array Oper} {rest : List Oper} {o : Oper} {a : Act} {w : World} {Q : Exit → Act → World → Prop} (hgd : o.guard = none) (ty : TypeId) (x : Operand) (ho : o.op = .load ty x)
    (b p : Nat) (hx : a.eval x = .pointer (some ⟨b, p, none⟩)) (cs : List Value) (d : TypeDesc) (hc : w.rangeAt b p cs)
    (hu : Tryz.prog.underlying ty = some d) (hd : d.isRow = true) (hi : (Tryz.prog.info? ty).map (·.size) = some cs.length)
    (h : wpListIn F n Tryz.prog ops Q rest (a.put o.dst (.agg cs.toArray)) w) : wpListIn F n Tryz.prog ops Q (o :: rest) a w := by
  refine wpListIn_plain hgd fun K hK => ?_
  unfold Oper.wpIn
  refine ⟨?_, ?_⟩
  · simp [Oper.about, ho]
  · rw [Oper.semAt_plain F _ _ (by rw [ho]; intro c hc'; cases hc')]
    unfold execOp
    simp only [ho, hx, Instr.loadAt, Instr.sureAddr, Sem.run_bind, Sem.run_pure, Result.andThen_ok, run_loadVar_mid w b p ty cs d hc hu hd hi]
    exact hK _ _ h
theorem wpListIn_store_new11 {F : Fence} {n : Nat} {ops : Array Oper} {rest : List Oper} {o : Oper} {a : Act} {w : World} {Q : Exit → Act → World → Prop} (hgd : o.guard = none) (ty : TypeId) (x y : Operand) (ho : o.op = .store ty x y)
    (old cells : Array Value) (t : TypeId) (hx : a.eval x = .pointer (some ⟨w.heap.size, 0, none⟩)) (hy : a.eval y = .agg cells) (hi : (Tryz.prog.info? ty).map (·.size) = some cells.size)
    (hold : old.size = cells.size) (h1 : cells.all (·.oneCell') = true)
    (h : wpListIn F n Tryz.prog ops Q rest (a.put o.dst undef) (w.alloc (.cells cells t))) : wpListIn F n Tryz.prog ops Q (o :: rest) a (w.alloc (.cells old t)) := by
  refine wpListIn_plain hgd fun K hK => ?_
  unfold Oper.wpIn
  refine ⟨?_, ?_⟩
  · simp [Oper.about, ho]
  · rw [Oper.semAt_plain F _ _ (by rw [ho]; intro c hc'; cases hc')]
    unfold execOp
    simp only [ho, hx, hy, Instr.storeAt, Instr.sureAddr, Sem.run_bind, Sem.run_pure, Result.andThen_ok, run_storeVar_row (w.alloc (.cells old t)) w.heap.size t ty old cells (World.alloc_heap_new w _) hi hold h1, World.setRow_alloc_new]
    exact hK _ _ h
theorem wpListIn_load_new11 {F : Fence} {n : Nat} {ops : Array Oper} {rest : List Oper} {o : Oper} {a : Act} {w : World} {Q : Exit → Act → World → Prop} (hgd : o.guard = none) (ty : TypeId) (x : Operand) (ho : o.op = .load ty x)
    (cs : Array Value) (t : TypeId) (hx : a.eval x = .pointer (some ⟨w.heap.size, 0, none⟩)) (d : TypeDesc)
    (hu : Tryz.prog.underlying ty = some d) (hd : d.isRow = true) (hi : (Tryz.prog.info? ty).map (·.size) = some cs.size)
    (h : wpListIn F n Tryz.prog ops Q rest (a.put o.dst (.agg cs)) (w.alloc (.cells cs t))) : wpListIn F n Tryz.prog ops Q (o :: rest) a (w.alloc (.cells cs t)) := by
  have hl := run_loadVar_mid (P := Tryz.prog) (w.alloc (.cells cs t)) w.heap.size 0 ty cs.toList d (fun j v hv => cell_blk (World.alloc_heap_new w _) (by rw [Nat.zero_add]; simpa using hv)) hu hd (by rw [hi, Array.length_toList])
  rw [Array.toArray_toList] at hl
  refine wpListIn_plain hgd fun K hK => ?_
  unfold Oper.wpIn
  refine ⟨?_, ?_⟩
  · simp [Oper.about, ho]
  · rw [Oper.semAt_plain F _ _ (by rw [ho]; intro c hc'; cases hc')]
    unfold execOp
    simp only [ho, hx, Instr.loadAt, Instr.sureAddr, Sem.run_bind, Sem.run_pure, Result.andThen_ok, hl]
    exact hK _ _ h
/-- Items of m cells lie at ao. -/
def MRow (w : World) (ao : Option Addr) (G m N : Nat) (f : Nat → List Value) : Prop := N = 0 ∨ ∃ o, ao = some ⟨G, o, none⟩ ∧ ∀ i, i < N → w.rangeAt G (o + i * m) (f i)
theorem MRow.of {w w' : World} {ao : Option Addr} {G m N : Nat} {f : Nat → List Value} (h : MRow w ao G m N f) (k : 0 < N → w'.heap[G]? = w.heap[G]?) : MRow w' ao G m N f := by
  rcases h with h | ⟨o, h1, h2⟩
  · exact .inl h
  · rcases Nat.eq_zero_or_pos N with h0 | h0
    · exact .inl h0
    · exact .inr ⟨o, h1, fun i hi j v hv => (World.cell?_of_block (k h0)).trans (h2 i hi j v hv)⟩
theorem MRow.lt {w : World} {ao : Option Addr} {G m N : Nat} {f : Nat → List Value} (h : MRow w ao G m N f) (hN : 0 < N) (hm : 0 < (f 0).length) : G < w.heap.size := by
  rcases h with h | ⟨o, h1, h2⟩
  · omega
  · exact block_lt_of_cell (h2 0 hN 0 ((f 0)[0]'hm) (List.getElem?_eq_getElem hm))
theorem MRow.at {w : World} {ao : Option Addr} {G m N : Nat} {f : Nat → List Value} (h : MRow w ao G m N f) (hN : 0 < N) : ∃ o, ao = some ⟨G, o, none⟩ ∧ ∀ i, i < N → w.rangeAt G (o + i * m) (f i) := by
  rcases h with h | h
  · omega
  · exact h
theorem EArg.mrow {w : World} {ao : Option Addr} {n c g : Nat} {l : List EV} (h : EArg w (.slice ao n c) g l) : l.length = n ∧ n ≤ c ∧ c ≤ maxLen ∧ MRow w ao g 19 n (fun i => (l.getD i zEV).cs) := by
  obtain ⟨ao', c', h1, h2, h3, h4, hr⟩ := h.ex
  cases h1
  refine ⟨rfl, h2, h3, ?_⟩
  rcases Nat.eq_zero_or_pos l.length with h0 | h0
  · exact .inl h0
  · exact .inr (hr (fun e => by rw [e] at h0; exact absurd h0 (by simp)))
theorem PgArg.mrow {w : World} {ao : Option Addr} {n c g : Nat} {l : List PV} (h : PgArg w (.slice ao n c) g l) : l.length = n ∧ n ≤ c ∧ c ≤ maxLen ∧ MRow w ao g 2 n (fun i => (l.getD i zPV).cs) := by
  obtain ⟨ao', c', h1, h2, h3, h4, hr⟩ := h.ex
  cases h1
  refine ⟨rfl, h2, h3, ?_⟩
  rcases Nat.eq_zero_or_pos l.length with h0 | h0
  · exact .inl h0
  · exact .inr (hr (fun e => by rw [e] at h0; exact absurd h0 (by simp)))
/-- The iterator's word: which ones are so, by their numbers. -/
structure Seq11 (gf : Nat) (lb : Array Value) (N : Nat) (K : Nat → Bool) (V : Nat → Prop) (w : World) : Prop where
  enters : ∀ args W, (callFunc gf args).run Tryz.prog W = .ok (.enter gf args) W
  seq : ∀ (W : World) (S : List Nat) (n₀ : Nat), Below w.heap.size w W → (∀ s ∈ S, ¬ V s) → w.heap.size ≤ n₀ →
    SeqStopsK Fence.wide 2 Tryz.prog gf lb (fun x : It5 N K => #[Value.int .i64 x.val]) (Kq S n₀) (fun ys => ys.map Subtype.val = (List.range N).filter K) (fun _ => True) N W
  seqY : SeqY Tryz.prog gf lb (fun x : It5 N K => #[Value.int .i64 (x.val : Nat)]) (fun k => k < w.heap.size) 0 (fun ys => ys.map Subtype.val = (List.range N).filter K) N w

set_option maxHeartbeats 1000000 in
theorem suchP_any (ao : Option Addr) (n c isf : Nat) (w : World) : Calls Tryz.prog 62 #[.slice ao n c, .func (.func isf) #[] #[]] w fun e w' =>
    e = .returned (.func (.func 96) #[] #[.pointer (some ⟨w.heap.size, 0, none⟩), .pointer (some ⟨w.heap.size + 1, 0, none⟩)]) ∧ w'.cell? ⟨w.heap.size, 0, none⟩ = some (.slice ao n c) ∧ w'.cell? ⟨w.heap.size + 1, 0, none⟩ = some (.func (.func isf) #[] #[]) ∧ w'.heap.size = w.heap.size + 2 ∧ Below w.heap.size w w' := by
  go_enter Tryz.func62, Tryz.ntmps62
  go_wp2
  go_ret
  have h := (cell_new' (w.alloc (.cells #[.slice ao n c] 112)) (.func (.func isf) #[] #[]) 117).1
  rw [World.size_alloc] at h
  exact ⟨rfl, (World.cell?_of_block (Below.heap_alloc _ _ _ (by simp))).trans (cell_new' w _ _).1, h, by simp, ((Below.refl _ w).alloc (Nat.le_refl _) _).alloc (by simp) _⟩

set_option maxRecDepth 100000 in
set_option maxHeartbeats 8000000 in
theorem suchP_in (S : List Nat) (n l B B2 n₀ nz : Nat) (ao : Option Addr) (G N c isf : Nat) (f : Nat → List Value) (K : Nat → Bool) (hNc : N ≤ 281474976710656) (hf : ∀ i, (f i).length = 2) (hf1 : ∀ i, ∀ u ∈ f i, u.oneCell' = true) (J Jx : List (It5 N K) → World → Prop) (hJb : ∀ s A B, J s A → Below A.heap.size A B → J s B)
    (hY : ∀ pre (x : It5 N K) W, J pre W → pre.length < N → nz ≤ W.heap.size → YieldAt Fence.wide (n - 1) Tryz.prog l #[.int .i64 x.val] W fun e W' =>
      (e = .returned (.bool true) ∧ J (pre ++ [x]) W' ∧ Kq S n₀ W W') ∨ (e = .returned (.bool false) ∧ Jx (pre ++ [x]) W'))
    (hen : ∀ args W, (callFunc isf args).run Tryz.prog W = .ok (.enter isf args) W)
    (his : ∀ i, i < N → ∀ W, Calls Tryz.prog isf #[.agg (f i).toArray] W fun e W' => e = .returned (.bool (K i)) ∧ Below W.heap.size W W')
    (W : World) (hcap : W.cell? ⟨B, 0, none⟩ = some (.slice ao N c)) (hcap2 : W.cell? ⟨B2, 0, none⟩ = some (.func (.func isf) #[] #[])) (hrow : MRow W ao G 2 N f) (hg : 0 < N → G < n₀ ∧ G ∉ S) (hB2 : B2 < n₀ ∧ B2 ∉ S) (hnz : n₀ ≤ nz) (hn : nz ≤ W.heap.size) (h0 : J [] W) :
    CallsIn Fence.wide n Tryz.prog 96 #[.func (.yield l) #[] #[], .pointer (some ⟨B, 0, none⟩), .pointer (some ⟨B2, 0, none⟩)] W fun e W' => (∃ v, e = .returned v) ∧
      ((∃ ys, ys.map Subtype.val = (List.range N).filter K ∧ J ys W') ∨ (∃ pre, True ∧ Jx pre W')) := by
  have HR := hide hrow
  have HC2 := hide hcap2
  have HIS := hide his
  clear hrow hcap2 his
  refine callsIn_of_wp Tryz.func96 rfl trivial ?_ rfl
  simp only [Tryz.ntmps96, List.size_toArray, List.length_cons, List.length_nil, Nat.reduceAdd, Nat.reduceSub, Array.replicate_succ, Array.replicate_zero, List.push_toArray, List.append_toArray, List.nil_append, List.cons_append]
  gi_wp2
  clear hcap
  gi_loopw [8] (fun q wr => ∃ (pre : List (It5 N K)) (i : Nat), q = .int .i64 i ∧ i ≤ N ∧ pre.map Subtype.val = (List.range i).filter K ∧ J pre wr ∧ MRow wr ao G 2 N f ∧ wr.cell? ⟨B2, 0, none⟩ = some (.func (.func isf) #[] #[]) ∧ nz ≤ wr.heap.size) (fun q _ => N - (intOf q).toNat)
  case atStart => exact ⟨[], 0, rfl, by omega, rfl, h0, unhide HR, unhide HC2, hn⟩
  case round =>
    obtain ⟨pre, i, rfl, hi, hp, hJ1, hr1, hc2, hnw⟩ := hrel
    have hl : pre.length ≤ i := by have := congrArg List.length hp; simp only [List.length_map] at this; rw [this]; exact Nat.le_trans (List.length_filter_le _ _) (by simp)
    have HP := hide hp
    have HR1 := hide hr1
    have HL := hide hl
    have HJ1 := hide hJ1
    clear hp hr1 hl hJ1
    by_cases hlt : i < N
    · have hi1 : (i : Int) < (N : Int) := by omega
      obtain ⟨o, rfl, hcl⟩ := (unhide HR1).at (by omega)
      have HCL := hide (hcl i hlt)
      clear hcl
      have HC2w := hide hc2
      have hal := (Below.refl wr.heap.size wr).alloc (Nat.le_refl _) (.cells (f i).toArray 49)
      have hc2' := (hal.cell (p := ⟨B2, 0, none⟩) (block_lt_of_cell hc2)).trans hc2
      have HAL := hide hal
      clear hal
      gi_wp2_with (first | (refine wpListIn_load_mid11 rfl 49 _ rfl G (o + i * 2) rfl (f i) _ (unhide HCL) Tryz.underlying49 (by rfl) (by rw [hf i]; kernel_rfl) ?_) | (refine wpListIn_store_new11 rfl 49 _ _ rfl _ (f i).toArray 49 rfl rfl (by rw [List.size_toArray, hf i]; kernel_rfl) (by rw [show (f i).toArray.size = 2 from by rw [List.size_toArray, hf i]]; rfl) (all_oneCell_toArray (hf1 i)) ?_) | (refine wpListIn_load_new11 rfl 49 _ rfl (f i).toArray 49 rfl _ Tryz.underlying49 (by rfl) (by rw [List.size_toArray, hf i]; kernel_rfl) ?_))
      refine ⟨trivial, fun h => absurd h (by simp [Fence.wide]), (callsIn_wide.2 (unhide HIS i hlt _)).mono ?_⟩
      rintro e w' ⟨rfl, hk⟩
      have hkk := (unhide HAL).trans (hk.mono (unhide HAL).size)
      have HJ2 := hide (hJb _ _ _ (unhide HJ1) hkk)
      have HR2 := hide ((unhide HR1).of (fun h => hkk.block G (Nat.lt_of_lt_of_le (hg h).1 (Nat.le_trans hnz hnw))))
      have HC22 := hide ((hkk.cell (p := ⟨B2, 0, none⟩) (block_lt_of_cell (unhide HC2w))).trans (unhide HC2w))
      have hnw2 := Nat.le_trans hnw hkk.size
      clear hk hkk hc2' hc2 HAL HC2w
      obtain ⟨r, hr⟩ : ∃ r, K i = r := ⟨_, rfl⟩
      rw [hr]
      cases r
      · have HP' : Hid (pre.map Subtype.val = (List.range (i + 1)).filter K) := by show _ = _; rw [unhide HP, List.range_succ, List.filter_append]; simp [hr]
        clear hr
        gi_wp2
        refine ⟨fun _ h => (by cases h), ?_⟩
        gi_wp2
        go_roundw
        case rel => exact ⟨pre, i + 1, by go_num, by omega, unhide HP', unhide HJ2, unhide HR2, unhide HC22, hnw2⟩
        case measure => simp [intOf]; omega
      · have HKi : Hid (K i = true) := hr
        have HP' : Hid ((pre ++ [(⟨i, hlt, unhide HKi⟩ : It5 N K)]).map Subtype.val = (List.range (i + 1)).filter K) := by show _ = _; rw [List.map_append, unhide HP, List.range_succ, List.filter_append]; simp [hr]
        clear hr
        obtain ⟨fn, tmps, assign, body, hy1, hR⟩ := hY pre ⟨i, hlt, unhide HKi⟩ w' (unhide HJ2) (by have := unhide HL; omega) hnw2
        dsimp only at hy1
        gi_wp2
        refine ⟨fun h => absurd h (by simp [Fence.wide]), hR.mono ?_⟩
        rintro e W3 (⟨rfl, hJ3, hk3⟩ | ⟨rfl, hJx3⟩)
        · have HR3 := hide ((unhide HR2).of (fun h => hk3.block G (hg h).1 (hg h).2))
          have HC3 := hide (hk3.cell (unhide HC22) hB2.1 hB2.2)
          have hn3 := Nat.le_trans hnw2 hk3.size
          gi_wp2
          go_roundw
          case rel => exact ⟨pre ++ [(⟨i, hlt, unhide HKi⟩ : It5 N K)], i + 1, by go_num, by omega, unhide HP', hJ3, unhide HR3, unhide HC3, hn3⟩
          case measure => simp [intOf]; omega
        · gi_wp2
          refine bodyPost_ret (results_none rfl _ _ _) rfl ?_
          exact ⟨⟨_, rfl⟩, .inr ⟨pre ++ [⟨i, hlt, unhide HKi⟩], trivial, hJx3⟩⟩
    · have hi2 : i = N := by omega
      subst hi2
      gi_wp2
      go_end0
      exact ⟨⟨_, rfl⟩, .inl ⟨pre, unhide HP, unhide HJ1⟩⟩

theorem suchP_seq {w : World} {B B2 G N c isf : Nat} {ao : Option Addr} {f : Nat → List Value} {K : Nat → Bool} (hNc : N ≤ 281474976710656) (hf : ∀ i, (f i).length = 2) (hf1 : ∀ i, ∀ u ∈ f i, u.oneCell' = true) (hcap : w.cell? ⟨B, 0, none⟩ = some (.slice ao N c)) (hcap2 : w.cell? ⟨B2, 0, none⟩ = some (.func (.func isf) #[] #[]))
    (hrow : MRow w ao G 2 N f) (hen : ∀ args W, (callFunc isf args).run Tryz.prog W = .ok (.enter isf args) W) (his : ∀ i, i < N → ∀ W, Calls Tryz.prog isf #[.agg (f i).toArray] W fun e W' => e = .returned (.bool (K i)) ∧ Below W.heap.size W W') :
    Seq11 96 #[.pointer (some ⟨B, 0, none⟩), .pointer (some ⟨B2, 0, none⟩)] N K (fun k => k = B2 ∨ 0 < N ∧ k = G) w := by
  have hlt : 0 < N → G < w.heap.size := fun h => hrow.lt h (by rw [hf]; omega)
  refine ⟨enters_of Tryz.func96 (by kernel_rfl) rfl, fun W S n₀ hW hS hn l J Jx W2 hW2 hA _ hY h0 => ?_, fun l J W hW hJ hY h0 n => ?_⟩
  · have hb : Below w.heap.size w W2 := hW.trans (hW2.mono hW.size)
    exact suchP_in S 2 l B B2 w.heap.size w.heap.size ao G N c isf f K hNc hf hf1 J Jx (fun s A B' hs hk => hA s A B' none hs ⟨hk.os, hk.tape, hk.output, hk.size, fun j hj _ => hk.block j hj⟩ (fun r e => by cases e)) (fun pre x W' hj hl _ => by
      obtain ⟨fn, tmps, assign, body, h1, h2⟩ := hY pre x W' hj hl
      exact ⟨fn, tmps, assign, body, h1, h2.mono (fun e W'' he => he.imp (fun h => ⟨h.1, h.2.1, h.2.2.size, fun k hk hks => h.2.2.block k (by omega) hks⟩) id)⟩) hen his W2 ((hb.cell (p := ⟨B, 0, none⟩) (block_lt_of_cell hcap)).trans hcap) ((hb.cell (p := ⟨B2, 0, none⟩) (block_lt_of_cell hcap2)).trans hcap2) (hrow.of (fun h => hb.block G (hlt h)))
      (fun h => ⟨hlt h, fun hm => hS G hm (.inr ⟨h, rfl⟩)⟩) ⟨block_lt_of_cell hcap2, fun hm => hS B2 hm (.inl rfl)⟩ (Nat.le_refl _) hb.size h0
  · show CallsIn Fence.wide n Tryz.prog 96 #[.func (.yield l) #[] #[], .pointer (some ⟨B, 0, none⟩), .pointer (some ⟨B2, 0, none⟩)] W _
    refine (suchP_in [] n l B B2 w.heap.size W.heap.size ao G N c isf f K hNc hf hf1 J (fun _ _ => False) (fun s A B' hs hk => hJ s A B' hs (Ka.of_below hk)) (fun pre x W' hj hl hn => ?_) hen his W ((hW.cell (p := ⟨B, 0, none⟩) (block_lt_of_cell hcap)).trans hcap) ((hW.cell (p := ⟨B2, 0, none⟩) (block_lt_of_cell hcap2)).trans hcap2) (hrow.of (fun h => hW.block G (hlt h)))
      (fun h => ⟨hlt h, by simp⟩) ⟨block_lt_of_cell hcap2, by simp⟩ hW.size (Nat.le_refl _) h0).mono ?_
    · obtain ⟨fn, tmps, assign, body, h1, h2⟩ := hY pre x W' hj hl hn
      exact ⟨fn, tmps, assign, body, h1, (round_any h2).mono (fun e W'' he => .inl ⟨he.1, he.2.1, he.2.2.size, fun k hk _ => he.2.2.block k (Nat.lt_of_lt_of_le hk (Nat.le_trans hW.size hn)) (.inr hk)⟩)⟩
    · rintro e W' ⟨h1, (⟨ys, h2, h3⟩ | ⟨pre, -, h⟩)⟩
      · exact ⟨h1, ys, h2, h3⟩
      · exact h.elim

set_option maxHeartbeats 1000000 in
theorem suchE_any (ao : Option Addr) (n c isf : Nat) (w : World) : Calls Tryz.prog 75 #[.slice ao n c, .func (.func isf) #[] #[]] w fun e w' =>
    e = .returned (.func (.func 110) #[] #[.pointer (some ⟨w.heap.size, 0, none⟩), .pointer (some ⟨w.heap.size + 1, 0, none⟩)]) ∧ w'.cell? ⟨w.heap.size, 0, none⟩ = some (.slice ao n c) ∧ w'.cell? ⟨w.heap.size + 1, 0, none⟩ = some (.func (.func isf) #[] #[]) ∧ w'.heap.size = w.heap.size + 2 ∧ Below w.heap.size w w' := by
  go_enter Tryz.func75, Tryz.ntmps75
  go_wp2
  go_ret
  have h := (cell_new' (w.alloc (.cells #[.slice ao n c] 66)) (.func (.func isf) #[] #[]) 86).1
  rw [World.size_alloc] at h
  exact ⟨rfl, (World.cell?_of_block (Below.heap_alloc _ _ _ (by simp))).trans (cell_new' w _ _).1, h, by simp, ((Below.refl _ w).alloc (Nat.le_refl _) _).alloc (by simp) _⟩

set_option maxRecDepth 100000 in
set_option maxHeartbeats 8000000 in
theorem suchE_in (S : List Nat) (n l B B2 n₀ nz : Nat) (ao : Option Addr) (G N c isf : Nat) (f : Nat → List Value) (K : Nat → Bool) (hNc : N ≤ 281474976710656) (hf : ∀ i, (f i).length = 19) (hf1 : ∀ i, ∀ u ∈ f i, u.oneCell' = true) (J Jx : List (It5 N K) → World → Prop) (hJb : ∀ s A B, J s A → Below A.heap.size A B → J s B)
    (hY : ∀ pre (x : It5 N K) W, J pre W → pre.length < N → nz ≤ W.heap.size → YieldAt Fence.wide (n - 1) Tryz.prog l #[.int .i64 x.val] W fun e W' =>
      (e = .returned (.bool true) ∧ J (pre ++ [x]) W' ∧ Kq S n₀ W W') ∨ (e = .returned (.bool false) ∧ Jx (pre ++ [x]) W'))
    (hen : ∀ args W, (callFunc isf args).run Tryz.prog W = .ok (.enter isf args) W)
    (his : ∀ i, i < N → ∀ W, Calls Tryz.prog isf #[.agg (f i).toArray] W fun e W' => e = .returned (.bool (K i)) ∧ Below W.heap.size W W')
    (W : World) (hcap : W.cell? ⟨B, 0, none⟩ = some (.slice ao N c)) (hcap2 : W.cell? ⟨B2, 0, none⟩ = some (.func (.func isf) #[] #[])) (hrow : MRow W ao G 19 N f) (hg : 0 < N → G < n₀ ∧ G ∉ S) (hB2 : B2 < n₀ ∧ B2 ∉ S) (hnz : n₀ ≤ nz) (hn : nz ≤ W.heap.size) (h0 : J [] W) :
    CallsIn Fence.wide n Tryz.prog 110 #[.func (.yield l) #[] #[], .pointer (some ⟨B, 0, none⟩), .pointer (some ⟨B2, 0, none⟩)] W fun e W' => (∃ v, e = .returned v) ∧
      ((∃ ys, ys.map Subtype.val = (List.range N).filter K ∧ J ys W') ∨ (∃ pre, True ∧ Jx pre W')) := by
  have HR := hide hrow
  have HC2 := hide hcap2
  have HIS := hide his
  clear hrow hcap2 his
  refine callsIn_of_wp Tryz.func110 rfl trivial ?_ rfl
  simp only [Tryz.ntmps110, List.size_toArray, List.length_cons, List.length_nil, Nat.reduceAdd, Nat.reduceSub, Array.replicate_succ, Array.replicate_zero, List.push_toArray, List.append_toArray, List.nil_append, List.cons_append]
  gi_wp2
  clear hcap
  gi_loopw [8] (fun q wr => ∃ (pre : List (It5 N K)) (i : Nat), q = .int .i64 i ∧ i ≤ N ∧ pre.map Subtype.val = (List.range i).filter K ∧ J pre wr ∧ MRow wr ao G 19 N f ∧ wr.cell? ⟨B2, 0, none⟩ = some (.func (.func isf) #[] #[]) ∧ nz ≤ wr.heap.size) (fun q _ => N - (intOf q).toNat)
  case atStart => exact ⟨[], 0, rfl, by omega, rfl, h0, unhide HR, unhide HC2, hn⟩
  case round =>
    obtain ⟨pre, i, rfl, hi, hp, hJ1, hr1, hc2, hnw⟩ := hrel
    have hl : pre.length ≤ i := by have := congrArg List.length hp; simp only [List.length_map] at this; rw [this]; exact Nat.le_trans (List.length_filter_le _ _) (by simp)
    have HP := hide hp
    have HR1 := hide hr1
    have HL := hide hl
    have HJ1 := hide hJ1
    clear hp hr1 hl hJ1
    by_cases hlt : i < N
    · have hi1 : (i : Int) < (N : Int) := by omega
      obtain ⟨o, rfl, hcl⟩ := (unhide HR1).at (by omega)
      have HCL := hide (hcl i hlt)
      clear hcl
      have HC2w := hide hc2
      have hal := (Below.refl wr.heap.size wr).alloc (Nat.le_refl _) (.cells (f i).toArray 44)
      have hc2' := (hal.cell (p := ⟨B2, 0, none⟩) (block_lt_of_cell hc2)).trans hc2
      have HAL := hide hal
      clear hal
      gi_wp2_with (first | (refine wpListIn_load_mid11 rfl 44 _ rfl G (o + i * 19) rfl (f i) _ (unhide HCL) Tryz.underlying44 (by rfl) (by rw [hf i]; kernel_rfl) ?_) | (refine wpListIn_store_new11 rfl 44 _ _ rfl _ (f i).toArray 44 rfl rfl (by rw [List.size_toArray, hf i]; kernel_rfl) (by rw [show (f i).toArray.size = 19 from by rw [List.size_toArray, hf i]]; rfl) (all_oneCell_toArray (hf1 i)) ?_) | (refine wpListIn_load_new11 rfl 44 _ rfl (f i).toArray 44 rfl _ Tryz.underlying44 (by rfl) (by rw [List.size_toArray, hf i]; kernel_rfl) ?_))
      refine ⟨trivial, fun h => absurd h (by simp [Fence.wide]), (callsIn_wide.2 (unhide HIS i hlt _)).mono ?_⟩
      rintro e w' ⟨rfl, hk⟩
      have hkk := (unhide HAL).trans (hk.mono (unhide HAL).size)
      have HJ2 := hide (hJb _ _ _ (unhide HJ1) hkk)
      have HR2 := hide ((unhide HR1).of (fun h => hkk.block G (Nat.lt_of_lt_of_le (hg h).1 (Nat.le_trans hnz hnw))))
      have HC22 := hide ((hkk.cell (p := ⟨B2, 0, none⟩) (block_lt_of_cell (unhide HC2w))).trans (unhide HC2w))
      have hnw2 := Nat.le_trans hnw hkk.size
      clear hk hkk hc2' hc2 HAL HC2w
      obtain ⟨r, hr⟩ : ∃ r, K i = r := ⟨_, rfl⟩
      rw [hr]
      cases r
      · have HP' : Hid (pre.map Subtype.val = (List.range (i + 1)).filter K) := by show _ = _; rw [unhide HP, List.range_succ, List.filter_append]; simp [hr]
        clear hr
        gi_wp2
        refine ⟨fun _ h => (by cases h), ?_⟩
        gi_wp2
        go_roundw
        case rel => exact ⟨pre, i + 1, by go_num, by omega, unhide HP', unhide HJ2, unhide HR2, unhide HC22, hnw2⟩
        case measure => simp [intOf]; omega
      · have HKi : Hid (K i = true) := hr
        have HP' : Hid ((pre ++ [(⟨i, hlt, unhide HKi⟩ : It5 N K)]).map Subtype.val = (List.range (i + 1)).filter K) := by show _ = _; rw [List.map_append, unhide HP, List.range_succ, List.filter_append]; simp [hr]
        clear hr
        obtain ⟨fn, tmps, assign, body, hy1, hR⟩ := hY pre ⟨i, hlt, unhide HKi⟩ w' (unhide HJ2) (by have := unhide HL; omega) hnw2
        dsimp only at hy1
        gi_wp2
        refine ⟨fun h => absurd h (by simp [Fence.wide]), hR.mono ?_⟩
        rintro e W3 (⟨rfl, hJ3, hk3⟩ | ⟨rfl, hJx3⟩)
        · have HR3 := hide ((unhide HR2).of (fun h => hk3.block G (hg h).1 (hg h).2))
          have HC3 := hide (hk3.cell (unhide HC22) hB2.1 hB2.2)
          have hn3 := Nat.le_trans hnw2 hk3.size
          gi_wp2
          go_roundw
          case rel => exact ⟨pre ++ [(⟨i, hlt, unhide HKi⟩ : It5 N K)], i + 1, by go_num, by omega, unhide HP', hJ3, unhide HR3, unhide HC3, hn3⟩
          case measure => simp [intOf]; omega
        · gi_wp2
          refine bodyPost_ret (results_none rfl _ _ _) rfl ?_
          exact ⟨⟨_, rfl⟩, .inr ⟨pre ++ [⟨i, hlt, unhide HKi⟩], trivial, hJx3⟩⟩
    · have hi2 : i = N := by omega
      subst hi2
      gi_wp2
      go_end0
      exact ⟨⟨_, rfl⟩, .inl ⟨pre, unhide HP, unhide HJ1⟩⟩

theorem suchE_seq {w : World} {B B2 G N c isf : Nat} {ao : Option Addr} {f : Nat → List Value} {K : Nat → Bool} (hNc : N ≤ 281474976710656) (hf : ∀ i, (f i).length = 19) (hf1 : ∀ i, ∀ u ∈ f i, u.oneCell' = true) (hcap : w.cell? ⟨B, 0, none⟩ = some (.slice ao N c)) (hcap2 : w.cell? ⟨B2, 0, none⟩ = some (.func (.func isf) #[] #[]))
    (hrow : MRow w ao G 19 N f) (hen : ∀ args W, (callFunc isf args).run Tryz.prog W = .ok (.enter isf args) W) (his : ∀ i, i < N → ∀ W, Calls Tryz.prog isf #[.agg (f i).toArray] W fun e W' => e = .returned (.bool (K i)) ∧ Below W.heap.size W W') :
    Seq11 110 #[.pointer (some ⟨B, 0, none⟩), .pointer (some ⟨B2, 0, none⟩)] N K (fun k => k = B2 ∨ 0 < N ∧ k = G) w := by
  have hlt : 0 < N → G < w.heap.size := fun h => hrow.lt h (by rw [hf]; omega)
  refine ⟨enters_of Tryz.func110 (by kernel_rfl) rfl, fun W S n₀ hW hS hn l J Jx W2 hW2 hA _ hY h0 => ?_, fun l J W hW hJ hY h0 n => ?_⟩
  · have hb : Below w.heap.size w W2 := hW.trans (hW2.mono hW.size)
    exact suchE_in S 2 l B B2 w.heap.size w.heap.size ao G N c isf f K hNc hf hf1 J Jx (fun s A B' hs hk => hA s A B' none hs ⟨hk.os, hk.tape, hk.output, hk.size, fun j hj _ => hk.block j hj⟩ (fun r e => by cases e)) (fun pre x W' hj hl _ => by
      obtain ⟨fn, tmps, assign, body, h1, h2⟩ := hY pre x W' hj hl
      exact ⟨fn, tmps, assign, body, h1, h2.mono (fun e W'' he => he.imp (fun h => ⟨h.1, h.2.1, h.2.2.size, fun k hk hks => h.2.2.block k (by omega) hks⟩) id)⟩) hen his W2 ((hb.cell (p := ⟨B, 0, none⟩) (block_lt_of_cell hcap)).trans hcap) ((hb.cell (p := ⟨B2, 0, none⟩) (block_lt_of_cell hcap2)).trans hcap2) (hrow.of (fun h => hb.block G (hlt h)))
      (fun h => ⟨hlt h, fun hm => hS G hm (.inr ⟨h, rfl⟩)⟩) ⟨block_lt_of_cell hcap2, fun hm => hS B2 hm (.inl rfl)⟩ (Nat.le_refl _) hb.size h0
  · show CallsIn Fence.wide n Tryz.prog 110 #[.func (.yield l) #[] #[], .pointer (some ⟨B, 0, none⟩), .pointer (some ⟨B2, 0, none⟩)] W _
    refine (suchE_in [] n l B B2 w.heap.size W.heap.size ao G N c isf f K hNc hf hf1 J (fun _ _ => False) (fun s A B' hs hk => hJ s A B' hs (Ka.of_below hk)) (fun pre x W' hj hl hn => ?_) hen his W ((hW.cell (p := ⟨B, 0, none⟩) (block_lt_of_cell hcap)).trans hcap) ((hW.cell (p := ⟨B2, 0, none⟩) (block_lt_of_cell hcap2)).trans hcap2) (hrow.of (fun h => hW.block G (hlt h)))
      (fun h => ⟨hlt h, by simp⟩) ⟨block_lt_of_cell hcap2, by simp⟩ hW.size (Nat.le_refl _) h0).mono ?_
    · obtain ⟨fn, tmps, assign, body, h1, h2⟩ := hY pre x W' hj hl hn
      exact ⟨fn, tmps, assign, body, h1, (round_any h2).mono (fun e W'' he => .inl ⟨he.1, he.2.1, he.2.2.size, fun k hk _ => he.2.2.block k (Nat.lt_of_lt_of_le hk (Nat.le_trans hW.size hn)) (.inr hk)⟩)⟩
    · rintro e W' ⟨h1, (⟨ys, h2, h3⟩ | ⟨pre, -, h⟩)⟩
      · exact ⟨h1, ys, h2, h3⟩
      · exact h.elim

end Go.Proofs.YtjdikhelabibnaaGreat
