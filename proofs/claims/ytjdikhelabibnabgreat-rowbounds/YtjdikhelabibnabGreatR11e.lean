/-
  row: line.slots with its iterator: of slots, of payloads.
-/
import Derived.Test.YtjdikhelabibnabGreatR11c
namespace Go.Proofs.YtjdikhelabibnabGreat
open Go Go.RowKit Go.Shelf
attribute [local go_sem] Oper.semAt_some

def EV.ar (e : EV) : Array Value := entA e.k e.l e.s e.d
theorem wpListIn_load_ev11 {F : Fence} {n : Nat} {ops : Array Oper} {rest : List Oper} {o : Oper} {a : Act} {w : World} {Q : Exit → Act → World → Prop} (hgd : o.guard = none) (x : Operand) (ho : o.op = .load 46 x)
    (b p : Nat) (hx : a.eval x = .pointer (some ⟨b, p, none⟩)) (e : EV) (he : e.Ok) (hc : w.rangeAt b p e.cs)
    (h : wpListIn F n Tryz.prog ops Q rest (a.put o.dst (.agg e.ar)) w) : wpListIn F n Tryz.prog ops Q (o :: rest) a w :=
  wpListIn_load_mid11 hgd 46 x ho b p hx e.cs _ hc Tryz.underlying46 (by rfl) (by rw [sizeTE, EV.cs_len he]) h
theorem EV.ar_size {e : EV} (h : e.Ok) : e.ar.size = 19 := entA_size h.len
theorem EV.ar_one (e : EV) : e.ar.all (·.oneCell') = true := entA_one _ _ _ _

set_option maxHeartbeats 1000000 in
theorem slotsE_any (ao : Option Addr) (n c : Nat) (D : Int) (w : World) : Calls Tryz.prog 25 #[.slice ao n c, .int .i64 D] w fun e w' =>
    e = .returned (.func (.func 48) #[] #[.pointer (some ⟨w.heap.size + 1, 0, none⟩), .pointer (some ⟨w.heap.size, 0, none⟩)]) ∧ w'.cell? ⟨w.heap.size, 0, none⟩ = some (.slice ao n c) ∧ w'.cell? ⟨w.heap.size + 1, 0, none⟩ = some (.int .i64 D) ∧ w'.heap.size = w.heap.size + 2 ∧ Below w.heap.size w w' := by
  go_enter Tryz.func25, Tryz.ntmps25
  go_wp2
  go_ret
  have h := (cell_new' (w.alloc (.cells #[.slice ao n c] 65)) (.int .i64 D) 3).1
  rw [World.size_alloc] at h
  exact ⟨rfl, (World.cell?_of_block (Below.heap_alloc _ _ _ (by simp))).trans (cell_new' w _ _).1, h, by simp, ((Below.refl _ w).alloc (Nat.le_refl _) _).alloc (by simp) _⟩
set_option maxHeartbeats 1000000 in
theorem slotsB_any (ao : Option Addr) (n c : Nat) (D : Int) (w : World) : Calls Tryz.prog 44 #[.slice ao n c, .int .i64 D] w fun e w' =>
    e = .returned (.func (.func 64) #[] #[.pointer (some ⟨w.heap.size + 1, 0, none⟩), .pointer (some ⟨w.heap.size, 0, none⟩)]) ∧ w'.cell? ⟨w.heap.size, 0, none⟩ = some (.slice ao n c) ∧ w'.cell? ⟨w.heap.size + 1, 0, none⟩ = some (.int .i64 D) ∧ w'.heap.size = w.heap.size + 2 ∧ Below w.heap.size w w' := by
  go_enter Tryz.func44, Tryz.ntmps44
  go_wp2
  go_ret
  have h := (cell_new' (w.alloc (.cells #[.slice ao n c] 81)) (.int .i64 D) 3).1
  rw [World.size_alloc] at h
  exact ⟨rfl, (World.cell?_of_block (Below.heap_alloc _ _ _ (by simp))).trans (cell_new' w _ _).1, h, by simp, ((Below.refl _ w).alloc (Nat.le_refl _) _).alloc (by simp) _⟩

/-- The iterator's word: the first d, each with its number. -/
structure Seq11s (gf : Nat) (lb : Array Value) (d : Nat) (u : Nat → Value) (V : Nat → Prop) (w : World) : Prop where
  enters : ∀ args W, (callFunc gf args).run Tryz.prog W = .ok (.enter gf args) W
  seq : ∀ (W : World) (S : List Nat) (n₀ : Nat), Below w.heap.size w W → (∀ s ∈ S, ¬ V s) → w.heap.size ≤ n₀ →
    SeqStopsK Fence.wide 2 Tryz.prog gf lb (fun x : Fin d => #[Value.int .i64 x.val, u x.val]) (Kq S n₀) (fun ys => ys.map Fin.val = List.range d) (fun ys => ys.map Fin.val = List.range ys.length) d W

set_option maxRecDepth 100000 in
set_option maxHeartbeats 8000000 in
theorem slotsE_in (S : List Nat) (m l B B2 n₀ : Nat) (ao : Option Addr) (G n c d : Nat) (L : List EV) (hd : d ≤ 100000) (hok : ∀ i, (L.getD i zEV).Ok) (hn : L.length = n) (J Jx : List (Fin d) → World → Prop) (hJb : ∀ s A B, J s A → Below A.heap.size A B → J s B)
    (hY : ∀ pre (x : Fin d) W, J pre W → pre.length < d → YieldAt Fence.wide (m - 1) Tryz.prog l #[.int .i64 x.val, .agg (L.getD x.val zEV).ar] W fun e W' =>
      (e = .returned (.bool true) ∧ J (pre ++ [x]) W' ∧ Kq S n₀ W W') ∨ (e = .returned (.bool false) ∧ Jx (pre ++ [x]) W'))
    (W : World) (hcap : W.cell? ⟨B, 0, none⟩ = some (.int .i64 ((d : Int) + 2))) (hcap2 : W.cell? ⟨B2, 0, none⟩ = some (.slice ao n c)) (hrow : MRow W ao G 19 n (fun i => (L.getD i zEV).cs)) (hg : 0 < n → G < n₀ ∧ G ∉ S) (hB2 : B2 < n₀ ∧ B2 ∉ S) (hnW : n₀ ≤ W.heap.size) (h0 : J [] W) :
    CallsIn Fence.wide m Tryz.prog 48 #[.func (.yield l) #[] #[], .pointer (some ⟨B, 0, none⟩), .pointer (some ⟨B2, 0, none⟩)] W fun e W' => (∃ v, e = .returned v) ∧
      ((∃ ys, ys.map Fin.val = List.range d ∧ J ys W') ∨ (∃ pre, pre.map Fin.val = List.range pre.length ∧ Jx pre W')) := by
  have HR := hide hrow
  have HC2 := hide hcap2
  have HOK := hide hok
  have HN := hide hn
  clear hrow hcap2 hok hn
  refine callsIn_of_wp Tryz.func48 rfl trivial ?_ rfl
  simp only [Tryz.ntmps48, List.size_toArray, List.length_cons, List.length_nil, Nat.reduceAdd, Nat.reduceSub, Array.replicate_succ, Array.replicate_zero, List.push_toArray, List.append_toArray, List.nil_append, List.cons_append]
  have hdi : (d : Int) + 2 - 2 = (d : Int) := by omega
  gi_wp2
  clear hcap hdi
  gi_loopw [8] (fun q wr => ∃ (pre : List (Fin d)) (i : Nat), q = .int .i64 i ∧ i ≤ d ∧ pre.map Fin.val = List.range i ∧ J pre wr ∧ MRow wr ao G 19 n (fun i => (L.getD i zEV).cs) ∧ wr.cell? ⟨B2, 0, none⟩ = some (.slice ao n c) ∧ n₀ ≤ wr.heap.size) (fun q _ => d - (intOf q).toNat)
  case atStart => exact ⟨[], 0, rfl, by omega, rfl, h0, unhide HR, unhide HC2, hnW⟩
  case round =>
    obtain ⟨pre, i, rfl, hi, hp, hJ1, hr1, hc2, hnw⟩ := hrel
    have hl : pre.length = i := by have := congrArg List.length hp; simpa using this
    have HP := hide hp
    have HR1 := hide hr1
    have HL := hide hl
    have HJ1 := hide hJ1
    clear hp hr1 hl hJ1
    by_cases hlt : i < d
    · have hi1 : (i : Int) < (d : Int) := by omega
      have HP' : Hid ((pre ++ [(⟨i, hlt⟩ : Fin d)]).map Fin.val = List.range (i + 1)) := by show _ = _; rw [List.map_append, unhide HP, List.range_succ]; rfl
      have hal := (Below.refl wr.heap.size wr).alloc (Nat.le_refl _) (.cells (L.getD i zEV).ar 46)
      have HKK := hide hal
      have HJ2 := hide (hJb _ _ _ (unhide HJ1) hal)
      have HR2 := hide ((unhide HR1).of (fun h => hal.block G (Nat.lt_of_lt_of_le (hg h).1 hnw)))
      have hnw2 := Nat.le_trans hnw hal.size
      have hz0 := (Below.refl wr.heap.size wr).alloc (Nat.le_refl _) (.cells (entA 0 0 0 zer16) 46)
      have hc2a : (wr.alloc (.cells #[.int .i64 0, .int .i64 0, .int .i64 0, .int .u8 0, .int .u8 0, .int .u8 0, .int .u8 0, .int .u8 0, .int .u8 0, .int .u8 0, .int .u8 0, .int .u8 0, .int .u8 0, .int .u8 0, .int .u8 0, .int .u8 0, .int .u8 0, .int .u8 0, .int .u8 0] 46)).cell? ⟨B2, 0, none⟩ = some (.slice ao n c) := (hz0.cell (p := ⟨B2, 0, none⟩) (block_lt_of_cell hc2)).trans hc2
      have HC22 := hide ((hal.cell (p := ⟨B2, 0, none⟩) (block_lt_of_cell hc2)).trans hc2)
      obtain ⟨fn, tmps, assign, body, hy1, hR⟩ := hY pre ⟨i, hlt⟩ (wr.alloc (.cells (L.getD i zEV).ar 46)) (unhide HJ2) (by rw [unhide HL]; exact hlt)
      dsimp only at hy1
      have HRR := hide hR
      have HOI := hide ((unhide HOK) i)
      clear hal hR
      by_cases hin : i < n
      · have hin1 : (i : Int) < (n : Int) := by omega
        obtain ⟨o, rfl, hcl⟩ := (unhide HR1).at (by omega)
        have HCL : Hid ((wr.alloc (.cells #[.int .i64 0, .int .i64 0, .int .i64 0, .int .u8 0, .int .u8 0, .int .u8 0, .int .u8 0, .int .u8 0, .int .u8 0, .int .u8 0, .int .u8 0, .int .u8 0, .int .u8 0, .int .u8 0, .int .u8 0, .int .u8 0, .int .u8 0, .int .u8 0, .int .u8 0] 46)).rangeAt G (o + i * 19) (L.getD i zEV).cs) := fun j v hv => (World.cell?_of_block (hz0.block G (Nat.lt_of_lt_of_le (hg (by omega)).1 hnw))).trans (hcl i hin j v hv)
        clear hcl hz0
        obtain ⟨e, he⟩ : ∃ e, L.getD i zEV = e := ⟨_, rfl⟩
        rw [he] at HCL HOI HKK HJ2 HR2 HC22 hy1 HRR hnw2
        gi_wp2_with (first | (refine wpListIn_load_ev11 rfl _ rfl G (o + i * 19) rfl e (unhide HOI) (unhide HCL) ?_) | (refine wpListIn_store_new11 rfl 46 _ _ rfl _ e.ar 46 rfl rfl (by rw [EV.ar_size (unhide HOI)]; kernel_rfl) (by rw [EV.ar_size (unhide HOI)]; rfl) e.ar_one ?_) | (refine wpListIn_load_new11 rfl 46 _ rfl e.ar 46 rfl _ Tryz.underlying46 (by rfl) (by rw [EV.ar_size (unhide HOI)]; kernel_rfl) ?_))
        refine ⟨fun h => absurd h (by simp [Fence.wide]), (unhide HRR).mono ?_⟩
        rintro x W3 (⟨rfl, hJ3, hk3⟩ | ⟨rfl, hJx3⟩)
        · have HR3 := hide ((unhide HR2).of (fun h => hk3.block G (hg h).1 (hg h).2))
          have HC3 := hide (hk3.cell (unhide HC22) hB2.1 hB2.2)
          have hn3 := Nat.le_trans hnw2 hk3.size
          gi_wp2
          go_roundw
          case rel => exact ⟨pre ++ [(⟨i, hlt⟩ : Fin d)], i + 1, by go_num, by omega, unhide HP', hJ3, unhide HR3, unhide HC3, hn3⟩
          case measure => simp [intOf]; omega
        · gi_wp2
          refine bodyPost_ret (results_none rfl _ _ _) rfl ?_
          exact ⟨⟨_, rfl⟩, .inr ⟨pre ++ [⟨i, hlt⟩], by rw [unhide HP', List.length_append, unhide HL]; rfl, hJx3⟩⟩
      · have hin1 : (n : Int) ≤ (i : Int) := by omega
        have he : L.getD i zEV = zEV := by rw [List.getD_eq_getElem?_getD, List.getElem?_eq_none (by rw [unhide HN]; omega)]; rfl
        rw [he] at HOI HKK HJ2 HR2 HC22 hy1 HRR hnw2
        gi_wp2_with (refine wpListIn_load_new11 rfl 46 _ rfl zEV.ar 46 rfl _ Tryz.underlying46 (by rfl) (by kernel_rfl) ?_)
        refine ⟨fun h => absurd h (by simp [Fence.wide]), (unhide HRR).mono ?_⟩
        rintro x W3 (⟨rfl, hJ3, hk3⟩ | ⟨rfl, hJx3⟩)
        · have HR3 := hide ((unhide HR2).of (fun h => hk3.block G (hg h).1 (hg h).2))
          have HC3 := hide (hk3.cell (unhide HC22) hB2.1 hB2.2)
          have hn3 := Nat.le_trans hnw2 hk3.size
          gi_wp2
          go_roundw
          case rel => exact ⟨pre ++ [(⟨i, hlt⟩ : Fin d)], i + 1, by go_num, by omega, unhide HP', hJ3, unhide HR3, unhide HC3, hn3⟩
          case measure => simp [intOf]; omega
        · gi_wp2
          refine bodyPost_ret (results_none rfl _ _ _) rfl ?_
          exact ⟨⟨_, rfl⟩, .inr ⟨pre ++ [⟨i, hlt⟩], by rw [unhide HP', List.length_append, unhide HL]; rfl, hJx3⟩⟩
    · have hi2 : i = d := by omega
      subst hi2
      gi_wp2
      go_end0
      exact ⟨⟨_, rfl⟩, .inl ⟨pre, unhide HP, unhide HJ1⟩⟩

theorem slotsE_seq {w : World} {B B2 G n c d : Nat} {ao : Option Addr} {L : List EV} (hd : d ≤ 100000) (hL : EArg w (.slice ao n c) G L) (hcap : w.cell? ⟨B, 0, none⟩ = some (.int .i64 ((d : Int) + 2))) (hcap2 : w.cell? ⟨B2, 0, none⟩ = some (.slice ao n c)) :
    Seq11s 48 #[.pointer (some ⟨B, 0, none⟩), .pointer (some ⟨B2, 0, none⟩)] d (fun i => .agg (L.getD i zEV).ar) (fun k => k = B2 ∨ 0 < n ∧ k = G) w := by
  obtain ⟨h1, -, -, hrow⟩ := hL.mrow
  have hlt : 0 < n → G < w.heap.size := fun h => hL.lt (fun e => by rw [e] at h1; simp at h1; omega)
  refine ⟨enters_of Tryz.func48 (by kernel_rfl) rfl, fun W S n₀ hW hS hn l J Jx W2 hW2 hA _ hY h0 => ?_⟩
  have hb : Below w.heap.size w W2 := hW.trans (hW2.mono hW.size)
  exact slotsE_in S 2 l B B2 w.heap.size ao G n c d L hd hL.get_ok h1 J Jx (fun s A B' hs hk => hA s A B' none hs ⟨hk.os, hk.tape, hk.output, hk.size, fun j hj _ => hk.block j hj⟩ (fun r e => by cases e)) (fun pre x W' hj hl => by
      obtain ⟨fn, tmps, assign, body, h1, h2⟩ := hY pre x W' hj hl
      exact ⟨fn, tmps, assign, body, h1, h2.mono (fun e W'' he => he.imp (fun h => ⟨h.1, h.2.1, h.2.2.size, fun k hk hks => h.2.2.block k (by omega) hks⟩) id)⟩) W2 ((hb.cell (p := ⟨B, 0, none⟩) (block_lt_of_cell hcap)).trans hcap) ((hb.cell (p := ⟨B2, 0, none⟩) (block_lt_of_cell hcap2)).trans hcap2) (hrow.of (fun h => hb.block G (hlt h)))
    (fun h => ⟨hlt h, fun hm => hS G hm (.inr ⟨h, rfl⟩)⟩) ⟨block_lt_of_cell hcap2, fun hm => hS B2 hm (.inl rfl)⟩ hb.size h0

set_option maxRecDepth 100000 in
set_option maxHeartbeats 8000000 in
theorem slotsB_in (S : List Nat) (m l B B2 n₀ : Nat) (ao : Option Addr) (G N c d : Nat) (A : Nat → Option Addr) (Ln C : Nat → Nat) (hd : d ≤ 100000) (hdN : d ≤ N) (J Jx : List (Fin d) → World → Prop)
    (hY : ∀ pre (x : Fin d) W, J pre W → pre.length < d → YieldAt Fence.wide (m - 1) Tryz.prog l #[.int .i64 x.val, .slice (A x.val) (Ln x.val) (C x.val)] W fun e W' =>
      (e = .returned (.bool true) ∧ J (pre ++ [x]) W' ∧ Kq S n₀ W W') ∨ (e = .returned (.bool false) ∧ Jx (pre ++ [x]) W'))
    (W : World) (hcap : W.cell? ⟨B, 0, none⟩ = some (.int .i64 ((d : Int) + 2))) (hcap2 : W.cell? ⟨B2, 0, none⟩ = some (.slice ao N c)) (hrow : VRow W ao G A Ln C N) (hg : 0 < N → G < n₀ ∧ G ∉ S) (hB2 : B2 < n₀ ∧ B2 ∉ S) (h0 : J [] W) :
    CallsIn Fence.wide m Tryz.prog 64 #[.func (.yield l) #[] #[], .pointer (some ⟨B, 0, none⟩), .pointer (some ⟨B2, 0, none⟩)] W fun e W' => (∃ v, e = .returned v) ∧
      ((∃ ys, ys.map Fin.val = List.range d ∧ J ys W') ∨ (∃ pre, pre.map Fin.val = List.range pre.length ∧ Jx pre W')) := by
  have HR := hide hrow
  have HC2 := hide hcap2
  clear hrow hcap2
  refine callsIn_of_wp Tryz.func64 rfl trivial ?_ rfl
  simp only [Tryz.ntmps64, List.size_toArray, List.length_cons, List.length_nil, Nat.reduceAdd, Nat.reduceSub, Array.replicate_succ, Array.replicate_zero, List.push_toArray, List.append_toArray, List.nil_append, List.cons_append]
  have hdi : (d : Int) + 2 - 2 = (d : Int) := by omega
  gi_wp2
  clear hcap hdi
  gi_loopw [8] (fun q wr => ∃ (pre : List (Fin d)) (i : Nat), q = .int .i64 i ∧ i ≤ d ∧ pre.map Fin.val = List.range i ∧ J pre wr ∧ VRow wr ao G A Ln C N ∧ wr.cell? ⟨B2, 0, none⟩ = some (.slice ao N c)) (fun q _ => d - (intOf q).toNat)
  case atStart => exact ⟨[], 0, rfl, by omega, rfl, h0, unhide HR, unhide HC2⟩
  case round =>
    obtain ⟨pre, i, rfl, hi, hp, hJ1, hr1, hc2⟩ := hrel
    have hl : pre.length = i := by have := congrArg List.length hp; simpa using this
    have HP := hide hp
    have HR1 := hide hr1
    have HL := hide hl
    clear hp hr1 hl
    by_cases hlt : i < d
    · have hi1 : (i : Int) < (d : Int) := by omega
      have HP' : Hid ((pre ++ [(⟨i, hlt⟩ : Fin d)]).map Fin.val = List.range (i + 1)) := by show _ = _; rw [List.map_append, unhide HP, List.range_succ]; rfl
      obtain ⟨o, rfl, hcl⟩ := (unhide HR1).at (by omega)
      have hc := hcl i (by omega)
      clear hcl
      have hin1 : (i : Int) < (N : Int) := by omega
      have HC22 := hide hc2
      obtain ⟨fn, tmps, assign, body, hy1, hR⟩ := hY pre ⟨i, hlt⟩ wr hJ1 (by rw [unhide HL]; exact hlt)
      dsimp only at hy1
      gi_wp2
      refine ⟨fun h => absurd h (by simp [Fence.wide]), hR.mono ?_⟩
      rintro x W3 (⟨rfl, hJ3, hk3⟩ | ⟨rfl, hJx3⟩)
      · have HR3 := hide ((unhide HR1).kq hk3 hg)
        have HC3 := hide (hk3.cell (unhide HC22) hB2.1 hB2.2)
        gi_wp2
        go_roundw
        case rel => exact ⟨pre ++ [(⟨i, hlt⟩ : Fin d)], i + 1, by go_num, by omega, unhide HP', hJ3, unhide HR3, unhide HC3⟩
        case measure => simp [intOf]; omega
      · gi_wp2
        refine bodyPost_ret (results_none rfl _ _ _) rfl ?_
        exact ⟨⟨_, rfl⟩, .inr ⟨pre ++ [⟨i, hlt⟩], by rw [unhide HP', List.length_append, unhide HL]; rfl, hJx3⟩⟩
    · have hi2 : i = d := by omega
      subst hi2
      gi_wp2
      go_end0
      exact ⟨⟨_, rfl⟩, .inl ⟨pre, unhide HP, hJ1⟩⟩

theorem slotsB_seq {w : World} {B B2 G N c d : Nat} {ao : Option Addr} {A : Nat → Option Addr} {Ln C : Nat → Nat} (hd : d ≤ 100000) (hdN : d ≤ N) (hrow : VRow w ao G A Ln C N) (hcap : w.cell? ⟨B, 0, none⟩ = some (.int .i64 ((d : Int) + 2))) (hcap2 : w.cell? ⟨B2, 0, none⟩ = some (.slice ao N c)) :
    Seq11s 64 #[.pointer (some ⟨B, 0, none⟩), .pointer (some ⟨B2, 0, none⟩)] d (fun i => .slice (A i) (Ln i) (C i)) (fun k => k = B2 ∨ 0 < N ∧ k = G) w := by
  refine ⟨enters_of Tryz.func64 (by kernel_rfl) rfl, fun W S n₀ hW hS hn l J Jx W2 hW2 _ _ hY h0 => ?_⟩
  have hb : Below w.heap.size w W2 := hW.trans (hW2.mono hW.size)
  exact slotsB_in S 2 l B B2 w.heap.size ao G N c d A Ln C hd hdN J Jx (fun pre x W' hj hl => by
      obtain ⟨fn, tmps, assign, body, h1, h2⟩ := hY pre x W' hj hl
      exact ⟨fn, tmps, assign, body, h1, h2.mono (fun e W'' he => he.imp (fun h => ⟨h.1, h.2.1, h.2.2.size, fun k hk hks => h.2.2.block k (by omega) hks⟩) id)⟩) W2 ((hb.cell (p := ⟨B, 0, none⟩) (block_lt_of_cell hcap)).trans hcap) ((hb.cell (p := ⟨B2, 0, none⟩) (block_lt_of_cell hcap2)).trans hcap2) (hrow.kq (n := w.heap.size) (S := []) ⟨hb.size, fun k hk _ => hb.block k hk⟩ (fun h => ⟨hrow.lt h, by simp⟩))
    (fun h => ⟨hrow.lt h, fun hm => hS G hm (.inr ⟨h, rfl⟩)⟩) ⟨block_lt_of_cell hcap2, fun hm => hS B2 hm (.inl rfl)⟩ h0

end Go.Proofs.YtjdikhelabibnabGreat
