/-
  A range over a function whose iterator keeps cells of its own, or is itself a range over a function: its rounds all go on.
  bch's terms: sum, doubled, locator.
-/
import Derived.Test.YtkhpoomajebgoaaMah
import Derived.Test.YtkhpoomajebgoaaRnd
import Derived.RangeFuncNested
import Derived.RangeFuncWrites
import Derived.RangeFuncBound
import Derived.Test.YtkhpoomajebgoaaMao
namespace Go.Proofs.Ytkhpoomajebgoaa
open Go Go.RowKit
section
variable {P : Program}

/-- The blocks from n on, and those that T names, lie as they lay. -/
structure Kx (T : Nat → Prop) (n : Nat) (A B : World) : Prop where
  size : A.heap.size ≤ B.heap.size
  block : ∀ k, k < A.heap.size → (n ≤ k ∨ T k) → B.heap[k]? = A.heap[k]?
theorem Kx.refl (T : Nat → Prop) (n : Nat) (A : World) : Kx T n A A := ⟨Nat.le_refl _, fun _ _ _ => rfl⟩
theorem Kx.trans {T : Nat → Prop} {n : Nat} {A B C : World} (h : Kx T n A B) (k : Kx T n B C) : Kx T n A C :=
  ⟨Nat.le_trans h.size k.size, fun i hi hn => (k.block i (Nat.lt_of_lt_of_le hi h.size) hn).trans (h.block i hi hn)⟩
theorem Kx.mono {T U : Nat → Prop} {n m : Nat} {A B : World} (h : Kx T n A B) (hm : ∀ k, m ≤ k ∨ U k → n ≤ k ∨ T k) : Kx U m A B := ⟨h.size, fun k hk hn => h.block k hk (hm k hn)⟩
theorem Kx.of_below {T : Nat → Prop} {n : Nat} {A B : World} (h : Below A.heap.size A B) : Kx T n A B := ⟨h.size, fun k hk _ => h.block k hk⟩
theorem Kx.of_set {T : Nat → Prop} {n : Nat} (A : World) {p : Addr} (u : Value) (h : p.block < n) (hT : ¬ T p.block) : Kx T n A (A.setCell p u) :=
  ⟨by simp [World.setCell], fun k _ hn => Below.heap_setCell _ _ _ _ (fun e => by
    subst e
    rcases hn with hn | hn
    · omega
    · exact hT hn)⟩
theorem Kx.put {T : Nat → Prop} {n : Nat} (A : World) {l : Nat} (o : Obj) (h : l < n) (hT : ¬ T l) : Kx T n A (A.putObj l o) :=
  ⟨by simp, fun k _ hn => World.putObj_heap_other (fun e => by
    subst e
    rcases hn with hn | hn
    · omega
    · exact hT hn)⟩
theorem Kx.cell {T : Nat → Prop} {n : Nat} {A B : World} (h : Kx T n A B) {p : Addr} {v : Value} (hc : A.cell? p = some v) (hp : n ≤ p.block ∨ T p.block) : B.cell? p = some v := by
  refine (World.cell?_of_block (h.block p.block ?_ hp)).trans hc
  unfold World.cell? at hc
  cases ho : A.heap[p.block]? with
  | none => simp [ho] at hc
  | some o => exact (Array.getElem?_eq_some_iff.1 ho).1

/-- The iterator's word: every round goes on, and keeps the iterator's own blocks and those of T; then all have come. -/
def SeqX {α : Type} (P : Program) (g : Nat) (lb : Array Value) (encs : α → Array Value) (T : Nat → Prop) (S : List α → Prop) (N : Nat) (w : World) : Prop :=
  ∀ (l : Nat) (J : List α → World → Prop) (W : World), Below w.heap.size w W → (∀ s A B, J s A → Below W.heap.size A B → J s B) →
    (∀ pre x W1, J pre W1 → pre.length < N → YieldAt Fence.wide 0 P l (encs x) W1 fun e W' => e = .returned (.bool true) ∧ J (pre ++ [x]) W' ∧ Kx T W.heap.size W1 W') →
    J [] W →
    ∀ n, CallsIn Fence.wide n P g (#[.func (.yield l) #[] #[]] ++ lb) W fun e W' => (∃ v, e = .returned v) ∧ ∃ xs, S xs ∧ J xs W'

/-- How the body of a round is left. -/
def postX {α : Type} (B : Nat) (T : Nat → Prop) (I : List α → World → Prop) (xs : List α) (W : World) : Exit → Act → World → Prop
  | .normal, _, W' => KeepsFrom B W W' ∧ Kx T (B + 2) W W' ∧ I xs W'
  | _, _, _ => False

/-- **The statement.** -/
theorem wpIn_range_x {α : Type} {n : Nat} {g : Operand} {ps : Array Tmp} {assign body : Code} {Q : Exit → Act → World → Prop} {a : Act} {w : World}
    {gf : Nat} {lb : Array Value} (hg : a.eval g = .func (.func gf) #[] lb) (eg : ∀ args w, (callFunc gf args).run P w = .ok (.enter gf args) w)
    {encs : α → Array Value} {T : Nat → Prop} {S : List α → Prop} {N : Nat} (hseq : SeqX P gf lb encs T S N w) (hT : ∀ k, T k → k < w.heap.size) (hps : ∀ x, (encs x).size = ps.size)
    (I : List α → World → Prop) (hI : ∀ s A B, I s A → Below w.heap.size A B → I s B) (h0 : I [] w)
    (hround : ∀ (l : Nat) (pre : List α) (x : α) (W : World), I pre W → pre.length < N → w.heap.size + 2 ≤ W.heap.size →
      assign.wpIn (Fence.wide.inRound l) 0 P (Exit.then (fun a₁ W₁ => (KeepsFrom w.heap.size W W₁ ∧ Kx T (w.heap.size + 2) W W₁ ∧ I pre W₁) ∧
        ∀ W₂, W₂.heap.size = W₁.heap.size → Below w.heap.size W₁ W₂ → (∀ k, k ≠ w.heap.size + 1 → W₂.heap[k]? = W₁.heap[k]?) → I pre W₂ → body.wpIn (Fence.wide.inRound l) 0 P (postX w.heap.size T I (pre ++ [x]) W₂) a₁ W₂) (fun _ _ _ => False))
        { tmps := (ps.zip (encs x)).foldl (fun t (p, v) => t.setIfInBounds p v) a.tmps, defers := [] } W)
    (hdone : ∀ (D : Nat) (xs : List α) (W : World), w.heap.size ≤ D → S xs → I xs W → W.heap[D]? = some (.deferred (some [])) → Q .normal { a with defers := { target := .collected D, args := #[] } :: a.defers } W) :
    (Code.rangeFunc g ps assign body).wpIn Fence.wide n P Q a w := by
  refine wpIn_rangeFunc (fun fn hfn => ?_)
  -- the record in its three states, the world with both blocks laid
  let R : LoopState → Option Code → Loop := fun st pe => { state := st, pending := pe, fn, tmps := a.tmps, params := ps, assign, body, defers := w.heap.size }
  let V : World := (w.alloc (.deferred (some []))).alloc (.loop (R .ready none))
  have hs : V.heap.size = w.heap.size + 2 := by simp [V]
  have hL : V.heap[w.heap.size + 1]? = some (.loop (R .ready none)) := by
    have := World.alloc_heap_new (w.alloc (.deferred (some []))) (.loop (R .ready none))
    rwa [World.size_alloc] at this
  have hD : V.heap[w.heap.size]? = some (.deferred (some [])) := (Below.heap_alloc _ _ _ (by simp)).trans (World.alloc_heap_new w _)
  have hV : Below w.heap.size w V := ((Below.refl _ w).alloc (Nat.le_refl _) _).alloc (by simp) _
  refine ⟨w.heap.size + 1, [{ target := .collected w.heap.size, args := #[] }], V, { target := .fn (.func gf) lb, args := #[.func (.yield (w.heap.size + 1)) #[] #[]] }, V, gf,
    #[.func (.yield (w.heap.size + 1)) #[] #[]] ++ lb, V, run_enterLoop_outer _ _ _ _ _, ?_, fun _ _ => trivial, ?_, fun h => absurd h (by simp [Fence.wide]), ?_⟩
  · simp only [resolve, hg]
    simp [go_sem]
  · simp [invoke, go_sem, eg]
  have hnT : ¬ T (w.heap.size + 1) := fun h => by have := hT _ h; omega
  refine (hseq (w.heap.size + 1) (fun pre W => I pre W ∧ W.heap[w.heap.size + 1]? = some (.loop (R .ready none)) ∧ W.heap[w.heap.size]? = some (.deferred (some [])) ∧ w.heap.size + 2 ≤ W.heap.size) V hV
    (fun s A B hJ hb => ⟨hI s A B hJ.1 (hb.mono (by omega)), (hb.block _ (by omega)).trans hJ.2.1, (hb.block _ (by omega)).trans hJ.2.2.1, Nat.le_trans hJ.2.2.2 hb.size⟩)
    ?_ ⟨hI _ _ _ h0 hV, hL, hD, by omega⟩ _).mono ?_
  · rintro pre x W ⟨hi, hl, hd, hsz⟩ hlen
    refine ⟨fn, _, assign, body, run_yield (P := P) (args := encs x) hl (hps x), roundIn_of_wpIn hfn ?_⟩
    refine wpIn_mono (hround _ pre x W hi hlen hsz) ?_
    rintro e a₁ W₁ hp
    cases e with
    | normal =>
      obtain ⟨⟨hk1, hx1, hi1⟩, hbody⟩ := hp
      have hl1 := hk1.same _ _ (Nat.le_succ _) hl rfl
      have hd1 := hk1.same _ _ (Nat.le_refl _) hd rfl
      have hlt1 := (Array.getElem?_eq_some_iff.1 hl1).1
      refine ⟨_, run_beginRound hl1 rfl, ?_⟩
      have hl2 : (W₁.putObj (w.heap.size + 1) (.loop { R .ready none with state := .busy })).heap[w.heap.size + 1]? = some (.loop { R .ready none with state := .busy }) := World.putObj_heap_same hlt1
      have hd2 : (W₁.putObj (w.heap.size + 1) (.loop { R .ready none with state := .busy })).heap[w.heap.size]? = some (.deferred (some [])) := (World.putObj_heap_other (by omega)).trans hd1
      have hb2 : Below w.heap.size W₁ (W₁.putObj (w.heap.size + 1) (.loop { R .ready none with state := .busy })) := below_put _ _ (by omega)
      refine wpIn_mono (hbody _ (by simp) hb2 (fun k hk => World.putObj_heap_other hk) (hI _ _ _ hi1 hb2)) ?_
      rintro e a₂ W₃ hp
      cases e with
      | normal =>
        obtain ⟨hk3, hx3, hi3⟩ := hp
        have hl3 := hk3.same _ _ (Nat.le_succ _) hl2 rfl
        have hd3 := hk3.same _ _ (Nat.le_refl _) hd2 rfl
        have hlt3 := (Array.getElem?_eq_some_iff.1 hl3).1
        have hx : Kx T V.heap.size W W₃ := by
          rw [hs]
          exact (hx1.trans (Kx.put _ _ (by omega) hnT)).trans hx3
        refine ⟨_, _, run_endRound none hl3, rfl, ⟨hI _ _ _ hi3 (below_put _ _ (by omega)), World.putObj_heap_same hlt3, (World.putObj_heap_other (by omega)).trans hd3, ?_⟩, hx.trans (Kx.put _ _ (by omega) hnT)⟩
        have := hx.size
        simp
        omega
      | ret => exact hp.elim
      | exit id => exact hp.elim
      | goto t => exact hp.elim
      | panic ch => exact hp.elim
      | outgrown => exact hp.elim
    | ret => exact hp.elim
    | exit id => exact hp.elim
    | goto t => exact hp.elim
    | panic ch => exact hp.elim
    | outgrown => exact hp.elim
  · rintro e W₂ ⟨⟨v, rfl⟩, xs, hS, hi, hl, hd, _⟩
    exact ⟨none, _, run_endLoop hl (by simp [R]), hdone _ xs _ (Nat.le_refl _) hS (hI _ _ _ hi (below_put _ _ (by omega))) ((World.putObj_heap_other (by omega)).trans hd)⟩
end
end Go.Proofs.Ytkhpoomajebgoaa

namespace Go.Proofs.Ytkhpoomajebgoaa
open Go.RowKit Go.Shelf

/-- Four bytes as one value. -/
def tv (a b c d : Nat) : Value := .agg #[.int .u8 (a : Int), .int .u8 (b : Int), .int .u8 (c : Int), .int .u8 (d : Int)]

theorem four_cells {w : World} {B : Nat} {a b c d : Value} (h : w.heap[B]? = some (.cells #[a, b, c, d] 84 (0, 0))) :
    (w.cell? ⟨B, 0, none⟩ = some a ∧ w.cell? ⟨B, 1, none⟩ = some b ∧ w.cell? ⟨B, 2, none⟩ = some c ∧ w.cell? ⟨B, 3, none⟩ = some d) ∧
    (w.frozen? ⟨B, 0, none⟩ = false ∧ w.frozen? ⟨B, 1, none⟩ = false ∧ w.frozen? ⟨B, 2, none⟩ = false ∧ w.frozen? ⟨B, 3, none⟩ = false) := by
  refine ⟨⟨?_, ?_, ?_, ?_⟩, ?_, ?_, ?_, ?_⟩ <;> simp [World.cell?, World.frozen?, h]

theorem results_cell {P : Program} {fn : Func} {p : Tmp} {ty : TypeId} (h : fn.results = #[.cell p ty]) (tmps : Array Value) (w : World) (ad : Addr) (x : Value) (hp : tmps.getD p undef = .pointer (some ad)) (hl : (loadVar ty ad).run P w = .ok x w) :
    (results fn tmps).run P w = .ok x w := by
  rw [Array.getD_eq_getD_getElem?] at hp
  simp only [results, h]
  simp [hp, asAddr, hl]
theorem load_four {W : World} {B : Nat} {a b c d : Value} (h : W.heap[B]? = some (.cells #[a, b, c, d] 84 (0, 0))) : (loadVar 84 ⟨B, 0, none⟩).run Try.prog W = .ok (.agg #[a, b, c, d]) W := by
  obtain ⟨⟨k0, k1, k2, k3⟩, _⟩ := four_cells h
  have hu := Try.underlying84
  simp [loadVar, isAgg, run_underlying hu, go_sem, k0, k1, k2, k3]
theorem four_set0 {w : World} {B : Nat} {a b c d x : Value} (h : w.heap[B]? = some (.cells #[a, b, c, d] 84 (0, 0))) : (w.setCell ⟨B, 0, none⟩ x).heap[B]? = some (.cells #[x, b, c, d] 84 (0, 0)) := by
  rw [heap_setCell_same w B 0 _ 84 x h]; rfl
theorem four_set1 {w : World} {B : Nat} {a b c d x : Value} (h : w.heap[B]? = some (.cells #[a, b, c, d] 84 (0, 0))) : (w.setCell ⟨B, 1, none⟩ x).heap[B]? = some (.cells #[a, x, c, d] 84 (0, 0)) := by
  rw [heap_setCell_same w B 1 _ 84 x h]; rfl
theorem four_set2 {w : World} {B : Nat} {a b c d x : Value} (h : w.heap[B]? = some (.cells #[a, b, c, d] 84 (0, 0))) : (w.setCell ⟨B, 2, none⟩ x).heap[B]? = some (.cells #[a, b, x, d] 84 (0, 0)) := by
  rw [heap_setCell_same w B 2 _ 84 x h]; rfl
theorem four_set3 {w : World} {B : Nat} {a b c d x : Value} (h : w.heap[B]? = some (.cells #[a, b, c, d] 84 (0, 0))) : (w.setCell ⟨B, 3, none⟩ x).heap[B]? = some (.cells #[a, b, c, x] 84 (0, 0)) := by
  rw [heap_setCell_same w B 3 _ 84 x h]; rfl
theorem four_sets {w : World} {B : Nat} {a b c d x y z u : Value} (h : w.heap[B]? = some (.cells #[a, b, c, d] 84 (0, 0))) : ((((w.setCell ⟨B, 0, none⟩ x).setCell ⟨B, 1, none⟩ y).setCell ⟨B, 2, none⟩ z).setCell ⟨B, 3, none⟩ u).heap[B]? = some (.cells #[x, y, z, u] 84 (0, 0)) :=
  four_set3 (four_set2 (four_set1 (four_set0 h)))
theorem below_sets {n : Nat} {w0 w : World} {B : Nat} {x y z u : Value} (h : Below n w0 w) (hB : n ≤ B) : Below n w0 ((((w.setCell ⟨B, 0, none⟩ x).setCell ⟨B, 1, none⟩ y).setCell ⟨B, 2, none⟩ z).setCell ⟨B, 3, none⟩ u) :=
  (((h.setCell (p := ⟨B, 0, none⟩) hB _).setCell (p := ⟨B, 1, none⟩) hB _).setCell (p := ⟨B, 2, none⟩) hB _).setCell (p := ⟨B, 3, none⟩) hB _

set_option maxRecDepth 100000 in
set_option maxHeartbeats 4000000 in
theorem sum_any (a b c d : Nat) (ha : a < 256) (hb : b < 256) (hc : c < 256) (hd : d < 256) (w : World) :
    Calls Try.prog 60 #[tv a b c d] w fun e w' => e = .returned (.int .u8 (((a ^^^ b) ^^^ c) ^^^ d : Nat)) ∧ Below w.heap.size w w' := by
  have x0 : bits .xor .u8 0 (a : Int) = (a : Int) := by have := bits_xor_u8 (a := 0) (b := a) (by omega) ha; rw [Nat.zero_xor] at this; exact this
  have x1 := bits_xor_u8 ha hb
  have x2 := bits_xor_u8 (xor_lt ha hb) hc
  have x3 := bits_xor_u8 (xor_lt (xor_lt ha hb) hc) hd
  have i0 : ∀ w : World, (Instr.index 84 (.agg #[.int .u8 (a : Int), .int .u8 (b : Int), .int .u8 (c : Int), .int .u8 (d : Int)]) (.int .i64 0)).run Try.prog w = .ok (.int .u8 (a : Int)) w := fun _ => by kernel_rfl
  have i1 : ∀ w : World, (Instr.index 84 (.agg #[.int .u8 (a : Int), .int .u8 (b : Int), .int .u8 (c : Int), .int .u8 (d : Int)]) (.int .i64 1)).run Try.prog w = .ok (.int .u8 (b : Int)) w := fun _ => by kernel_rfl
  have i2 : ∀ w : World, (Instr.index 84 (.agg #[.int .u8 (a : Int), .int .u8 (b : Int), .int .u8 (c : Int), .int .u8 (d : Int)]) (.int .i64 2)).run Try.prog w = .ok (.int .u8 (c : Int)) w := fun _ => by kernel_rfl
  have i3 : ∀ w : World, (Instr.index 84 (.agg #[.int .u8 (a : Int), .int .u8 (b : Int), .int .u8 (c : Int), .int .u8 (d : Int)]) (.int .i64 3)).run Try.prog w = .ok (.int .u8 (d : Int)) w := fun _ => by kernel_rfl
  unfold tv
  go_enter Try.func60, Try.ntmps60
  have HB := hide ((Below.refl _ w).alloc (Nat.le_refl _) (.cells #[.int .u8 (a : Int), .int .u8 (b : Int), .int .u8 (c : Int), .int .u8 (d : Int)] 84))
  go_wp2
  go_loopw [3, 7] (fun p q wr => Below w.heap.size w wr ∧ ((p = .int .u8 0 ∧ q = .int .i64 0) ∨ (p = .int .u8 a ∧ q = .int .i64 1) ∨ (p = .int .u8 (a ^^^ b : Nat) ∧ q = .int .i64 2) ∨ (p = .int .u8 ((a ^^^ b) ^^^ c : Nat) ∧ q = .int .i64 3) ∨ (p = .int .u8 (((a ^^^ b) ^^^ c) ^^^ d : Nat) ∧ q = .int .i64 4))) (fun _ q _ => 4 - (intOf q).toNat)
  case atStart => exact ⟨unhide HB, .inl ⟨rfl, rfl⟩⟩
  case round =>
    obtain ⟨hK, hrel⟩ := hrel
    have HK := hide hK
    clear hK HB
    rcases hrel with ⟨rfl, rfl⟩ | ⟨rfl, rfl⟩ | ⟨rfl, rfl⟩ | ⟨rfl, rfl⟩ | ⟨rfl, rfl⟩
    · go_wp2
      go_roundw
      case rel => exact ⟨unhide HK, .inr (.inl ⟨rfl, rfl⟩)⟩
      case measure => simp [intOf]
    · go_wp2
      go_roundw
      case rel => exact ⟨unhide HK, .inr (.inr (.inl ⟨rfl, rfl⟩))⟩
      case measure => simp [intOf]
    · go_wp2
      go_roundw
      case rel => exact ⟨unhide HK, .inr (.inr (.inr (.inl ⟨rfl, rfl⟩)))⟩
      case measure => simp [intOf]
    · go_wp2
      go_roundw
      case rel => exact ⟨unhide HK, .inr (.inr (.inr (.inr ⟨rfl, rfl⟩)))⟩
      case measure => simp [intOf]
    · go_wp2
      go_ret
      exact ⟨rfl, unhide HK⟩

set_option maxRecDepth 100000 in
set_option maxHeartbeats 4000000 in
theorem locator_any (v : Value) (g : Nat) (s : List Nat) (w : World) (hA : Arg w v g s) (hl : s.length = 8) :
    Calls Try.prog 56 #[v] w fun e w' => e = .returned (tv (cub3 (cf s 0) (cf s 1) (cf s 2) (cf s 4)) (cub2 (cf s 0) (cf s 1) (cf s 2) (cf s 4)) (cf s 0) 1) ∧ Below w.heap.size w w' := by
  obtain ⟨⟨ao, c, rfl, hc1, hc2, hnil, hr⟩, hbs⟩ := hA
  obtain ⟨o, rfl⟩ := row_some hr (by omega)
  rw [hl]
  have c0 := (row_cell hr (j := 0) (by omega))
  have c1 := (row_cell hr (j := 1) (by omega))
  have c2 := (row_cell hr (j := 2) (by omega))
  have c4 := (row_cell hr (j := 4) (by omega))
  have hgl := block_lt_of_cell c0
  obtain ⟨s1, e1⟩ : ∃ x, cf s 0 = x := ⟨_, rfl⟩
  obtain ⟨s2, e2⟩ : ∃ x, cf s 1 = x := ⟨_, rfl⟩
  obtain ⟨s3, e3⟩ : ∃ x, cf s 2 = x := ⟨_, rfl⟩
  obtain ⟨s5, e5⟩ : ∃ x, cf s 4 = x := ⟨_, rfl⟩
  have l1 := hbs 0
  have l2 := hbs 1
  have l3 := hbs 2
  have l5 := hbs 4
  rw [e1] at c0 l1
  rw [e2] at c1 l2
  rw [e3] at c2 l3
  rw [e5] at c4 l5
  rw [e1, e2, e3, e5]
  have D : Below w.heap.size w (w.alloc (.cells #[.int .u8 0, .int .u8 0, .int .u8 0, .int .u8 0] 84)) := (Below.refl _ w).alloc (Nat.le_refl _) _
  have d0 := (D.cell (p := ⟨g, o + 0, none⟩) hgl).trans c0
  have d1 := (D.cell (p := ⟨g, o + 1, none⟩) hgl).trans c1
  have d2 := (D.cell (p := ⟨g, o + 2, none⟩) hgl).trans c2
  have d4 := (D.cell (p := ⟨g, o + 4, none⟩) hgl).trans c4
  rw [Nat.add_zero] at d0
  have HN := hide (World.alloc_heap_new w (.cells #[.int .u8 0, .int .u8 0, .int .u8 0, .int .u8 0] 84))
  have HD := hide D
  clear e1 e2 e3 e5 hr hnil c0 c1 c2 c4 D
  obtain ⟨w0, hw0⟩ : ∃ w0, w.alloc (.cells #[.int .u8 0, .int .u8 0, .int .u8 0, .int .u8 0] 84) = w0 := ⟨_, rfl⟩
  rw [hw0] at d0 d1 d2 d4 HN HD
  have x1 := bits_xor_u8 (gmul_lt (b := s2) l1) l3
  have x2 := bits_xor_u8 (gmul_lt (b := s3) l2) l5
  have x3 := bits_xor_u8 (gmul_lt (b := s1) (cub2_lt (s1 := s1) (s2 := s2) (s3 := s3) (s5 := s5) l2 l5)) (cubD_lt (s1 := s1) (s2 := s2) (s3 := s3) l1 l3)
  go_enter Try.func56, Try.ntmps56
  go_wp2_with fail
  go_quiet (fail)
  clear d0 d1 d2 d4 hw0
  have HD2 : Hid (Below w.heap.size w (w0.drewN nq)) := ⟨(unhide HD).os, (unhide HD).tape, (unhide HD).output, (unhide HD).size, (unhide HD).block⟩
  have HN2 : Hid ((w0.drewN nq).heap[w.heap.size]? = some (.cells #[.int .u8 0, .int .u8 0, .int .u8 0, .int .u8 0] 84 (0, 0))) := unhide HN
  clear HD HN
  obtain ⟨w1, hw1⟩ : ∃ w1, w0.drewN nq = w1 := ⟨_, rfl⟩
  rw [hw1] at HD2 HN2 ⊢
  clear hw1
  go_wp2_with fail
  refine (mul_any s1 s2 l1 l2 _).mono ?_
  rintro e w2 ⟨rfl, hk2⟩
  have HD3 := hide ((unhide HD2).trans (hk2.mono (unhide HD2).size))
  have HN3 := hide ((hk2.block _ (Array.getElem?_eq_some_iff.1 (unhide HN2)).1).trans (unhide HN2))
  clear hk2 HD2 HN2
  rw [show gmul s1 s2 ^^^ s3 = cubD s1 s2 s3 from rfl] at x1
  go_wp2_with fail
  refine (mul_any s2 s3 l2 l3 _).mono ?_
  rintro e w3 ⟨rfl, hk3⟩
  have HD4 := hide ((unhide HD3).trans (hk3.mono (unhide HD3).size))
  have HN4 := hide ((hk3.block _ (Array.getElem?_eq_some_iff.1 (unhide HN3)).1).trans (unhide HN3))
  clear hk3 HD3 HN3
  go_wp2_with fail
  refine (inv_any (cubD s1 s2 s3) (cubD_lt l1 l3) _).mono ?_
  rintro e w4 ⟨rfl, hk4⟩
  have HD5 := hide ((unhide HD4).trans (hk4.mono (unhide HD4).size))
  have HN5 := hide ((hk4.block _ (Array.getElem?_eq_some_iff.1 (unhide HN4)).1).trans (unhide HN4))
  clear hk4 HD4 HN4
  go_wp2_with fail
  refine (mul_any (gmul s2 s3 ^^^ s5) (pw (cubD s1 s2 s3) (-1)) (xor_lt (gmul_lt l2) l5) (pw_lt _ _) _).mono ?_
  rintro e w5 ⟨rfl, hk5⟩
  have HD6 := hide ((unhide HD5).trans (hk5.mono (unhide HD5).size))
  have HN6 := hide ((hk5.block _ (Array.getElem?_eq_some_iff.1 (unhide HN5)).1).trans (unhide HN5))
  clear hk5 HD5 HN5
  rw [show gmul (gmul s2 s3 ^^^ s5) (pw (cubD s1 s2 s3) (-1)) = cub2 s1 s2 s3 s5 from rfl]
  have y1 := cub2_lt (s1 := s1) (s2 := s2) (s3 := s3) (s5 := s5) l2 l5
  have y2 := cubD_lt (s1 := s1) (s2 := s2) (s3 := s3) l1 l3
  obtain ⟨c2, hc2⟩ : ∃ x, cub2 s1 s2 s3 s5 = x := ⟨_, rfl⟩
  have H3 : Hid (cub3 s1 s2 s3 s5 = gmul c2 s1 ^^^ cubD s1 s2 s3) := by show _ = _; rw [← hc2]; rfl
  rw [hc2] at x3 y1 ⊢
  have HC2 := hide hc2
  clear hc2
  go_wp2_with fail
  refine (mul_any c2 s1 y1 l1 _).mono ?_
  rintro e w6 ⟨rfl, hk6⟩
  have HD7 := hide ((unhide HD6).trans (hk6.mono (unhide HD6).size))
  have hN7 := ((hk6.block _ (Array.getElem?_eq_some_iff.1 (unhide HN6)).1).trans (unhide HN6))
  clear hk6 HD6 HN6
  obtain ⟨⟨k0, k1, k2, k3⟩, f0, f1, f2, f3⟩ := four_cells hN7
  have HN7 := hide hN7
  clear hN7
  go_wp2
  have h4 := four_sets (x := .int .u8 ((gmul c2 s1 ^^^ cubD s1 s2 s3 : Nat) : Int)) (y := .int .u8 (c2 : Int)) (z := .int .u8 (s1 : Int)) (u := .int .u8 1) (unhide HN7)
  have hB4 := below_sets (unhide HD7) (B := w.heap.size) (x := .int .u8 ((gmul c2 s1 ^^^ cubD s1 s2 s3 : Nat) : Int)) (y := .int .u8 (c2 : Int)) (z := .int .u8 (s1 : Int)) (u := .int .u8 1) (Nat.le_refl _)
  rw [unhide H3, unhide HC2]
  clear k0 k1 k2 k3 f0 f1 f2 f3
  generalize (((w6.setCell ⟨w.heap.size, 0, none⟩ (.int .u8 ((gmul c2 s1 ^^^ cubD s1 s2 s3 : Nat) : Int))).setCell ⟨w.heap.size, 1, none⟩ (.int .u8 (c2 : Int))).setCell ⟨w.heap.size, 2, none⟩ (.int .u8 (s1 : Int))).setCell ⟨w.heap.size, 3, none⟩ (.int .u8 1) = W at h4 hB4 ⊢
  refine bodyPost_ret (results_cell rfl _ _ ⟨w.heap.size, 0, none⟩ _ rfl (load_four h4)) rfl ?_
  exact ⟨rfl, hB4⟩

set_option maxRecDepth 100000 in
set_option maxHeartbeats 8000000 in
theorem doubled_any (a b c d : Nat) (ha : a < 256) (hb : b < 256) (hc : c < 256) (hd : d < 256) (w : World) :
    Calls Try.prog 58 #[tv a b c d] w fun e w' => e = .returned (tv (gmul a 1) (gmul b 2) (gmul c 4) (gmul d 8)) ∧ Below w.heap.size w w' := by
  unfold tv
  have HB : Hid (Below w.heap.size w ((w.alloc (.cells #[.int .u8 (a : Int), .int .u8 (b : Int), .int .u8 (c : Int), .int .u8 (d : Int)] 84)).alloc (.cells #[.int .u8 0, .int .u8 0, .int .u8 0, .int .u8 0] 84))) := ((Below.refl _ w).alloc (Nat.le_refl _) _).alloc (by simp) _
  have HC : Hid (((w.alloc (.cells #[.int .u8 (a : Int), .int .u8 (b : Int), .int .u8 (c : Int), .int .u8 (d : Int)] 84)).alloc (.cells #[.int .u8 0, .int .u8 0, .int .u8 0, .int .u8 0] 84)).heap[w.heap.size]? = some (.cells #[.int .u8 (a : Int), .int .u8 (b : Int), .int .u8 (c : Int), .int .u8 (d : Int)] 84 (0, 0))) := (Below.heap_alloc _ _ _ (by simp)).trans (World.alloc_heap_new w _)
  have HR : Hid (((w.alloc (.cells #[.int .u8 (a : Int), .int .u8 (b : Int), .int .u8 (c : Int), .int .u8 (d : Int)] 84)).alloc (.cells #[.int .u8 0, .int .u8 0, .int .u8 0, .int .u8 0] 84)).heap[w.heap.size + 1]? = some (.cells #[.int .u8 0, .int .u8 0, .int .u8 0, .int .u8 0] 84 (0, 0))) := by
    have h := World.alloc_heap_new (w.alloc (.cells #[.int .u8 (a : Int), .int .u8 (b : Int), .int .u8 (c : Int), .int .u8 (d : Int)] 84)) (.cells #[.int .u8 0, .int .u8 0, .int .u8 0, .int .u8 0] 84)
    rw [World.size_alloc] at h
    exact h
  go_enter Try.func58, Try.ntmps58
  go_wp2_with fail
  go_loopw [4] (fun q wr => (Below w.heap.size w wr ∧ wr.heap[w.heap.size + 1]? = some (.cells #[.int .u8 0, .int .u8 0, .int .u8 0, .int .u8 0] 84 (0, 0))) ∧ ((q = .int .i64 0 ∧ wr.heap[w.heap.size]? = some (.cells #[.int .u8 (a : Int), .int .u8 (b : Int), .int .u8 (c : Int), .int .u8 (d : Int)] 84 (0, 0))) ∨ (q = .int .i64 1 ∧ wr.heap[w.heap.size]? = some (.cells #[.int .u8 ((gmul a 1 : Nat) : Int), .int .u8 (b : Int), .int .u8 (c : Int), .int .u8 (d : Int)] 84 (0, 0))) ∨ (q = .int .i64 2 ∧ wr.heap[w.heap.size]? = some (.cells #[.int .u8 ((gmul a 1 : Nat) : Int), .int .u8 ((gmul b 2 : Nat) : Int), .int .u8 (c : Int), .int .u8 (d : Int)] 84 (0, 0))) ∨ (q = .int .i64 3 ∧ wr.heap[w.heap.size]? = some (.cells #[.int .u8 ((gmul a 1 : Nat) : Int), .int .u8 ((gmul b 2 : Nat) : Int), .int .u8 ((gmul c 4 : Nat) : Int), .int .u8 (d : Int)] 84 (0, 0))) ∨ (q = .int .i64 4 ∧ wr.heap[w.heap.size]? = some (.cells #[.int .u8 ((gmul a 1 : Nat) : Int), .int .u8 ((gmul b 2 : Nat) : Int), .int .u8 ((gmul c 4 : Nat) : Int), .int .u8 ((gmul d 8 : Nat) : Int)] 84 (0, 0))))) (fun q _ => 4 - (intOf q).toNat)
  case atStart => exact ⟨⟨unhide HB, unhide HR⟩, .inl ⟨rfl, unhide HC⟩⟩
  case round =>
    obtain ⟨⟨hK, hR⟩, hrel⟩ := hrel
    have HK := hide hK
    have HR1 := hide hR
    clear hK hR HB HC HR
    rcases hrel with ⟨rfl, h4⟩ | ⟨rfl, h4⟩ | ⟨rfl, h4⟩ | ⟨rfl, h4⟩ | ⟨rfl, h4⟩
    · have H4 := hide h4
      clear h4
      go_wp2_with fail
      refine wp_region_noPanic ?_
      refine wp_region_held_drew (S := fun W => Kp [w.heap.size] wr W) (by kernel_rfl) ((Kp.refl _ _).drew) (fun hHeld => ?_)
      have HH := hide hHeld
      clear hHeld
      refine takeL (i := 0) (v := ?_) rfl (by kernel_rfl) (by kernel_rfl) (by kernel_rfl) (fun _ _ _ h => h) (Or.inl ⟨by rfl, ?_⟩) (unhide HH) ?_
      rotate_left 1
      · intro W hSW; go_simp; all_goals (with_reducible rfl)
      (try simp only [Act.put, List.setIfInBounds_toArray, List.set_cons_zero, List.set_cons_succ])
      refine takeL (i := 1) (v := ?_) rfl (by kernel_rfl) (by kernel_rfl) (by kernel_rfl) (fun _ _ _ h => h) (Or.inl ⟨by rfl, ?_⟩) (unhide HH) ?_
      rotate_left 1
      · intro W hSW; go_simp; all_goals (with_reducible rfl)
      (try simp only [Act.put, List.setIfInBounds_toArray, List.set_cons_zero, List.set_cons_succ])
      refine takeL (i := 2) (v := ?_) rfl (by kernel_rfl) (by kernel_rfl) (by kernel_rfl) (fun _ _ _ h => h) (Or.inl ⟨by rfl, ?_⟩) (unhide HH) ?_
      rotate_left 1
      · intro W hSW; go_simp; all_goals (with_reducible rfl)
      (try simp only [Act.put, List.setIfInBounds_toArray, List.set_cons_zero, List.set_cons_succ])
      refine takeL (i := 4) (v := ?_) rfl (by kernel_rfl) (by kernel_rfl) (by kernel_rfl) (fun _ _ _ h => h) (Or.inl ⟨by rfl, ?_⟩) (unhide HH) ?_
      rotate_left 1
      · intro W hSW; go_simp; all_goals (with_reducible rfl)
      (try simp only [Act.put, List.setIfInBounds_toArray, List.set_cons_zero, List.set_cons_succ])
      refine takeL (i := 5) (v := ?_) rfl (by kernel_rfl) (by kernel_rfl) (by kernel_rfl) (fun _ _ _ h => h) (Or.inl ⟨by rfl, ?_⟩) (unhide HH) ?_
      rotate_left 1
      · intro W hSW; go_simp; all_goals (with_reducible rfl)
      (try simp only [Act.put, List.setIfInBounds_toArray, List.set_cons_zero, List.set_cons_succ])
      refine wpAnyH_ready (rs := [3]) (by kernel_rfl) (by simp) ?_
      refine consL rfl (fun K hK => ?_) AllReadyH.nil
      have hc4 : wr.drew.cell? ⟨w.heap.size, 0, none⟩ = some (.int .u8 (a : Int)) := by have h := (four_cells (unhide H4)).1; exact h.1
      go_simp
      refine hK.out _ _ (unhide HH) (fun hHeld => ?_)
      clear hK K HH
      have HH := hide hHeld
      clear hHeld
      (try simp only [Act.put, List.setIfInBounds_toArray, List.set_cons_zero, List.set_cons_succ])
      clear hc4
      refine wpAnyH_ready (rs := [6]) (by kernel_rfl) (by simp) ?_
      refine consL rfl (fun K hK => ?_) AllReadyH.nil
      go_simp
      refine (mul_any a 1 ha (by omega) _).mono ?_
      rintro e w4 ⟨rfl, hk4⟩
      have HK4 := hide hk4
      clear hk4
      go_wp2_with fail
      refine hK.out _ _ ((unhide HH).ofBelow (unhide HK4)) (fun hHeld => ?_)
      clear hK K HH
      have HH := hide hHeld
      clear hHeld
      (try simp only [Act.put, List.setIfInBounds_toArray, List.set_cons_zero, List.set_cons_succ])
      refine takeL (i := 7) (v := ?_) rfl (by kernel_rfl) (by kernel_rfl) (by kernel_rfl) (fun _ _ _ h => h) (Or.inl ⟨by rfl, ?_⟩) (unhide HH) ?_
      rotate_left 1
      · intro W hSW; go_simp; all_goals (with_reducible rfl)
      (try simp only [Act.put, List.setIfInBounds_toArray, List.set_cons_zero, List.set_cons_succ])
      refine wpAnyH_ready (rs := [8]) (by kernel_rfl) (by simp) ?_
      refine consL rfl (fun K hK => ?_) AllReadyH.nil
      have HH2 := HH
      have H44 := hide (((unhide HK4).block _ (Array.getElem?_eq_some_iff.1 (unhide H4)).1).trans (unhide H4))
      have H45 := hide (((unhide HK4).block _ (Array.getElem?_eq_some_iff.1 (unhide HR1)).1).trans (unhide HR1))
      have hc4 := (four_cells (unhide H44)).1.1
      have hf4 := (four_cells (unhide H44)).2.1
      go_simp
      refine hK.out _ _ ((unhide HH2).setCell ⟨w.heap.size, 0, none⟩ _ (.inl (by simp))) (fun hHeld => ?_)
      clear hHeld hK K hc4 hf4
      (try simp only [Act.put, List.setIfInBounds_toArray, List.set_cons_zero, List.set_cons_succ])
      refine wpAnyH_done (by kernel_rfl) ?_ _
      refine NoPanic.normal ?_
      go_wp2_with fail
      go_roundw
      case rel =>
        have hb := (unhide HK).size
        refine ⟨⟨(((unhide HK).drew.trans ((unhide HK4).mono hb)).setCell (p := ⟨w.heap.size, 0, none⟩) (Nat.le_refl _) _), (Below.heap_setCell _ _ _ _ (by simp)).trans (unhide H45)⟩, ?_⟩
        exact .inr (.inl ⟨rfl, four_set0 (unhide H44)⟩)
      case measure => simp [intOf]
    · have H4 := hide h4
      clear h4
      go_wp2_with fail
      refine wp_region_noPanic ?_
      refine wp_region_held_drew (S := fun W => Kp [w.heap.size] wr W) (by kernel_rfl) ((Kp.refl _ _).drew) (fun hHeld => ?_)
      have HH := hide hHeld
      clear hHeld
      refine takeL (i := 0) (v := ?_) rfl (by kernel_rfl) (by kernel_rfl) (by kernel_rfl) (fun _ _ _ h => h) (Or.inl ⟨by rfl, ?_⟩) (unhide HH) ?_
      rotate_left 1
      · intro W hSW; go_simp; all_goals (with_reducible rfl)
      (try simp only [Act.put, List.setIfInBounds_toArray, List.set_cons_zero, List.set_cons_succ])
      refine takeL (i := 1) (v := ?_) rfl (by kernel_rfl) (by kernel_rfl) (by kernel_rfl) (fun _ _ _ h => h) (Or.inl ⟨by rfl, ?_⟩) (unhide HH) ?_
      rotate_left 1
      · intro W hSW; go_simp; all_goals (with_reducible rfl)
      (try simp only [Act.put, List.setIfInBounds_toArray, List.set_cons_zero, List.set_cons_succ])
      refine takeL (i := 2) (v := ?_) rfl (by kernel_rfl) (by kernel_rfl) (by kernel_rfl) (fun _ _ _ h => h) (Or.inl ⟨by rfl, ?_⟩) (unhide HH) ?_
      rotate_left 1
      · intro W hSW; go_simp; all_goals (with_reducible rfl)
      (try simp only [Act.put, List.setIfInBounds_toArray, List.set_cons_zero, List.set_cons_succ])
      refine takeL (i := 4) (v := ?_) rfl (by kernel_rfl) (by kernel_rfl) (by kernel_rfl) (fun _ _ _ h => h) (Or.inl ⟨by rfl, ?_⟩) (unhide HH) ?_
      rotate_left 1
      · intro W hSW; go_simp; all_goals (with_reducible rfl)
      (try simp only [Act.put, List.setIfInBounds_toArray, List.set_cons_zero, List.set_cons_succ])
      refine takeL (i := 5) (v := ?_) rfl (by kernel_rfl) (by kernel_rfl) (by kernel_rfl) (fun _ _ _ h => h) (Or.inl ⟨by rfl, ?_⟩) (unhide HH) ?_
      rotate_left 1
      · intro W hSW; go_simp; all_goals (with_reducible rfl)
      (try simp only [Act.put, List.setIfInBounds_toArray, List.set_cons_zero, List.set_cons_succ])
      refine wpAnyH_ready (rs := [3]) (by kernel_rfl) (by simp) ?_
      refine consL rfl (fun K hK => ?_) AllReadyH.nil
      have hc4 : wr.drew.cell? ⟨w.heap.size, 1, none⟩ = some (.int .u8 (b : Int)) := by have h := (four_cells (unhide H4)).1; exact h.2.1
      go_simp
      refine hK.out _ _ (unhide HH) (fun hHeld => ?_)
      clear hK K HH
      have HH := hide hHeld
      clear hHeld
      (try simp only [Act.put, List.setIfInBounds_toArray, List.set_cons_zero, List.set_cons_succ])
      clear hc4
      refine wpAnyH_ready (rs := [6]) (by kernel_rfl) (by simp) ?_
      refine consL rfl (fun K hK => ?_) AllReadyH.nil
      go_simp
      refine (mul_any b 2 hb (by omega) _).mono ?_
      rintro e w4 ⟨rfl, hk4⟩
      have HK4 := hide hk4
      clear hk4
      go_wp2_with fail
      refine hK.out _ _ ((unhide HH).ofBelow (unhide HK4)) (fun hHeld => ?_)
      clear hK K HH
      have HH := hide hHeld
      clear hHeld
      (try simp only [Act.put, List.setIfInBounds_toArray, List.set_cons_zero, List.set_cons_succ])
      refine takeL (i := 7) (v := ?_) rfl (by kernel_rfl) (by kernel_rfl) (by kernel_rfl) (fun _ _ _ h => h) (Or.inl ⟨by rfl, ?_⟩) (unhide HH) ?_
      rotate_left 1
      · intro W hSW; go_simp; all_goals (with_reducible rfl)
      (try simp only [Act.put, List.setIfInBounds_toArray, List.set_cons_zero, List.set_cons_succ])
      refine wpAnyH_ready (rs := [8]) (by kernel_rfl) (by simp) ?_
      refine consL rfl (fun K hK => ?_) AllReadyH.nil
      have HH2 := HH
      have H44 := hide (((unhide HK4).block _ (Array.getElem?_eq_some_iff.1 (unhide H4)).1).trans (unhide H4))
      have H45 := hide (((unhide HK4).block _ (Array.getElem?_eq_some_iff.1 (unhide HR1)).1).trans (unhide HR1))
      have hc4 := (four_cells (unhide H44)).1.2.1
      have hf4 := (four_cells (unhide H44)).2.2.1
      go_simp
      refine hK.out _ _ ((unhide HH2).setCell ⟨w.heap.size, 1, none⟩ _ (.inl (by simp))) (fun hHeld => ?_)
      clear hHeld hK K hc4 hf4
      (try simp only [Act.put, List.setIfInBounds_toArray, List.set_cons_zero, List.set_cons_succ])
      refine wpAnyH_done (by kernel_rfl) ?_ _
      refine NoPanic.normal ?_
      go_wp2_with fail
      go_roundw
      case rel =>
        have hb := (unhide HK).size
        refine ⟨⟨(((unhide HK).drew.trans ((unhide HK4).mono hb)).setCell (p := ⟨w.heap.size, 1, none⟩) (Nat.le_refl _) _), (Below.heap_setCell _ _ _ _ (by simp)).trans (unhide H45)⟩, ?_⟩
        exact .inr (.inr (.inl ⟨rfl, four_set1 (unhide H44)⟩))
      case measure => simp [intOf]
    · have H4 := hide h4
      clear h4
      go_wp2_with fail
      refine wp_region_noPanic ?_
      refine wp_region_held_drew (S := fun W => Kp [w.heap.size] wr W) (by kernel_rfl) ((Kp.refl _ _).drew) (fun hHeld => ?_)
      have HH := hide hHeld
      clear hHeld
      refine takeL (i := 0) (v := ?_) rfl (by kernel_rfl) (by kernel_rfl) (by kernel_rfl) (fun _ _ _ h => h) (Or.inl ⟨by rfl, ?_⟩) (unhide HH) ?_
      rotate_left 1
      · intro W hSW; go_simp; all_goals (with_reducible rfl)
      (try simp only [Act.put, List.setIfInBounds_toArray, List.set_cons_zero, List.set_cons_succ])
      refine takeL (i := 1) (v := ?_) rfl (by kernel_rfl) (by kernel_rfl) (by kernel_rfl) (fun _ _ _ h => h) (Or.inl ⟨by rfl, ?_⟩) (unhide HH) ?_
      rotate_left 1
      · intro W hSW; go_simp; all_goals (with_reducible rfl)
      (try simp only [Act.put, List.setIfInBounds_toArray, List.set_cons_zero, List.set_cons_succ])
      refine takeL (i := 2) (v := ?_) rfl (by kernel_rfl) (by kernel_rfl) (by kernel_rfl) (fun _ _ _ h => h) (Or.inl ⟨by rfl, ?_⟩) (unhide HH) ?_
      rotate_left 1
      · intro W hSW; go_simp; all_goals (with_reducible rfl)
      (try simp only [Act.put, List.setIfInBounds_toArray, List.set_cons_zero, List.set_cons_succ])
      refine takeL (i := 4) (v := ?_) rfl (by kernel_rfl) (by kernel_rfl) (by kernel_rfl) (fun _ _ _ h => h) (Or.inl ⟨by rfl, ?_⟩) (unhide HH) ?_
      rotate_left 1
      · intro W hSW; go_simp; all_goals (with_reducible rfl)
      (try simp only [Act.put, List.setIfInBounds_toArray, List.set_cons_zero, List.set_cons_succ])
      refine takeL (i := 5) (v := ?_) rfl (by kernel_rfl) (by kernel_rfl) (by kernel_rfl) (fun _ _ _ h => h) (Or.inl ⟨by rfl, ?_⟩) (unhide HH) ?_
      rotate_left 1
      · intro W hSW; go_simp; all_goals (with_reducible rfl)
      (try simp only [Act.put, List.setIfInBounds_toArray, List.set_cons_zero, List.set_cons_succ])
      refine wpAnyH_ready (rs := [3]) (by kernel_rfl) (by simp) ?_
      refine consL rfl (fun K hK => ?_) AllReadyH.nil
      have hc4 : wr.drew.cell? ⟨w.heap.size, 2, none⟩ = some (.int .u8 (c : Int)) := by have h := (four_cells (unhide H4)).1; exact h.2.2.1
      go_simp
      refine hK.out _ _ (unhide HH) (fun hHeld => ?_)
      clear hK K HH
      have HH := hide hHeld
      clear hHeld
      (try simp only [Act.put, List.setIfInBounds_toArray, List.set_cons_zero, List.set_cons_succ])
      clear hc4
      refine wpAnyH_ready (rs := [6]) (by kernel_rfl) (by simp) ?_
      refine consL rfl (fun K hK => ?_) AllReadyH.nil
      go_simp
      refine (mul_any c 4 hc (by omega) _).mono ?_
      rintro e w4 ⟨rfl, hk4⟩
      have HK4 := hide hk4
      clear hk4
      go_wp2_with fail
      refine hK.out _ _ ((unhide HH).ofBelow (unhide HK4)) (fun hHeld => ?_)
      clear hK K HH
      have HH := hide hHeld
      clear hHeld
      (try simp only [Act.put, List.setIfInBounds_toArray, List.set_cons_zero, List.set_cons_succ])
      refine takeL (i := 7) (v := ?_) rfl (by kernel_rfl) (by kernel_rfl) (by kernel_rfl) (fun _ _ _ h => h) (Or.inl ⟨by rfl, ?_⟩) (unhide HH) ?_
      rotate_left 1
      · intro W hSW; go_simp; all_goals (with_reducible rfl)
      (try simp only [Act.put, List.setIfInBounds_toArray, List.set_cons_zero, List.set_cons_succ])
      refine wpAnyH_ready (rs := [8]) (by kernel_rfl) (by simp) ?_
      refine consL rfl (fun K hK => ?_) AllReadyH.nil
      have HH2 := HH
      have H44 := hide (((unhide HK4).block _ (Array.getElem?_eq_some_iff.1 (unhide H4)).1).trans (unhide H4))
      have H45 := hide (((unhide HK4).block _ (Array.getElem?_eq_some_iff.1 (unhide HR1)).1).trans (unhide HR1))
      have hc4 := (four_cells (unhide H44)).1.2.2.1
      have hf4 := (four_cells (unhide H44)).2.2.2.1
      go_simp
      refine hK.out _ _ ((unhide HH2).setCell ⟨w.heap.size, 2, none⟩ _ (.inl (by simp))) (fun hHeld => ?_)
      clear hHeld hK K hc4 hf4
      (try simp only [Act.put, List.setIfInBounds_toArray, List.set_cons_zero, List.set_cons_succ])
      refine wpAnyH_done (by kernel_rfl) ?_ _
      refine NoPanic.normal ?_
      go_wp2_with fail
      go_roundw
      case rel =>
        have hb := (unhide HK).size
        refine ⟨⟨(((unhide HK).drew.trans ((unhide HK4).mono hb)).setCell (p := ⟨w.heap.size, 2, none⟩) (Nat.le_refl _) _), (Below.heap_setCell _ _ _ _ (by simp)).trans (unhide H45)⟩, ?_⟩
        exact .inr (.inr (.inr (.inl ⟨rfl, four_set2 (unhide H44)⟩)))
      case measure => simp [intOf]
    · have H4 := hide h4
      clear h4
      go_wp2_with fail
      refine wp_region_noPanic ?_
      refine wp_region_held_drew (S := fun W => Kp [w.heap.size] wr W) (by kernel_rfl) ((Kp.refl _ _).drew) (fun hHeld => ?_)
      have HH := hide hHeld
      clear hHeld
      refine takeL (i := 0) (v := ?_) rfl (by kernel_rfl) (by kernel_rfl) (by kernel_rfl) (fun _ _ _ h => h) (Or.inl ⟨by rfl, ?_⟩) (unhide HH) ?_
      rotate_left 1
      · intro W hSW; go_simp; all_goals (with_reducible rfl)
      (try simp only [Act.put, List.setIfInBounds_toArray, List.set_cons_zero, List.set_cons_succ])
      refine takeL (i := 1) (v := ?_) rfl (by kernel_rfl) (by kernel_rfl) (by kernel_rfl) (fun _ _ _ h => h) (Or.inl ⟨by rfl, ?_⟩) (unhide HH) ?_
      rotate_left 1
      · intro W hSW; go_simp; all_goals (with_reducible rfl)
      (try simp only [Act.put, List.setIfInBounds_toArray, List.set_cons_zero, List.set_cons_succ])
      refine takeL (i := 2) (v := ?_) rfl (by kernel_rfl) (by kernel_rfl) (by kernel_rfl) (fun _ _ _ h => h) (Or.inl ⟨by rfl, ?_⟩) (unhide HH) ?_
      rotate_left 1
      · intro W hSW; go_simp; all_goals (with_reducible rfl)
      (try simp only [Act.put, List.setIfInBounds_toArray, List.set_cons_zero, List.set_cons_succ])
      refine takeL (i := 4) (v := ?_) rfl (by kernel_rfl) (by kernel_rfl) (by kernel_rfl) (fun _ _ _ h => h) (Or.inl ⟨by rfl, ?_⟩) (unhide HH) ?_
      rotate_left 1
      · intro W hSW; go_simp; all_goals (with_reducible rfl)
      (try simp only [Act.put, List.setIfInBounds_toArray, List.set_cons_zero, List.set_cons_succ])
      refine takeL (i := 5) (v := ?_) rfl (by kernel_rfl) (by kernel_rfl) (by kernel_rfl) (fun _ _ _ h => h) (Or.inl ⟨by rfl, ?_⟩) (unhide HH) ?_
      rotate_left 1
      · intro W hSW; go_simp; all_goals (with_reducible rfl)
      (try simp only [Act.put, List.setIfInBounds_toArray, List.set_cons_zero, List.set_cons_succ])
      refine wpAnyH_ready (rs := [3]) (by kernel_rfl) (by simp) ?_
      refine consL rfl (fun K hK => ?_) AllReadyH.nil
      have hc4 : wr.drew.cell? ⟨w.heap.size, 3, none⟩ = some (.int .u8 (d : Int)) := by have h := (four_cells (unhide H4)).1; exact h.2.2.2
      go_simp
      refine hK.out _ _ (unhide HH) (fun hHeld => ?_)
      clear hK K HH
      have HH := hide hHeld
      clear hHeld
      (try simp only [Act.put, List.setIfInBounds_toArray, List.set_cons_zero, List.set_cons_succ])
      clear hc4
      refine wpAnyH_ready (rs := [6]) (by kernel_rfl) (by simp) ?_
      refine consL rfl (fun K hK => ?_) AllReadyH.nil
      go_simp
      refine (mul_any d 8 hd (by omega) _).mono ?_
      rintro e w4 ⟨rfl, hk4⟩
      have HK4 := hide hk4
      clear hk4
      go_wp2_with fail
      refine hK.out _ _ ((unhide HH).ofBelow (unhide HK4)) (fun hHeld => ?_)
      clear hK K HH
      have HH := hide hHeld
      clear hHeld
      (try simp only [Act.put, List.setIfInBounds_toArray, List.set_cons_zero, List.set_cons_succ])
      refine takeL (i := 7) (v := ?_) rfl (by kernel_rfl) (by kernel_rfl) (by kernel_rfl) (fun _ _ _ h => h) (Or.inl ⟨by rfl, ?_⟩) (unhide HH) ?_
      rotate_left 1
      · intro W hSW; go_simp; all_goals (with_reducible rfl)
      (try simp only [Act.put, List.setIfInBounds_toArray, List.set_cons_zero, List.set_cons_succ])
      refine wpAnyH_ready (rs := [8]) (by kernel_rfl) (by simp) ?_
      refine consL rfl (fun K hK => ?_) AllReadyH.nil
      have HH2 := HH
      have H44 := hide (((unhide HK4).block _ (Array.getElem?_eq_some_iff.1 (unhide H4)).1).trans (unhide H4))
      have H45 := hide (((unhide HK4).block _ (Array.getElem?_eq_some_iff.1 (unhide HR1)).1).trans (unhide HR1))
      have hc4 := (four_cells (unhide H44)).1.2.2.2
      have hf4 := (four_cells (unhide H44)).2.2.2.2
      go_simp
      refine hK.out _ _ ((unhide HH2).setCell ⟨w.heap.size, 3, none⟩ _ (.inl (by simp))) (fun hHeld => ?_)
      clear hHeld hK K hc4 hf4
      (try simp only [Act.put, List.setIfInBounds_toArray, List.set_cons_zero, List.set_cons_succ])
      refine wpAnyH_done (by kernel_rfl) ?_ _
      refine NoPanic.normal ?_
      go_wp2_with fail
      go_roundw
      case rel =>
        have hb := (unhide HK).size
        refine ⟨⟨(((unhide HK).drew.trans ((unhide HK4).mono hb)).setCell (p := ⟨w.heap.size, 3, none⟩) (Nat.le_refl _) _), (Below.heap_setCell _ _ _ _ (by simp)).trans (unhide H45)⟩, ?_⟩
        exact .inr (.inr (.inr (.inr (⟨rfl, four_set3 (unhide H44)⟩))))
      case measure => simp [intOf]
    · obtain ⟨⟨k0, k1, k2, k3⟩, _⟩ := four_cells h4
      obtain ⟨⟨m0, m1, m2, m3⟩, f0, f1, f2, f3⟩ := four_cells (unhide HR1)
      go_wp2
      have hR2 := four_sets (x := .int .u8 ((gmul a 1 : Nat) : Int)) (y := .int .u8 ((gmul b 2 : Nat) : Int)) (z := .int .u8 ((gmul c 4 : Nat) : Int)) (u := .int .u8 ((gmul d 8 : Nat) : Int)) (unhide HR1)
      have hB4 := below_sets (unhide HK) (B := w.heap.size + 1) (x := .int .u8 ((gmul a 1 : Nat) : Int)) (y := .int .u8 ((gmul b 2 : Nat) : Int)) (z := .int .u8 ((gmul c 4 : Nat) : Int)) (u := .int .u8 ((gmul d 8 : Nat) : Int)) (by omega)
      clear k0 k1 k2 k3 m0 m1 m2 m3 f0 f1 f2 f3 h4
      generalize (((wr.setCell ⟨w.heap.size + 1, 0, none⟩ (.int .u8 ((gmul a 1 : Nat) : Int))).setCell ⟨w.heap.size + 1, 1, none⟩ (.int .u8 ((gmul b 2 : Nat) : Int))).setCell ⟨w.heap.size + 1, 2, none⟩ (.int .u8 ((gmul c 4 : Nat) : Int))).setCell ⟨w.heap.size + 1, 3, none⟩ (.int .u8 ((gmul d 8 : Nat) : Int)) = W at hR2 hB4 ⊢
      refine bodyPost_ret (results_cell rfl _ _ ⟨w.heap.size + 1, 0, none⟩ _ rfl (load_four hR2)) rfl ?_
      exact ⟨rfl, hB4⟩

end Go.Proofs.Ytkhpoomajebgoaa
