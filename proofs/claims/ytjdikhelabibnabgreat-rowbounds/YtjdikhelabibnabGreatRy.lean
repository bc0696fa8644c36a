/-
  A range over a function whose iterator keeps cells of its own, or is itself a range over a function: and whose rounds keep what they own; its rounds all go on.
-/
import Derived.Test.YtjdikhelabibnabGreatRnd
import Derived.Test.YtjdikhelabibnabGreatCore
import Derived.RangeFuncNested
import Derived.RangeFuncWrites
import Derived.RangeFuncBound
namespace Go.Proofs.YtjdikhelabibnabGreat
open Go Go.RowKit
section
variable {P : Program}

/-- All blocks but those from n up to m lie as they lay. -/
structure Ka (n m : Nat) (A B : World) : Prop where
  os : B.os = A.os
  tape : B.tape = A.tape
  output : B.output = A.output
  size : A.heap.size ≤ B.heap.size
  block : ∀ k, k < A.heap.size → ¬ (n ≤ k ∧ k < m) → B.heap[k]? = A.heap[k]?
theorem Ka.refl (n m : Nat) (A : World) : Ka n m A A := ⟨rfl, rfl, rfl, Nat.le_refl _, fun _ _ _ => rfl⟩
theorem Ka.trans {n m : Nat} {A B C : World} (h : Ka n m A B) (k : Ka n m B C) : Ka n m A C :=
  ⟨k.os.trans h.os, k.tape.trans h.tape, k.output.trans h.output, Nat.le_trans h.size k.size, fun i hi hn => (k.block i (Nat.lt_of_lt_of_le hi h.size) hn).trans (h.block i hi hn)⟩
theorem Ka.mono {n m n' m' : Nat} {A B : World} (h : Ka n m A B) (h1 : n' ≤ n) (h2 : m ≤ m') : Ka n' m' A B := ⟨h.os, h.tape, h.output, h.size, fun k hk hn => h.block k hk (fun hh => hn ⟨by omega, by omega⟩)⟩
theorem Ka.of_below {n m : Nat} {A B : World} (h : Below A.heap.size A B) : Ka n m A B := ⟨h.os, h.tape, h.output, h.size, fun k hk _ => h.block k hk⟩
theorem Ka.set {n m : Nat} (A : World) {p : Addr} (u : Value) (h1 : n ≤ p.block) (h2 : p.block < m) : Ka n m A (A.setCell p u) :=
  ⟨rfl, rfl, rfl, by simp [World.setCell], fun k _ hn => Below.heap_setCell _ _ _ _ (fun e => by subst e; exact hn ⟨h1, h2⟩)⟩
theorem Ka.put {n m : Nat} (A : World) {l : Nat} (o : Obj) (h1 : n ≤ l) (h2 : l < m) : Ka n m A (A.putObj l o) :=
  ⟨rfl, rfl, rfl, by simp, fun k _ hn => World.putObj_heap_other (fun e => by subst e; exact hn ⟨h1, h2⟩)⟩
theorem Ka.below {n m : Nat} {A B : World} (h : Ka n m A B) (hn : n ≤ A.heap.size) : Below n A B := ⟨h.os, h.tape, h.output, h.size, fun k hk => h.block k (by omega) (by omega)⟩
theorem Ka.cell {n m : Nat} {A B : World} (h : Ka n m A B) {p : Addr} {v : Value} (hc : A.cell? p = some v) (hp : ¬ (n ≤ p.block ∧ p.block < m)) : B.cell? p = some v :=
  (World.cell?_of_block (h.block p.block (block_lt_of_cell hc) hp)).trans hc

/-- The blocks from n up to m, and those that T names, lie as they lay. -/
structure Ky (T : Nat → Prop) (n m : Nat) (A B : World) : Prop where
  size : A.heap.size ≤ B.heap.size
  block : ∀ k, k < A.heap.size → ((n ≤ k ∧ k < m) ∨ T k) → B.heap[k]? = A.heap[k]?
theorem Ky.refl (T : Nat → Prop) (n m : Nat) (A : World) : Ky T n m A A := ⟨Nat.le_refl _, fun _ _ _ => rfl⟩
theorem Ky.trans {T : Nat → Prop} {n m : Nat} {A B C : World} (h : Ky T n m A B) (k : Ky T n m B C) : Ky T n m A C :=
  ⟨Nat.le_trans h.size k.size, fun i hi hn => (k.block i (Nat.lt_of_lt_of_le hi h.size) hn).trans (h.block i hi hn)⟩
theorem Ky.mono {T U : Nat → Prop} {n m n' m' : Nat} {A B : World} (h : Ky T n m A B) (hm : ∀ k, (n' ≤ k ∧ k < m') ∨ U k → (n ≤ k ∧ k < m) ∨ T k) : Ky U n' m' A B := ⟨h.size, fun k hk hn => h.block k hk (hm k hn)⟩
theorem Ky.of_below {T : Nat → Prop} {n m : Nat} {A B : World} (h : Below A.heap.size A B) : Ky T n m A B := ⟨h.size, fun k hk _ => h.block k hk⟩
theorem Ky.drew {T : Nat → Prop} {n m : Nat} {A B : World} (h : Ky T n m A B) : Ky T n m A B.drew := ⟨h.size, h.block⟩
theorem Ky.set {T : Nat → Prop} {n m : Nat} (A : World) {p : Addr} (u : Value) (h : ¬ ((n ≤ p.block ∧ p.block < m) ∨ T p.block)) : Ky T n m A (A.setCell p u) :=
  ⟨by simp [World.setCell], fun k _ hn => Below.heap_setCell _ _ _ _ (fun e => by subst e; exact h hn)⟩
theorem Ky.put {T : Nat → Prop} {n m : Nat} (A : World) {l : Nat} (o : Obj) (h : ¬ ((n ≤ l ∧ l < m) ∨ T l)) : Ky T n m A (A.putObj l o) :=
  ⟨by simp, fun k _ hn => World.putObj_heap_other (fun e => by subst e; exact h hn)⟩
theorem Ky.grown {T : Nat → Prop} {n m : Nat} {A B : World} {row : Option Nat} (h : A.grownBy B row) (hr : ∀ k, row = some k → ¬ ((n ≤ k ∧ k < m) ∨ T k)) : Ky T n m A B :=
  ⟨h.size, fun k hk hn => h.block k hk (fun e => hr k e.symm hn)⟩
theorem Ky.cell {T : Nat → Prop} {n m : Nat} {A B : World} (h : Ky T n m A B) {p : Addr} {v : Value} (hc : A.cell? p = some v) (hp : (n ≤ p.block ∧ p.block < m) ∨ T p.block) : B.cell? p = some v :=
  (World.cell?_of_block (h.block p.block (block_lt_of_cell hc) hp)).trans hc

theorem below_put {n l : Nat} (A : World) (o : Obj) (h : n ≤ l) : Below n A (A.putObj l o) :=
  ⟨rfl, rfl, rfl, by simp, fun k hk => World.putObj_heap_other (by omega)⟩

theorem round_any {m m' : Nat} {l : Nat} {f : FuncId} {tmps : Array Value} {assign body : Code} {w : World} {R : Ending → World → Prop}
    (h : RoundIn Fence.wide m P l f tmps assign body w R) : RoundIn Fence.wide m' P l f tmps assign body w R := ⟨h.1, fun c cs _ => h.2 c cs (fun d hd => by cases hd)⟩
theorem round_in {m : Nat} {l l' : Nat} {f : FuncId} {tmps : Array Value} {assign body : Code} {w : World} {R : Ending → World → Prop}
    (h : RoundIn Fence.wide m P l f tmps assign body w R) : RoundIn (Fence.wide.inRound l') m P l f tmps assign body w R := h

/-- The iterator's word: it lays D blocks ahead of its rounds, and changes no others; every round goes on, and keeps these and those of T; then all have come. -/
def SeqY {α : Type} (P : Program) (g : Nat) (lb : Array Value) (encs : α → Array Value) (T : Nat → Prop) (D : Nat) (S : List α → Prop) (N : Nat) (w : World) : Prop :=
  ∀ (l : Nat) (J : List α → World → Prop) (W : World), Below w.heap.size w W → (∀ s A B, J s A → Ka W.heap.size (W.heap.size + D) A B → J s B) →
    (∀ pre x W1, J pre W1 → pre.length < N → W.heap.size + D ≤ W1.heap.size → YieldAt Fence.wide 0 P l (encs x) W1 fun e W' => e = .returned (.bool true) ∧ J (pre ++ [x]) W' ∧ Ky T W.heap.size (W.heap.size + D) W1 W') →
    J [] W →
    ∀ n, CallsIn Fence.wide n P g (#[.func (.yield l) #[] #[]] ++ lb) W fun e W' => (∃ v, e = .returned v) ∧ ∃ xs, S xs ∧ J xs W'

/-- How the body of a round is left. -/
def postY {α : Type} (B : Nat) (T : Nat → Prop) (D : Nat) (I : List α → World → Prop) (xs : List α) (W : World) : Exit → Act → World → Prop
  | .normal, _, W' => Ky T B (B + 2 + D) W W' ∧ I xs W'
  | _, _, _ => False

/-- **The statement.** -/
theorem wpIn_range_y {α : Type} {n : Nat} {g : Operand} {ps : Array Tmp} {assign body : Code} {Q : Exit → Act → World → Prop} {a : Act} {w : World}
    {gf : Nat} {lb : Array Value} (hg : a.eval g = .func (.func gf) #[] lb) (eg : ∀ args w, (callFunc gf args).run P w = .ok (.enter gf args) w)
    {encs : α → Array Value} {T : Nat → Prop} {D₀ : Nat} {S : List α → Prop} {N : Nat} (hseq : SeqY P gf lb encs T D₀ S N w) (hT : ∀ k, T k → k < w.heap.size) (hps : ∀ x, (encs x).size = ps.size)
    (I : List α → World → Prop) (hI : ∀ s A B, I s A → Ka w.heap.size (w.heap.size + 2 + D₀) A B → I s B) (h0 : I [] w)
    (hround : ∀ (l : Nat) (pre : List α) (x : α) (W : World), I pre W → pre.length < N → w.heap.size + 2 + D₀ ≤ W.heap.size →
      assign.wpIn (Fence.wide.inRound l) 0 P (Exit.then (fun a₁ W₁ => (Ky T w.heap.size (w.heap.size + 2 + D₀) W W₁ ∧ I pre W₁) ∧
        ∀ W₂, W₂.heap.size = W₁.heap.size → Below w.heap.size W₁ W₂ → (∀ k, k ≠ w.heap.size + 1 → W₂.heap[k]? = W₁.heap[k]?) → I pre W₂ → body.wpIn (Fence.wide.inRound l) 0 P (postY w.heap.size T D₀ I (pre ++ [x]) W₂) a₁ W₂) (fun _ _ _ => False))
        { tmps := (ps.zip (encs x)).foldl (fun t (p, v) => t.setIfInBounds p v) a.tmps, defers := [] } W)
    (hdone : ∀ (D : Nat) (xs : List α) (W : World), w.heap.size ≤ D → D < w.heap.size + 1 → S xs → I xs W → W.heap[D]? = some (.deferred (some [])) → Q .normal { a with defers := { target := .collected D, args := #[] } :: a.defers } W) :
    (Code.rangeFunc g ps assign body).wpIn Fence.wide n P Q a w := by
  refine wpIn_rangeFunc (fun fn hfn => ?_)
  -- the record in its three states, the world with both blocks laid
  let R : LoopState → Option Code → Loop := fun st pe => { state := st, pending := pe, fn, tmps := a.tmps, params := ps, assign, body, defers := w.heap.size }
  let V : World := (w.alloc (.deferred (some []))).alloc (.loop (R .ready none))
  have hs : V.heap.size = w.heap.size + 2 := by simp [V]
  have hL : V.heap[w.heap.size + 1]? = some (.loop (R .ready none)) := by
    have := World.alloc_heap_new (w.alloc (.deferred (some []))) (.loop (R .ready none))
    rwa [World.size_alloc] at this
  have hD : V.heap[w.heap.size]? = some (.deferred (some [])) := (Below.heap_alloc _ _ _ (by simp)).trans (World.alloc_heap_new w _)
  have hV : Below w.heap.size w V := ((Below.refl _ w).alloc (Nat.le_refl _) _).alloc (by simp) _
  refine ⟨w.heap.size + 1, [{ target := .collected w.heap.size, args := #[] }], V, { target := .fn (.func gf) lb, args := #[.func (.yield (w.heap.size + 1)) #[] #[]] }, V, gf,
    #[.func (.yield (w.heap.size + 1)) #[] #[]] ++ lb, V, run_enterLoop_outer _ _ _ _ _, ?_, fun _ _ => trivial, ?_, fun h => absurd h (by simp [Fence.wide]), ?_⟩
  · simp only [resolve, hg]
    simp [go_sem]
  · simp [invoke, go_sem, eg]
  have hnT : ¬ T (w.heap.size + 1) := fun h => by have := hT _ h; omega
  have hVa : Ka w.heap.size (w.heap.size + 2 + D₀) w V := ⟨hV.os, hV.tape, hV.output, hV.size, fun k hk _ => hV.block k hk⟩
  refine (hseq (w.heap.size + 1) (fun pre W => I pre W ∧ W.heap[w.heap.size + 1]? = some (.loop (R .ready none)) ∧ W.heap[w.heap.size]? = some (.deferred (some [])) ∧ w.heap.size + 2 ≤ W.heap.size) V hV
    (fun s A B hJ hb => ⟨hI s A B hJ.1 (hb.mono (by omega) (by omega)), (hb.block _ (by have := hJ.2.2.2; omega) (by omega)).trans hJ.2.1, (hb.block _ (by have := hJ.2.2.2; omega) (by omega)).trans hJ.2.2.1, Nat.le_trans hJ.2.2.2 hb.size⟩)
    ?_ ⟨hI _ _ _ h0 hVa, hL, hD, by omega⟩ _).mono ?_
  · rintro pre x W ⟨hi, hl, hd, hsz⟩ hlen hszD
    refine ⟨fn, _, assign, body, run_yield (P := P) (args := encs x) hl (hps x), roundIn_of_wpIn hfn ?_⟩
    refine wpIn_mono (hround _ pre x W hi hlen (by omega)) ?_
    rintro e a₁ W₁ hp
    cases e with
    | normal =>
      obtain ⟨⟨hx1, hi1⟩, hbody⟩ := hp
      have hz1 := hx1.size
      have hl1 := (hx1.block (w.heap.size + 1) (by omega) (.inl ⟨by omega, by omega⟩)).trans hl
      have hd1 := (hx1.block w.heap.size (by omega) (.inl ⟨by omega, by omega⟩)).trans hd
      have hlt1 := (Array.getElem?_eq_some_iff.1 hl1).1
      refine ⟨_, run_beginRound hl1 rfl, ?_⟩
      have hl2 : (W₁.putObj (w.heap.size + 1) (.loop { R .ready none with state := .busy })).heap[w.heap.size + 1]? = some (.loop { R .ready none with state := .busy }) := World.putObj_heap_same hlt1
      have hd2 : (W₁.putObj (w.heap.size + 1) (.loop { R .ready none with state := .busy })).heap[w.heap.size]? = some (.deferred (some [])) := (World.putObj_heap_other (by omega)).trans hd1
      have hb2 : Below w.heap.size W₁ (W₁.putObj (w.heap.size + 1) (.loop { R .ready none with state := .busy })) := below_put _ _ (by omega)
      refine wpIn_mono (hbody _ (by simp) hb2 (fun k hk => World.putObj_heap_other hk) (hI _ _ _ hi1 (Ka.put _ _ (by omega) (by omega)))) ?_
      rintro e a₂ W₃ hp
      cases e with
      | normal =>
        obtain ⟨hx3, hi3⟩ := hp
        have hl3 := (hx3.block (w.heap.size + 1) (by simp; omega) (.inl ⟨by omega, by omega⟩)).trans hl2
        have hd3 := (hx3.block w.heap.size (by simp; omega) (.inl ⟨by omega, by omega⟩)).trans hd2
        have hlt3 := (Array.getElem?_eq_some_iff.1 hl3).1
        have hnk : ¬ ((V.heap.size ≤ w.heap.size + 1 ∧ w.heap.size + 1 < V.heap.size + D₀) ∨ T (w.heap.size + 1)) := fun h => by rcases h with h | h; omega; exact hnT h
        have hmo : ∀ {A B : World}, Ky T w.heap.size (w.heap.size + 2 + D₀) A B → Ky T V.heap.size (V.heap.size + D₀) A B := fun h => h.mono (fun k hk => by rcases hk with hk | hk; exact .inl ⟨by omega, by omega⟩; exact .inr hk)
        have hx : Ky T V.heap.size (V.heap.size + D₀) W W₃ := ((hmo hx1).trans (Ky.put _ _ hnk)).trans (hmo hx3)
        refine ⟨_, _, run_endRound none hl3, rfl, ⟨hI _ _ _ hi3 (Ka.put _ _ (by omega) (by omega)), World.putObj_heap_same hlt3, (World.putObj_heap_other (by omega)).trans hd3, ?_⟩, hx.trans (Ky.put _ _ hnk)⟩
        have := hx.size
        simp
        omega
      | ret => exact hp.elim
      | exit id => exact hp.elim
      | goto t => exact hp.elim
      | panic ch => exact hp.elim
      | outgrown => exact hp.elim
    | ret => exact hp.elim
    | exit id => exact hp.elim
    | goto t => exact hp.elim
    | panic ch => exact hp.elim
    | outgrown => exact hp.elim
  · rintro e W₂ ⟨⟨v, rfl⟩, xs, hS, hi, hl, hd, _⟩
    exact ⟨none, _, run_endLoop hl (by simp [R]), hdone _ xs _ (Nat.le_refl _) (Nat.lt_succ_self _) hS (hI _ _ _ hi (Ka.put _ _ (by omega) (by omega))) ((World.putObj_heap_other (by omega)).trans hd)⟩
end
end Go.Proofs.YtjdikhelabibnabGreat
