/-
  A range over a function whose iterator makes rows of its own, round by round, and has them kept.
-/
import Derived.Test.YtnhhemecfcljbaaRy
namespace Go.Proofs.Ytnhhemecfcljbaa
open Go Go.RowKit
section
variable {P : Program}

/-- The blocks from n up to m, and those that T names (by their numbers, or by what lies in them), lie as they lay. -/
structure Kt (T : Nat → Option Obj → Prop) (n m : Nat) (A B : World) : Prop where
  size : A.heap.size ≤ B.heap.size
  block : ∀ k, k < A.heap.size → ((n ≤ k ∧ k < m) ∨ T k A.heap[k]?) → B.heap[k]? = A.heap[k]?
theorem Kt.refl (T : Nat → Option Obj → Prop) (n m : Nat) (A : World) : Kt T n m A A := ⟨Nat.le_refl _, fun _ _ _ => rfl⟩
theorem Kt.trans {T : Nat → Option Obj → Prop} {n m : Nat} {A B C : World} (h : Kt T n m A B) (k : Kt T n m B C) : Kt T n m A C :=
  ⟨Nat.le_trans h.size k.size, fun i hi hn => (k.block i (Nat.lt_of_lt_of_le hi h.size) (by rw [h.block i hi hn]; exact hn)).trans (h.block i hi hn)⟩
theorem Kt.mono {T U : Nat → Option Obj → Prop} {n m n' m' : Nat} {A B : World} (h : Kt T n m A B) (hm : ∀ k, (n' ≤ k ∧ k < m') ∨ U k A.heap[k]? → (n ≤ k ∧ k < m) ∨ T k A.heap[k]?) : Kt U n' m' A B := ⟨h.size, fun k hk hn => h.block k hk (hm k hn)⟩
theorem Kt.of_below {T : Nat → Option Obj → Prop} {n m : Nat} {A B : World} (h : Below A.heap.size A B) : Kt T n m A B := ⟨h.size, fun k hk _ => h.block k hk⟩
theorem Kt.drew {T : Nat → Option Obj → Prop} {n m : Nat} {A B : World} (h : Kt T n m A B) : Kt T n m A B.drew := ⟨h.size, h.block⟩
theorem Kt.set {T : Nat → Option Obj → Prop} {n m : Nat} (A : World) {p : Addr} (u : Value) (h : ¬ ((n ≤ p.block ∧ p.block < m) ∨ T p.block A.heap[p.block]?)) : Kt T n m A (A.setCell p u) :=
  ⟨by simp [World.setCell], fun k _ hn => Below.heap_setCell _ _ _ _ (fun e => by subst e; exact h hn)⟩
theorem Kt.put {T : Nat → Option Obj → Prop} {n m : Nat} (A : World) {l : Nat} (o : Obj) (h : ¬ ((n ≤ l ∧ l < m) ∨ T l A.heap[l]?)) : Kt T n m A (A.putObj l o) :=
  ⟨by simp, fun k _ hn => World.putObj_heap_other (fun e => by subst e; exact h hn)⟩
theorem Kt.grown {T : Nat → Option Obj → Prop} {n m : Nat} {A B : World} {row : Option Nat} (h : A.grownBy B row) (hr : ∀ k, row = some k → ¬ ((n ≤ k ∧ k < m) ∨ T k A.heap[k]?)) : Kt T n m A B :=
  ⟨h.size, fun k hk hn => h.block k hk (fun e => hr k e.symm hn)⟩
theorem Kt.cell {T : Nat → Option Obj → Prop} {n m : Nat} {A B : World} (h : Kt T n m A B) {p : Addr} {v : Value} (hc : A.cell? p = some v) (hp : (n ≤ p.block ∧ p.block < m) ∨ T p.block A.heap[p.block]?) : B.cell? p = some v :=
  (World.cell?_of_block (h.block p.block (block_lt_of_cell hc) hp)).trans hc

/-- The iterator's word: it lays D blocks ahead of its rounds, and changes no others; every round goes on, and keeps these and those of T; then all have come. -/
def SeqT {α : Type} (P : Program) (g : Nat) (lb : Array Value) (encs : α → Array Value) (T : Nat → Option Obj → Prop) (D : Nat) (S : Nat → List α → World → Prop) (N : Nat) (w : World) : Prop :=
  ∀ (l : Nat) (J : List α → World → Prop) (W : World), Below w.heap.size w W → (∀ s A B, J s A → Ka W.heap.size (W.heap.size + D) A B → J s B) →
    (∀ pre x W1, J pre W1 → pre.length < N → W.heap.size + D ≤ W1.heap.size → YieldAt Fence.wide 0 P l (encs x) W1 fun e W' => e = .returned (.bool true) ∧ J (pre ++ [x]) W' ∧ Kt T W.heap.size (W.heap.size + D) W1 W') →
    J [] W →
    ∀ n, CallsIn Fence.wide n P g (#[.func (.yield l) #[] #[]] ++ lb) W fun e W' => (∃ v, e = .returned v) ∧ ∃ xs, S W.heap.size xs W' ∧ J xs W'

/-- How the body of a round is left. -/
def postT {α : Type} (B : Nat) (T : Nat → Option Obj → Prop) (D : Nat) (I : List α → World → Prop) (xs : List α) (W : World) : Exit → Act → World → Prop
  | .normal, _, W' => Kt T B (B + 2 + D) W W' ∧ I xs W'
  | _, _, _ => False

/-- **The statement.** -/
theorem wpIn_range_t {α : Type} {n : Nat} {g : Operand} {ps : Array Tmp} {assign body : Code} {Q : Exit → Act → World → Prop} {a : Act} {w : World}
    {gf : Nat} {lb : Array Value} (hg : a.eval g = .func (.func gf) #[] lb) (eg : ∀ args w, (callFunc gf args).run P w = .ok (.enter gf args) w)
    {encs : α → Array Value} {T : Nat → Option Obj → Prop} {D₀ : Nat} {S : Nat → List α → World → Prop} {N : Nat} (hseq : SeqT P gf lb encs T D₀ S N w) (hT : ∀ k r, T k (some (.loop r)) → k < w.heap.size)
    (hSt : ∀ b xs A B, S b xs A → (∀ k, b ≤ k → k < A.heap.size → B.heap[k]? = A.heap[k]?) → S b xs B) (hps : ∀ x, (encs x).size = ps.size)
    (I : List α → World → Prop) (hI : ∀ s A B, I s A → Ka w.heap.size (w.heap.size + 2 + D₀) A B → I s B) (h0 : I [] w)
    (hround : ∀ (l : Nat) (pre : List α) (x : α) (W : World), I pre W → pre.length < N → w.heap.size + 2 + D₀ ≤ W.heap.size →
      assign.wpIn (Fence.wide.inRound l) 0 P (Exit.then (fun a₁ W₁ => (Kt T w.heap.size (w.heap.size + 2 + D₀) W W₁ ∧ I pre W₁) ∧
        ∀ W₂, W₂.heap.size = W₁.heap.size → Below w.heap.size W₁ W₂ → (∀ k, k ≠ w.heap.size + 1 → W₂.heap[k]? = W₁.heap[k]?) → I pre W₂ → body.wpIn (Fence.wide.inRound l) 0 P (postT w.heap.size T D₀ I (pre ++ [x]) W₂) a₁ W₂) (fun _ _ _ => False))
        { tmps := (ps.zip (encs x)).foldl (fun t (p, v) => t.setIfInBounds p v) a.tmps, defers := [] } W)
    (hdone : ∀ (D : Nat) (xs : List α) (W : World), w.heap.size ≤ D → D < w.heap.size + 1 → S (w.heap.size + 2) xs W → I xs W → W.heap[D]? = some (.deferred (some [])) → Q .normal { a with defers := { target := .collected D, args := #[] } :: a.defers } W) :
    (Code.rangeFunc g ps assign body).wpIn Fence.wide n P Q a w := by
  refine wpIn_rangeFunc (fun fn hfn => ?_)
  -- the record in its three states, the world with both blocks laid
  let R : LoopState → Option Code → Loop := fun st pe => { state := st, pending := pe, fn, tmps := a.tmps, params := ps, assign, body, defers := w.heap.size }
  let V : World := (w.alloc (.deferred (some []))).alloc (.loop (R .ready none))
  have hs : V.heap.size = w.heap.size + 2 := by simp [V]
  have hL : V.heap[w.heap.size + 1]? = some (.loop (R .ready none)) := by
    have := World.alloc_heap_new (w.alloc (.deferred (some []))) (.loop (R .ready none))
    rwa [World.size_alloc] at this
  have hD : V.heap[w.heap.size]? = some (.deferred (some [])) := (Below.heap_alloc _ _ _ (by simp)).trans (World.alloc_heap_new w _)
  have hV : Below w.heap.size w V := ((Below.refl _ w).alloc (Nat.le_refl _) _).alloc (by simp) _
  refine ⟨w.heap.size + 1, [{ target := .collected w.heap.size, args := #[] }], V, { target := .fn (.func gf) lb, args := #[.func (.yield (w.heap.size + 1)) #[] #[]] }, V, gf,
    #[.func (.yield (w.heap.size + 1)) #[] #[]] ++ lb, V, run_enterLoop_outer _ _ _ _ _, ?_, fun _ _ => trivial, ?_, fun h => absurd h (by simp [Fence.wide]), ?_⟩
  · simp only [resolve, hg]
    simp [go_sem]
  · simp [invoke, go_sem, eg]
  have hnT : ∀ r, ¬ T (w.heap.size + 1) (some (.loop r)) := fun r h => by have := hT _ _ h; omega
  have hVa : Ka w.heap.size (w.heap.size + 2 + D₀) w V := ⟨hV.os, hV.tape, hV.output, hV.size, fun k hk _ => hV.block k hk⟩
  refine (hseq (w.heap.size + 1) (fun pre W => I pre W ∧ W.heap[w.heap.size + 1]? = some (.loop (R .ready none)) ∧ W.heap[w.heap.size]? = some (.deferred (some [])) ∧ w.heap.size + 2 ≤ W.heap.size) V hV
    (fun s A B hJ hb => ⟨hI s A B hJ.1 (hb.mono (by omega) (by omega)), (hb.block _ (by have := hJ.2.2.2; omega) (by omega)).trans hJ.2.1, (hb.block _ (by have := hJ.2.2.2; omega) (by omega)).trans hJ.2.2.1, Nat.le_trans hJ.2.2.2 hb.size⟩)
    ?_ ⟨hI _ _ _ h0 hVa, hL, hD, by omega⟩ _).mono ?_
  · rintro pre x W ⟨hi, hl, hd, hsz⟩ hlen hszD
    refine ⟨fn, _, assign, body, run_yield (P := P) (args := encs x) hl (hps x), roundIn_of_wpIn hfn ?_⟩
    refine wpIn_mono (hround _ pre x W hi hlen (by omega)) ?_
    rintro e a₁ W₁ hp
    cases e with
    | normal =>
      obtain ⟨⟨hx1, hi1⟩, hbody⟩ := hp
      have hz1 := hx1.size
      have hl1 := (hx1.block (w.heap.size + 1) (by omega) (.inl ⟨by omega, by omega⟩)).trans hl
      have hd1 := (hx1.block w.heap.size (by omega) (.inl ⟨by omega, by omega⟩)).trans hd
      have hlt1 := (Array.getElem?_eq_some_iff.1 hl1).1
      refine ⟨_, run_beginRound hl1 rfl, ?_⟩
      have hl2 : (W₁.putObj (w.heap.size + 1) (.loop { R .ready none with state := .busy })).heap[w.heap.size + 1]? = some (.loop { R .ready none with state := .busy }) := World.putObj_heap_same hlt1
      have hd2 : (W₁.putObj (w.heap.size + 1) (.loop { R .ready none with state := .busy })).heap[w.heap.size]? = some (.deferred (some [])) := (World.putObj_heap_other (by omega)).trans hd1
      have hb2 : Below w.heap.size W₁ (W₁.putObj (w.heap.size + 1) (.loop { R .ready none with state := .busy })) := below_put _ _ (by omega)
      refine wpIn_mono (hbody _ (by simp) hb2 (fun k hk => World.putObj_heap_other hk) (hI _ _ _ hi1 (Ka.put _ _ (by omega) (by omega)))) ?_
      rintro e a₂ W₃ hp
      cases e with
      | normal =>
        obtain ⟨hx3, hi3⟩ := hp
        have hl3 := (hx3.block (w.heap.size + 1) (by simp; omega) (.inl ⟨by omega, by omega⟩)).trans hl2
        have hd3 := (hx3.block w.heap.size (by simp; omega) (.inl ⟨by omega, by omega⟩)).trans hd2
        have hlt3 := (Array.getElem?_eq_some_iff.1 hl3).1
        have hnk1 : ¬ ((V.heap.size ≤ w.heap.size + 1 ∧ w.heap.size + 1 < V.heap.size + D₀) ∨ T (w.heap.size + 1) W₁.heap[w.heap.size + 1]?) := fun h => by rcases h with h | h; omega; rw [hl1] at h; exact hnT _ h
        have hnk3 : ¬ ((V.heap.size ≤ w.heap.size + 1 ∧ w.heap.size + 1 < V.heap.size + D₀) ∨ T (w.heap.size + 1) W₃.heap[w.heap.size + 1]?) := fun h => by rcases h with h | h; omega; rw [hl3] at h; exact hnT _ h
        have hmo : ∀ {A B : World}, Kt T w.heap.size (w.heap.size + 2 + D₀) A B → Kt T V.heap.size (V.heap.size + D₀) A B := fun h => h.mono (fun k hk => by rcases hk with hk | hk; exact .inl ⟨by omega, by omega⟩; exact .inr hk)
        have hx : Kt T V.heap.size (V.heap.size + D₀) W W₃ := ((hmo hx1).trans (Kt.put _ _ hnk1)).trans (hmo hx3)
        refine ⟨_, _, run_endRound none hl3, rfl, ⟨hI _ _ _ hi3 (Ka.put _ _ (by omega) (by omega)), World.putObj_heap_same hlt3, (World.putObj_heap_other (by omega)).trans hd3, ?_⟩, hx.trans (Kt.put _ _ hnk3)⟩
        have := hx.size
        simp
        omega
      | ret => exact hp.elim
      | exit id => exact hp.elim
      | goto t => exact hp.elim
      | panic ch => exact hp.elim
      | outgrown => exact hp.elim
    | ret => exact hp.elim
    | exit id => exact hp.elim
    | goto t => exact hp.elim
    | panic ch => exact hp.elim
    | outgrown => exact hp.elim
  · rintro e W₂ ⟨⟨v, rfl⟩, xs, hS, hi, hl, hd, _⟩
    exact ⟨none, _, run_endLoop hl (by simp [R]), hdone _ xs _ (Nat.le_refl _) (Nat.lt_succ_self _) (hs ▸ hSt _ _ _ _ hS (fun k hk hk2 => World.putObj_heap_other (by omega))) (hI _ _ _ hi (Ka.put _ _ (by omega) (by omega))) ((World.putObj_heap_other (by omega)).trans hd)⟩
end
end Go.Proofs.Ytnhhemecfcljbaa
