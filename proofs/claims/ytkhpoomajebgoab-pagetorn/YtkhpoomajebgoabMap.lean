/-
  A range over a function whose iterator keeps cells of its own, or is itself a range over a function: its rounds all go on.
-/
import Derived.Test.YtkhpoomajebgoabMah
import Derived.Test.YtkhpoomajebgoabMaf
import Derived.RangeFuncNested
import Derived.RangeFuncWrites
import Derived.RangeFuncBound
namespace Go.Proofs.Ytkhpoomajebgoab
open Go Go.RowKit
section
variable {P : Program}

/-- The blocks from n on, and those that T names, lie as they lay. -/
structure Kx (T : Nat → Prop) (n : Nat) (A B : World) : Prop where
  size : A.heap.size ≤ B.heap.size
  block : ∀ k, k < A.heap.size → (n ≤ k ∨ T k) → B.heap[k]? = A.heap[k]?
theorem Kx.refl (T : Nat → Prop) (n : Nat) (A : World) : Kx T n A A := ⟨Nat.le_refl _, fun _ _ _ => rfl⟩
theorem Kx.trans {T : Nat → Prop} {n : Nat} {A B C : World} (h : Kx T n A B) (k : Kx T n B C) : Kx T n A C :=
  ⟨Nat.le_trans h.size k.size, fun i hi hn => (k.block i (Nat.lt_of_lt_of_le hi h.size) hn).trans (h.block i hi hn)⟩
theorem Kx.mono {T U : Nat → Prop} {n m : Nat} {A B : World} (h : Kx T n A B) (hm : ∀ k, m ≤ k ∨ U k → n ≤ k ∨ T k) : Kx U m A B := ⟨h.size, fun k hk hn => h.block k hk (hm k hn)⟩
theorem Kx.of_below {T : Nat → Prop} {n : Nat} {A B : World} (h : Below A.heap.size A B) : Kx T n A B := ⟨h.size, fun k hk _ => h.block k hk⟩
theorem Kx.of_set {T : Nat → Prop} {n : Nat} (A : World) {p : Addr} (u : Value) (h : p.block < n) (hT : ¬ T p.block) : Kx T n A (A.setCell p u) :=
  ⟨by simp [World.setCell], fun k _ hn => Below.heap_setCell _ _ _ _ (fun e => by
    subst e
    rcases hn with hn | hn
    · omega
    · exact hT hn)⟩
theorem Kx.put {T : Nat → Prop} {n : Nat} (A : World) {l : Nat} (o : Obj) (h : l < n) (hT : ¬ T l) : Kx T n A (A.putObj l o) :=
  ⟨by simp, fun k _ hn => World.putObj_heap_other (fun e => by
    subst e
    rcases hn with hn | hn
    · omega
    · exact hT hn)⟩
theorem Kx.cell {T : Nat → Prop} {n : Nat} {A B : World} (h : Kx T n A B) {p : Addr} {v : Value} (hc : A.cell? p = some v) (hp : n ≤ p.block ∨ T p.block) : B.cell? p = some v := by
  refine (World.cell?_of_block (h.block p.block ?_ hp)).trans hc
  unfold World.cell? at hc
  cases ho : A.heap[p.block]? with
  | none => simp [ho] at hc
  | some o => exact (Array.getElem?_eq_some_iff.1 ho).1

/-- The iterator's word: every round goes on, and keeps the iterator's own blocks and those of T; then all have come. -/
def SeqX {α : Type} (P : Program) (g : Nat) (lb : Array Value) (encs : α → Array Value) (T : Nat → Prop) (S : List α → Prop) (N : Nat) (w : World) : Prop :=
  ∀ (l : Nat) (J : List α → World → Prop) (W : World), Below w.heap.size w W → (∀ s A B, J s A → Below W.heap.size A B → J s B) →
    (∀ pre x W1, J pre W1 → pre.length < N → YieldAt Fence.wide 0 P l (encs x) W1 fun e W' => e = .returned (.bool true) ∧ J (pre ++ [x]) W' ∧ Kx T W.heap.size W1 W') →
    J [] W →
    ∀ n, CallsIn Fence.wide n P g (#[.func (.yield l) #[] #[]] ++ lb) W fun e W' => (∃ v, e = .returned v) ∧ ∃ xs, S xs ∧ J xs W'

/-- How the body of a round is left. -/
def postX {α : Type} (B : Nat) (T : Nat → Prop) (I : List α → World → Prop) (xs : List α) (W : World) : Exit → Act → World → Prop
  | .normal, _, W' => KeepsFrom B W W' ∧ Kx T (B + 2) W W' ∧ I xs W'
  | _, _, _ => False

/-- **The statement.** -/
theorem wpIn_range_x {α : Type} {n : Nat} {g : Operand} {ps : Array Tmp} {assign body : Code} {Q : Exit → Act → World → Prop} {a : Act} {w : World}
    {gf : Nat} {lb : Array Value} (hg : a.eval g = .func (.func gf) #[] lb) (eg : ∀ args w, (callFunc gf args).run P w = .ok (.enter gf args) w)
    {encs : α → Array Value} {T : Nat → Prop} {S : List α → Prop} {N : Nat} (hseq : SeqX P gf lb encs T S N w) (hT : ∀ k, T k → k < w.heap.size) (hps : ∀ x, (encs x).size = ps.size)
    (I : List α → World → Prop) (hI : ∀ s A B, I s A → Below w.heap.size A B → I s B) (h0 : I [] w)
    (hround : ∀ (l : Nat) (pre : List α) (x : α) (W : World), I pre W → pre.length < N → w.heap.size + 2 ≤ W.heap.size →
      assign.wpIn (Fence.wide.inRound l) 0 P (Exit.then (fun a₁ W₁ => (KeepsFrom w.heap.size W W₁ ∧ Kx T (w.heap.size + 2) W W₁ ∧ I pre W₁) ∧
        ∀ W₂, W₂.heap.size = W₁.heap.size → Below w.heap.size W₁ W₂ → (∀ k, k ≠ w.heap.size + 1 → W₂.heap[k]? = W₁.heap[k]?) → I pre W₂ → body.wpIn (Fence.wide.inRound l) 0 P (postX w.heap.size T I (pre ++ [x]) W₂) a₁ W₂) (fun _ _ _ => False))
        { tmps := (ps.zip (encs x)).foldl (fun t (p, v) => t.setIfInBounds p v) a.tmps, defers := [] } W)
    (hdone : ∀ (D : Nat) (xs : List α) (W : World), w.heap.size ≤ D → S xs → I xs W → W.heap[D]? = some (.deferred (some [])) → Q .normal { a with defers := { target := .collected D, args := #[] } :: a.defers } W) :
    (Code.rangeFunc g ps assign body).wpIn Fence.wide n P Q a w := by
  refine wpIn_rangeFunc (fun fn hfn => ?_)
  -- the record in its three states, the world with both blocks laid
  let R : LoopState → Option Code → Loop := fun st pe => { state := st, pending := pe, fn, tmps := a.tmps, params := ps, assign, body, defers := w.heap.size }
  let V : World := (w.alloc (.deferred (some []))).alloc (.loop (R .ready none))
  have hs : V.heap.size = w.heap.size + 2 := by simp [V]
  have hL : V.heap[w.heap.size + 1]? = some (.loop (R .ready none)) := by
    have := World.alloc_heap_new (w.alloc (.deferred (some []))) (.loop (R .ready none))
    rwa [World.size_alloc] at this
  have hD : V.heap[w.heap.size]? = some (.deferred (some [])) := (Below.heap_alloc _ _ _ (by simp)).trans (World.alloc_heap_new w _)
  have hV : Below w.heap.size w V := ((Below.refl _ w).alloc (Nat.le_refl _) _).alloc (by simp) _
  refine ⟨w.heap.size + 1, [{ target := .collected w.heap.size, args := #[] }], V, { target := .fn (.func gf) lb, args := #[.func (.yield (w.heap.size + 1)) #[] #[]] }, V, gf,
    #[.func (.yield (w.heap.size + 1)) #[] #[]] ++ lb, V, run_enterLoop_outer _ _ _ _ _, ?_, fun _ _ => trivial, ?_, fun h => absurd h (by simp [Fence.wide]), ?_⟩
  · simp only [resolve, hg]
    simp [go_sem]
  · simp [invoke, go_sem, eg]
  have hnT : ¬ T (w.heap.size + 1) := fun h => by have := hT _ h; omega
  refine (hseq (w.heap.size + 1) (fun pre W => I pre W ∧ W.heap[w.heap.size + 1]? = some (.loop (R .ready none)) ∧ W.heap[w.heap.size]? = some (.deferred (some [])) ∧ w.heap.size + 2 ≤ W.heap.size) V hV
    (fun s A B hJ hb => ⟨hI s A B hJ.1 (hb.mono (by omega)), (hb.block _ (by omega)).trans hJ.2.1, (hb.block _ (by omega)).trans hJ.2.2.1, Nat.le_trans hJ.2.2.2 hb.size⟩)
    ?_ ⟨hI _ _ _ h0 hV, hL, hD, by omega⟩ _).mono ?_
  · rintro pre x W ⟨hi, hl, hd, hsz⟩ hlen
    refine ⟨fn, _, assign, body, run_yield (P := P) (args := encs x) hl (hps x), roundIn_of_wpIn hfn ?_⟩
    refine wpIn_mono (hround _ pre x W hi hlen hsz) ?_
    rintro e a₁ W₁ hp
    cases e with
    | normal =>
      obtain ⟨⟨hk1, hx1, hi1⟩, hbody⟩ := hp
      have hl1 := hk1.same _ _ (Nat.le_succ _) hl rfl
      have hd1 := hk1.same _ _ (Nat.le_refl _) hd rfl
      have hlt1 := (Array.getElem?_eq_some_iff.1 hl1).1
      refine ⟨_, run_beginRound hl1 rfl, ?_⟩
      have hl2 : (W₁.putObj (w.heap.size + 1) (.loop { R .ready none with state := .busy })).heap[w.heap.size + 1]? = some (.loop { R .ready none with state := .busy }) := World.putObj_heap_same hlt1
      have hd2 : (W₁.putObj (w.heap.size + 1) (.loop { R .ready none with state := .busy })).heap[w.heap.size]? = some (.deferred (some [])) := (World.putObj_heap_other (by omega)).trans hd1
      have hb2 : Below w.heap.size W₁ (W₁.putObj (w.heap.size + 1) (.loop { R .ready none with state := .busy })) := below_put _ _ (by omega)
      refine wpIn_mono (hbody _ (by simp) hb2 (fun k hk => World.putObj_heap_other hk) (hI _ _ _ hi1 hb2)) ?_
      rintro e a₂ W₃ hp
      cases e with
      | normal =>
        obtain ⟨hk3, hx3, hi3⟩ := hp
        have hl3 := hk3.same _ _ (Nat.le_succ _) hl2 rfl
        have hd3 := hk3.same _ _ (Nat.le_refl _) hd2 rfl
        have hlt3 := (Array.getElem?_eq_some_iff.1 hl3).1
        have hx : Kx T V.heap.size W W₃ := by
          rw [hs]
          exact (hx1.trans (Kx.put _ _ (by omega) hnT)).trans hx3
        refine ⟨_, _, run_endRound none hl3, rfl, ⟨hI _ _ _ hi3 (below_put _ _ (by omega)), World.putObj_heap_same hlt3, (World.putObj_heap_other (by omega)).trans hd3, ?_⟩, hx.trans (Kx.put _ _ (by omega) hnT)⟩
        have := hx.size
        simp
        omega
      | ret => exact hp.elim
      | exit id => exact hp.elim
      | goto t => exact hp.elim
      | panic ch => exact hp.elim
      | outgrown => exact hp.elim
    | ret => exact hp.elim
    | exit id => exact hp.elim
    | goto t => exact hp.elim
    | panic ch => exact hp.elim
    | outgrown => exact hp.elim
  · rintro e W₂ ⟨⟨v, rfl⟩, xs, hS, hi, hl, hd, _⟩
    exact ⟨none, _, run_endLoop hl (by simp [R]), hdone _ xs _ (Nat.le_refl _) hS (hI _ _ _ hi (below_put _ _ (by omega))) ((World.putObj_heap_other (by omega)).trans hd)⟩
end
end Go.Proofs.Ytkhpoomajebgoab
