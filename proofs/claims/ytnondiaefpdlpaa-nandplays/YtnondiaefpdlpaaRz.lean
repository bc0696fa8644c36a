/-
  A range over a function within a round of another one.
-/
import Derived.Test.YtnondiaefpdlpaaRy
namespace Go.Proofs.Ytnondiaefpdlpaa
open Go Go.RowKit
section
variable {P : Program}

/-- The statement, with a word on the loop's own record. -/
theorem wpIn_range_yH {α : Type} {n : Nat} {g : Operand} {ps : Array Tmp} {assign body : Code} {Q : Exit → Act → World → Prop} {a : Act} {w : World}
    {gf : Nat} {lb : Array Value} (hg : a.eval g = .func (.func gf) #[] lb) (eg : ∀ args w, (callFunc gf args).run P w = .ok (.enter gf args) w)
    {encs : α → Array Value} {T : Nat → Prop} {D₀ : Nat} {S : List α → Prop} {N : Nat} (hseq : SeqY P gf lb encs T D₀ S N w) (hT : ∀ k, T k → k < w.heap.size) (hps : ∀ x, (encs x).size = ps.size)
    (I : List α → World → Prop) (hI : ∀ s A B, I s A → Ka w.heap.size (w.heap.size + 2 + D₀) A B → I s B) (h0 : I [] w)
    (hround : ∀ (l : Nat) (pre : List α) (x : α) (W : World), I pre W → pre.length < N → w.heap.size + 2 + D₀ ≤ W.heap.size →
      assign.wpIn (Fence.wide.inRound l) 0 P (Exit.then (fun a₁ W₁ => (Ky T w.heap.size (w.heap.size + 2 + D₀) W W₁ ∧ I pre W₁) ∧
        ∀ W₂, W₂.heap.size = W₁.heap.size → Below w.heap.size W₁ W₂ → (∀ k, k ≠ w.heap.size + 1 → W₂.heap[k]? = W₁.heap[k]?) → (∃ r, W₂.heap[l]? = some (.loop r)) → l = w.heap.size + 1 → I pre W₂ → body.wpIn (Fence.wide.inRound l) 0 P (postY w.heap.size T D₀ I (pre ++ [x]) W₂) a₁ W₂) (fun _ _ _ => False))
        { tmps := (ps.zip (encs x)).foldl (fun t (p, v) => t.setIfInBounds p v) a.tmps, defers := [] } W)
    (hdone : ∀ (D : Nat) (xs : List α) (W : World), w.heap.size ≤ D → D < w.heap.size + 1 → S xs → I xs W → W.heap[D]? = some (.deferred (some [])) → Q .normal { a with defers := { target := .collected D, args := #[] } :: a.defers } W) :
    (Code.rangeFunc g ps assign body).wpIn Fence.wide n P Q a w := by
  refine wpIn_rangeFunc (fun fn hfn => ?_)
  -- the record in its three states, the world with both blocks laid
  let R : LoopState → Option Code → Loop := fun st pe => { state := st, pending := pe, fn, tmps := a.tmps, params := ps, assign, body, defers := w.heap.size }
  let V : World := (w.alloc (.deferred (some []))).alloc (.loop (R .ready none))
  have hs : V.heap.size = w.heap.size + 2 := by simp [V]
  have hL : V.heap[w.heap.size + 1]? = some (.loop (R .ready none)) := by
    have := World.alloc_heap_new (w.alloc (.deferred (some []))) (.loop (R .ready none))
    rwa [World.size_alloc] at this
  have hD : V.heap[w.heap.size]? = some (.deferred (some [])) := (Below.heap_alloc _ _ _ (by simp)).trans (World.alloc_heap_new w _)
  have hV : Below w.heap.size w V := ((Below.refl _ w).alloc (Nat.le_refl _) _).alloc (by simp) _
  refine ⟨w.heap.size + 1, [{ target := .collected w.heap.size, args := #[] }], V, { target := .fn (.func gf) lb, args := #[.func (.yield (w.heap.size + 1)) #[] #[]] }, V, gf,
    #[.func (.yield (w.heap.size + 1)) #[] #[]] ++ lb, V, run_enterLoop_outer _ _ _ _ _, ?_, fun _ _ => trivial, ?_, fun h => absurd h (by simp [Fence.wide]), ?_⟩
  · simp only [resolve, hg]
    simp [go_sem]
  · simp [invoke, go_sem, eg]
  have hnT : ¬ T (w.heap.size + 1) := fun h => by have := hT _ h; omega
  have hVa : Ka w.heap.size (w.heap.size + 2 + D₀) w V := ⟨hV.os, hV.tape, hV.output, hV.size, fun k hk _ => hV.block k hk⟩
  refine (hseq (w.heap.size + 1) (fun pre W => I pre W ∧ W.heap[w.heap.size + 1]? = some (.loop (R .ready none)) ∧ W.heap[w.heap.size]? = some (.deferred (some [])) ∧ w.heap.size + 2 ≤ W.heap.size) V hV
    (fun s A B hJ hb => ⟨hI s A B hJ.1 (hb.mono (by omega) (by omega)), (hb.block _ (by have := hJ.2.2.2; omega) (by omega)).trans hJ.2.1, (hb.block _ (by have := hJ.2.2.2; omega) (by omega)).trans hJ.2.2.1, Nat.le_trans hJ.2.2.2 hb.size⟩)
    ?_ ⟨hI _ _ _ h0 hVa, hL, hD, by omega⟩ _).mono ?_
  · rintro pre x W ⟨hi, hl, hd, hsz⟩ hlen hszD
    refine ⟨fn, _, assign, body, run_yield (P := P) (args := encs x) hl (hps x), roundIn_of_wpIn hfn ?_⟩
    refine wpIn_mono (hround _ pre x W hi hlen (by omega)) ?_
    rintro e a₁ W₁ hp
    cases e with
    | normal =>
      obtain ⟨⟨hx1, hi1⟩, hbody⟩ := hp
      have hz1 := hx1.size
      have hl1 := (hx1.block (w.heap.size + 1) (by omega) (.inl ⟨by omega, by omega⟩)).trans hl
      have hd1 := (hx1.block w.heap.size (by omega) (.inl ⟨by omega, by omega⟩)).trans hd
      have hlt1 := (Array.getElem?_eq_some_iff.1 hl1).1
      refine ⟨_, run_beginRound hl1 rfl, ?_⟩
      have hl2 : (W₁.putObj (w.heap.size + 1) (.loop { R .ready none with state := .busy })).heap[w.heap.size + 1]? = some (.loop { R .ready none with state := .busy }) := World.putObj_heap_same hlt1
      have hd2 : (W₁.putObj (w.heap.size + 1) (.loop { R .ready none with state := .busy })).heap[w.heap.size]? = some (.deferred (some [])) := (World.putObj_heap_other (by omega)).trans hd1
      have hb2 : Below w.heap.size W₁ (W₁.putObj (w.heap.size + 1) (.loop { R .ready none with state := .busy })) := below_put _ _ (by omega)
      refine wpIn_mono (hbody _ (by simp) hb2 (fun k hk => World.putObj_heap_other hk) ⟨_, hl2⟩ rfl (hI _ _ _ hi1 (Ka.put _ _ (by omega) (by omega)))) ?_
      rintro e a₂ W₃ hp
      cases e with
      | normal =>
        obtain ⟨hx3, hi3⟩ := hp
        have hl3 := (hx3.block (w.heap.size + 1) (by simp; omega) (.inl ⟨by omega, by omega⟩)).trans hl2
        have hd3 := (hx3.block w.heap.size (by simp; omega) (.inl ⟨by omega, by omega⟩)).trans hd2
        have hlt3 := (Array.getElem?_eq_some_iff.1 hl3).1
        have hnk : ¬ ((V.heap.size ≤ w.heap.size + 1 ∧ w.heap.size + 1 < V.heap.size + D₀) ∨ T (w.heap.size + 1)) := fun h => by rcases h with h | h; omega; exact hnT h
        have hmo : ∀ {A B : World}, Ky T w.heap.size (w.heap.size + 2 + D₀) A B → Ky T V.heap.size (V.heap.size + D₀) A B := fun h => h.mono (fun k hk => by rcases hk with hk | hk; exact .inl ⟨by omega, by omega⟩; exact .inr hk)
        have hx : Ky T V.heap.size (V.heap.size + D₀) W W₃ := ((hmo hx1).trans (Ky.put _ _ hnk)).trans (hmo hx3)
        refine ⟨_, _, run_endRound none hl3, rfl, ⟨hI _ _ _ hi3 (Ka.put _ _ (by omega) (by omega)), World.putObj_heap_same hlt3, (World.putObj_heap_other (by omega)).trans hd3, ?_⟩, hx.trans (Ky.put _ _ hnk)⟩
        have := hx.size
        simp
        omega
      | ret => exact hp.elim
      | exit id => exact hp.elim
      | goto t => exact hp.elim
      | panic ch => exact hp.elim
      | outgrown => exact hp.elim
    | ret => exact hp.elim
    | exit id => exact hp.elim
    | goto t => exact hp.elim
    | panic ch => exact hp.elim
    | outgrown => exact hp.elim
  · rintro e W₂ ⟨⟨v, rfl⟩, xs, hS, hi, hl, hd, _⟩
    exact ⟨none, _, run_endLoop hl (by simp [R]), hdone _ xs _ (Nat.le_refl _) (Nat.lt_succ_self _) hS (hI _ _ _ hi (Ka.put _ _ (by omega) (by omega))) ((World.putObj_heap_other (by omega)).trans hd)⟩

/-- How the body of a round within a round is left. -/
def postN {α : Type} (B : Nat) (T : Nat → Prop) (D : Nat) (I : List α → World → Prop) (xs : List α) (W : World) : Exit → Act → World → Prop
  | .normal, _, W' => Ky T B (B + 1 + D) W W' ∧ I xs W'
  | _, _, _ => False

/-- The statement, within a round of loop l₀. -/
theorem wpIn_range_yN {α : Type} {n : Nat} {g : Operand} {ps : Array Tmp} {assign body : Code} {Q : Exit → Act → World → Prop} {a : Act} {w : World}
    {l₀ : Nat} (hl₀ : ∃ r₀, w.heap[l₀]? = some (.loop r₀)) {gf : Nat} {lb : Array Value} (hg : a.eval g = .func (.func gf) #[] lb) (eg : ∀ args w, (callFunc gf args).run P w = .ok (.enter gf args) w)
    {encs : α → Array Value} {T : Nat → Prop} {D₀ : Nat} {S : List α → Prop} {N : Nat} (hseq : SeqY P gf lb encs T D₀ S N w) (hT : ∀ k, T k → k < w.heap.size) (hps : ∀ x, (encs x).size = ps.size)
    (I : List α → World → Prop) (hI : ∀ s A B, I s A → Ka w.heap.size (w.heap.size + 1 + D₀) A B → I s B) (h0 : I [] w)
    (hround : ∀ (l : Nat) (pre : List α) (x : α) (W : World), I pre W → pre.length < N → w.heap.size + 1 + D₀ ≤ W.heap.size →
      assign.wpIn (Fence.wide.inRound l) 0 P (Exit.then (fun a₁ W₁ => (Ky T w.heap.size (w.heap.size + 1 + D₀) W W₁ ∧ I pre W₁) ∧
        ∀ W₂, W₂.heap.size = W₁.heap.size → Below w.heap.size W₁ W₂ → (∀ k, k ≠ w.heap.size → W₂.heap[k]? = W₁.heap[k]?) → I pre W₂ → body.wpIn (Fence.wide.inRound l) 0 P (postN w.heap.size T D₀ I (pre ++ [x]) W₂) a₁ W₂) (fun _ _ _ => False))
        { tmps := (ps.zip (encs x)).foldl (fun t (p, v) => t.setIfInBounds p v) a.tmps, defers := [] } W)
    (hdone : ∀ (xs : List α) (W : World), S xs → I xs W → Q .normal a W) :
    (Code.rangeFunc g ps assign body).wpIn (Fence.wide.inRound l₀) n P Q a w := by
  obtain ⟨r₀, hr₀⟩ := hl₀
  refine wpIn_rangeFunc (fun fn hfn => ?_)
  rw [Fence.inRound_round]
  let R : LoopState → Option Code → Loop := fun st pe => { state := st, pending := pe, fn, tmps := a.tmps, params := ps, assign, body, defers := r₀.defers }
  let V : World := w.alloc (.loop (R .ready none))
  have hs : V.heap.size = w.heap.size + 1 := by simp [V]
  have hL : V.heap[w.heap.size]? = some (.loop (R .ready none)) := World.alloc_heap_new w _
  have hV : Below w.heap.size w V := (Below.refl _ w).alloc (Nat.le_refl _) _
  refine ⟨w.heap.size, [], V, { target := .fn (.func gf) lb, args := #[.func (.yield w.heap.size) #[] #[]] }, V, gf,
    #[.func (.yield w.heap.size) #[] #[]] ++ lb, V, run_enterLoop_inner hr₀ _ _ _ _ _, ?_, fun _ _ => trivial, ?_, fun h => absurd h (by simp [Fence.wide]), ?_⟩
  · simp only [resolve, hg]
    simp [go_sem]
  · simp [invoke, go_sem, eg]
  have hnT : ¬ T w.heap.size := fun h => by have := hT _ h; omega
  have hVa : Ka w.heap.size (w.heap.size + 1 + D₀) w V := ⟨hV.os, hV.tape, hV.output, hV.size, fun k hk _ => hV.block k hk⟩
  refine CallsIn.inRound l₀ ((hseq w.heap.size (fun pre W => I pre W ∧ W.heap[w.heap.size]? = some (.loop (R .ready none)) ∧ w.heap.size + 1 ≤ W.heap.size) V hV
    (fun s A B hJ hb => ⟨hI s A B hJ.1 (hb.mono (by omega) (by omega)), (hb.block _ (by have := hJ.2.2; omega) (by omega)).trans hJ.2.1, Nat.le_trans hJ.2.2 hb.size⟩)
    ?_ ⟨hI _ _ _ h0 hVa, hL, by omega⟩ _).mono ?_)
  · rintro pre x W ⟨hi, hl, hsz⟩ hlen hszD
    refine ⟨fn, _, assign, body, run_yield (P := P) (args := encs x) hl (hps x), roundIn_of_wpIn (F := Fence.wide) hfn ?_⟩
    refine wpIn_mono (hround _ pre x W hi hlen (by omega)) ?_
    rintro e a₁ W₁ hp
    cases e with
    | normal =>
      obtain ⟨⟨hx1, hi1⟩, hbody⟩ := hp
      have hz1 := hx1.size
      have hl1 := (hx1.block w.heap.size (by omega) (.inl ⟨by omega, by omega⟩)).trans hl
      have hlt1 := (Array.getElem?_eq_some_iff.1 hl1).1
      refine ⟨_, run_beginRound hl1 rfl, ?_⟩
      have hl2 : (W₁.putObj w.heap.size (.loop { R .ready none with state := .busy })).heap[w.heap.size]? = some (.loop { R .ready none with state := .busy }) := World.putObj_heap_same hlt1
      have hb2 : Below w.heap.size W₁ (W₁.putObj w.heap.size (.loop { R .ready none with state := .busy })) := below_put _ _ (by omega)
      refine wpIn_mono (hbody _ (by simp) hb2 (fun k hk => World.putObj_heap_other hk) (hI _ _ _ hi1 (Ka.put _ _ (by omega) (by omega)))) ?_
      rintro e a₂ W₃ hp
      cases e with
      | normal =>
        obtain ⟨hx3, hi3⟩ := hp
        have hl3 := (hx3.block w.heap.size (by simp; omega) (.inl ⟨by omega, by omega⟩)).trans hl2
        have hlt3 := (Array.getElem?_eq_some_iff.1 hl3).1
        have hnk : ¬ ((V.heap.size ≤ w.heap.size ∧ w.heap.size < V.heap.size + D₀) ∨ T w.heap.size) := fun h => by rcases h with h | h; omega; exact hnT h
        have hmo : ∀ {A B : World}, Ky T w.heap.size (w.heap.size + 1 + D₀) A B → Ky T V.heap.size (V.heap.size + D₀) A B := fun h => h.mono (fun k hk => by rcases hk with hk | hk; exact .inl ⟨by omega, by omega⟩; exact .inr hk)
        have hx : Ky T V.heap.size (V.heap.size + D₀) W W₃ := ((hmo hx1).trans (Ky.put _ _ hnk)).trans (hmo hx3)
        refine ⟨_, _, run_endRound none hl3, rfl, ⟨hI _ _ _ hi3 (Ka.put _ _ (by omega) (by omega)), World.putObj_heap_same hlt3, ?_⟩, hx.trans (Ky.put _ _ hnk)⟩
        have := hx.size
        simp
        omega
      | ret => exact hp.elim
      | exit id => exact hp.elim
      | goto t => exact hp.elim
      | panic ch => exact hp.elim
      | outgrown => exact hp.elim
    | ret => exact hp.elim
    | exit id => exact hp.elim
    | goto t => exact hp.elim
    | panic ch => exact hp.elim
    | outgrown => exact hp.elim
  · rintro e W₂ ⟨⟨v, rfl⟩, xs, hS, hi, hl, _⟩
    exact ⟨none, _, run_endLoop hl (by simp [R]), hdone xs _ hS (hI _ _ _ hi (Ka.put _ _ (by omega) (by omega)))⟩
end
end Go.Proofs.Ytnondiaefpdlpaa
