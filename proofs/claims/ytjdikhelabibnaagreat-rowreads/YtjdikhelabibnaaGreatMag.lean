/-
  
-/
import Derived.Test.YtjdikhelabibnaaGreatMae
import Derived.Test.YtjdikhelabibnaaGreatMaa
import Derived.RangeFuncNested
import Derived.RangeFuncWrites
import Derived.RangeFuncBound
import Derived.Test.YtjdikhelabibnaaGreatMaf
namespace Go.Proofs.YtjdikhelabibnaaGreat
open Go Go.RowKit
section
variable {P : Program}
structure Ka (n m : Nat) (A B : World) : Prop where
 os : B.os = A.os
 tape : B.tape = A.tape
 output : B.output = A.output
 size : A.heap.size ≤ B.heap.size
 block : ∀ k, k < A.heap.size → ¬ (n ≤ k ∧ k < m) → B.heap[k]? = A.heap[k]?
theorem Ka.mono {n m n' m' : Nat} {A B : World} (h : Ka n m A B) (h1 : n' ≤ n) (h2 : m ≤ m') : Ka n' m' A B := ⟨h.os, h.tape, h.output, h.size, fun k hk hn => h.block k hk (fun hh => hn ⟨by omega, by omega⟩)⟩
theorem Ka.of_below {n m : Nat} {A B : World} (h : Below A.heap.size A B) : Ka n m A B := ⟨h.os, h.tape, h.output, h.size, fun k hk _ => h.block k hk⟩
theorem Ka.put {n m : Nat} (A : World) {l : Nat} (o : Obj) (h1 : n ≤ l) (h2 : l < m) : Ka n m A (A.putObj l o) :=
 ⟨rfl, rfl, rfl, by simp, fun k _ hn => World.putObj_heap_other (fun e => by subst e; exact hn ⟨h1, h2⟩)⟩
theorem Ka.below {n m : Nat} {A B : World} (h : Ka n m A B) (hn : n ≤ A.heap.size) : Below n A B := ⟨h.os, h.tape, h.output, h.size, fun k hk => h.block k (by omega) (by omega)⟩
structure Ky (T : Nat → Prop) (n m : Nat) (A B : World) : Prop where
 size : A.heap.size ≤ B.heap.size
 block : ∀ k, k < A.heap.size → ((n ≤ k ∧ k < m) ∨ T k) → B.heap[k]? = A.heap[k]?
theorem Ky.refl (T : Nat → Prop) (n m : Nat) (A : World) : Ky T n m A A := ⟨Nat.le_refl _, fun _ _ _ => rfl⟩
theorem Ky.trans {T : Nat → Prop} {n m : Nat} {A B C : World} (h : Ky T n m A B) (k : Ky T n m B C) : Ky T n m A C :=
 ⟨Nat.le_trans h.size k.size, fun i hi hn => (k.block i (Nat.lt_of_lt_of_le hi h.size) hn).trans (h.block i hi hn)⟩
theorem Ky.mono {T U : Nat → Prop} {n m n' m' : Nat} {A B : World} (h : Ky T n m A B) (hm : ∀ k, (n' ≤ k ∧ k < m') ∨ U k → (n ≤ k ∧ k < m) ∨ T k) : Ky U n' m' A B := ⟨h.size, fun k hk hn => h.block k hk (hm k hn)⟩
theorem Ky.of_below {T : Nat → Prop} {n m : Nat} {A B : World} (h : Below A.heap.size A B) : Ky T n m A B := ⟨h.size, fun k hk _ => h.block k hk⟩
theorem Ky.set {T : Nat → Prop} {n m : Nat} (A : World) {p : Addr} (u : Value) (h : ¬ ((n ≤ p.block ∧ p.block < m) ∨ T p.block)) : Ky T n m A (A.setCell p u) :=
 ⟨by simp [World.setCell], fun k _ hn => Below.heap_setCell _ _ _ _ (fun e => by subst e; exact h hn)⟩
theorem Ky.put {T : Nat → Prop} {n m : Nat} (A : World) {l : Nat} (o : Obj) (h : ¬ ((n ≤ l ∧ l < m) ∨ T l)) : Ky T n m A (A.putObj l o) :=
 ⟨by simp, fun k _ hn => World.putObj_heap_other (fun e => by subst e; exact h hn)⟩
theorem Ky.grown {T : Nat → Prop} {n m : Nat} {A B : World} {row : Option Nat} (h : A.grownBy B row) (hr : ∀ k, row = some k → ¬ ((n ≤ k ∧ k < m) ∨ T k)) : Ky T n m A B :=
 ⟨h.size, fun k hk hn => h.block k hk (fun e => hr k e.symm hn)⟩
theorem below_put {n l : Nat} (A : World) (o : Obj) (h : n ≤ l) : Below n A (A.putObj l o) :=
 ⟨rfl, rfl, rfl, by simp, fun k hk => World.putObj_heap_other (by omega)⟩
theorem round_any {m m' : Nat} {l : Nat} {f : FuncId} {tmps : Array Value} {assign body : Code} {w : World} {R : Ending → World → Prop}
  (h : RoundIn Fence.wide m P l f tmps assign body w R) : RoundIn Fence.wide m' P l f tmps assign body w R := ⟨h.1, fun c cs _ => h.2 c cs (fun d hd => by cases hd)⟩
def SeqY {α : Type} (P : Program) (g : Nat) (lb : Array Value) (encs : α → Array Value) (T : Nat → Prop) (D : Nat) (S : List α → Prop) (N : Nat) (w : World) : Prop :=
 ∀ (l : Nat) (J : List α → World → Prop) (W : World), Below w.heap.size w W → (∀ s A B, J s A → Ka W.heap.size (W.heap.size + D) A B → J s B) →
  (∀ pre x W1, J pre W1 → pre.length < N → W.heap.size + D ≤ W1.heap.size → YieldAt Fence.wide 0 P l (encs x) W1 fun e W' => e = .returned (.bool true) ∧ J (pre ++ [x]) W' ∧ Ky T W.heap.size (W.heap.size + D) W1 W') →
  J [] W →
  ∀ n, CallsIn Fence.wide n P g (#[.func (.yield l) #[] #[]] ++ lb) W fun e W' => (∃ v, e = .returned v) ∧ ∃ xs, S xs ∧ J xs W'
def postY {α : Type} (B : Nat) (T : Nat → Prop) (D : Nat) (I : List α → World → Prop) (xs : List α) (W : World) : Exit → Act → World → Prop
 | .normal, _, W' => Ky T B (B + 2 + D) W W' ∧ I xs W'
 | _, _, _ => False
theorem wpIn_range_y {α : Type} {n : Nat} {g : Operand} {ps : Array Tmp} {assign body : Code} {Q : Exit → Act → World → Prop} {a : Act} {w : World}
  {gf : Nat} {lb : Array Value} (hg : a.eval g = .func (.func gf) #[] lb) (eg : ∀ args w, (callFunc gf args).run P w = .ok (.enter gf args) w)
  {encs : α → Array Value} {T : Nat → Prop} {D₀ : Nat} {S : List α → Prop} {N : Nat} (hseq : SeqY P gf lb encs T D₀ S N w) (hT : ∀ k, T k → k < w.heap.size) (hps : ∀ x, (encs x).size = ps.size)
  (I : List α → World → Prop) (hI : ∀ s A B, I s A → Ka w.heap.size (w.heap.size + 2 + D₀) A B → I s B) (h0 : I [] w)
  (hround : ∀ (l : Nat) (pre : List α) (x : α) (W : World), I pre W → pre.length < N → w.heap.size + 2 + D₀ ≤ W.heap.size →
   assign.wpIn (Fence.wide.inRound l) 0 P (Exit.then (fun a₁ W₁ => (Ky T w.heap.size (w.heap.size + 2 + D₀) W W₁ ∧ I pre W₁) ∧
    ∀ W₂, W₂.heap.size = W₁.heap.size → Below w.heap.size W₁ W₂ → (∀ k, k ≠ w.heap.size + 1 → W₂.heap[k]? = W₁.heap[k]?) → I pre W₂ → body.wpIn (Fence.wide.inRound l) 0 P (postY w.heap.size T D₀ I (pre ++ [x]) W₂) a₁ W₂) (fun _ _ _ => False))
    { tmps := (ps.zip (encs x)).foldl (fun t (p, v) => t.setIfInBounds p v) a.tmps, defers := [] } W)
  (hdone : ∀ (D : Nat) (xs : List α) (W : World), w.heap.size ≤ D → D < w.heap.size + 1 → S xs → I xs W → W.heap[D]? = some (.deferred (some [])) → Q .normal { a with defers := { target := .collected D, args := #[] } :: a.defers } W) :
  (Code.rangeFunc g ps assign body).wpIn Fence.wide n P Q a w := by
 refine wpIn_rangeFunc (fun fn hfn => ?_)
 let R : LoopState → Option Code → Loop := fun st pe => { state := st, pending := pe, fn, tmps := a.tmps, params := ps, assign, body, defers := w.heap.size }
 let V : World := (w.alloc (.deferred (some []))).alloc (.loop (R .ready none))
 have hs : V.heap.size = w.heap.size + 2 := by simp [V]
 have hL : V.heap[w.heap.size + 1]? = some (.loop (R .ready none)) := by
  have := World.alloc_heap_new (w.alloc (.deferred (some []))) (.loop (R .ready none))
  rwa [World.size_alloc] at this
 have hD : V.heap[w.heap.size]? = some (.deferred (some [])) := (Below.heap_alloc _ _ _ (by simp)).trans (World.alloc_heap_new w _)
 have hV : Below w.heap.size w V := ((Below.refl _ w).alloc (Nat.le_refl _) _).alloc (by simp) _
 refine ⟨w.heap.size + 1, [{ target := .collected w.heap.size, args := #[] }], V, { target := .fn (.func gf) lb, args := #[.func (.yield (w.heap.size + 1)) #[] #[]] }, V, gf,
  #[.func (.yield (w.heap.size + 1)) #[] #[]] ++ lb, V, run_enterLoop_outer _ _ _ _ _, ?_, fun _ _ => trivial, ?_, fun h => absurd h (by simp [Fence.wide]), ?_⟩
 ·simp only [resolve, hg]
  simp [go_sem]
 ·simp [invoke, go_sem, eg]
 have hnT : ¬ T (w.heap.size + 1) := fun h => by have := hT _ h; omega
 have hVa : Ka w.heap.size (w.heap.size + 2 + D₀) w V := ⟨hV.os, hV.tape, hV.output, hV.size, fun k hk _ => hV.block k hk⟩
 refine (hseq (w.heap.size + 1) (fun pre W => I pre W ∧ W.heap[w.heap.size + 1]? = some (.loop (R .ready none)) ∧ W.heap[w.heap.size]? = some (.deferred (some [])) ∧ w.heap.size + 2 ≤ W.heap.size) V hV
  (fun s A B hJ hb => ⟨hI s A B hJ.1 (hb.mono (by omega) (by omega)), (hb.block _ (by have := hJ.2.2.2; omega) (by omega)).trans hJ.2.1, (hb.block _ (by have := hJ.2.2.2; omega) (by omega)).trans hJ.2.2.1, Nat.le_trans hJ.2.2.2 hb.size⟩)
  ?_ ⟨hI _ _ _ h0 hVa, hL, hD, by omega⟩ _).mono ?_
 ·rintro pre x W ⟨hi, hl, hd, hsz⟩ hlen hszD
  refine ⟨fn, _, assign, body, run_yield (P := P) (args := encs x) hl (hps x), roundIn_of_wpIn hfn ?_⟩
  refine wpIn_mono (hround _ pre x W hi hlen (by omega)) ?_
  rintro e a₁ W₁ hp
  cases e with
  | normal =>
   obtain ⟨⟨hx1, hi1⟩, hbody⟩ := hp
   have hz1 := hx1.size
   have hl1 := (hx1.block (w.heap.size + 1) (by omega) (.inl ⟨by omega, by omega⟩)).trans hl
   have hd1 := (hx1.block w.heap.size (by omega) (.inl ⟨by omega, by omega⟩)).trans hd
   have hlt1 := (Array.getElem?_eq_some_iff.1 hl1).1
   refine ⟨_, run_beginRound hl1 rfl, ?_⟩
   have hl2 : (W₁.putObj (w.heap.size + 1) (.loop { R .ready none with state := .busy })).heap[w.heap.size + 1]? = some (.loop { R .ready none with state := .busy }) := World.putObj_heap_same hlt1
   have hd2 : (W₁.putObj (w.heap.size + 1) (.loop { R .ready none with state := .busy })).heap[w.heap.size]? = some (.deferred (some [])) := (World.putObj_heap_other (by omega)).trans hd1
   have hb2 : Below w.heap.size W₁ (W₁.putObj (w.heap.size + 1) (.loop { R .ready none with state := .busy })) := below_put _ _ (by omega)
   refine wpIn_mono (hbody _ (by simp) hb2 (fun k hk => World.putObj_heap_other hk) (hI _ _ _ hi1 (Ka.put _ _ (by omega) (by omega)))) ?_
   rintro e a₂ W₃ hp
   cases e with
   | normal =>
    obtain ⟨hx3, hi3⟩ := hp
    have hl3 := (hx3.block (w.heap.size + 1) (by simp; omega) (.inl ⟨by omega, by omega⟩)).trans hl2
    have hd3 := (hx3.block w.heap.size (by simp; omega) (.inl ⟨by omega, by omega⟩)).trans hd2
    have hlt3 := (Array.getElem?_eq_some_iff.1 hl3).1
    have hnk : ¬ ((V.heap.size ≤ w.heap.size + 1 ∧ w.heap.size + 1 < V.heap.size + D₀) ∨ T (w.heap.size + 1)) := fun h => by rcases h with h | h; omega; exact hnT h
    have hmo : ∀ {A B : World}, Ky T w.heap.size (w.heap.size + 2 + D₀) A B → Ky T V.heap.size (V.heap.size + D₀) A B := fun h => h.mono (fun k hk => by rcases hk with hk | hk; exact .inl ⟨by omega, by omega⟩; exact .inr hk)
    have hx : Ky T V.heap.size (V.heap.size + D₀) W W₃ := ((hmo hx1).trans (Ky.put _ _ hnk)).trans (hmo hx3)
    refine ⟨_, _, run_endRound none hl3, rfl, ⟨hI _ _ _ hi3 (Ka.put _ _ (by omega) (by omega)), World.putObj_heap_same hlt3, (World.putObj_heap_other (by omega)).trans hd3, ?_⟩, hx.trans (Ky.put _ _ hnk)⟩
    have := hx.size
    simp
    omega
   | ret => exact hp.elim
   | exit id => exact hp.elim
   | goto t => exact hp.elim
   | panic ch => exact hp.elim
   | outgrown => exact hp.elim
  | ret => exact hp.elim
  | exit id => exact hp.elim
  | goto t => exact hp.elim
  | panic ch => exact hp.elim
  | outgrown => exact hp.elim
 rintro e W₂ ⟨⟨v, rfl⟩, xs, hS, hi, hl, hd, _⟩
 exact ⟨none, _, run_endLoop hl (by simp [R]), hdone _ xs _ (Nat.le_refl _) (Nat.lt_succ_self _) hS (hI _ _ _ hi (Ka.put _ _ (by omega) (by omega))) ((World.putObj_heap_other (by omega)).trans hd)⟩
end
end Go.Proofs.YtjdikhelabibnaaGreat

namespace Go.Proofs.YtjdikhelabibnaaGreat
open Go.RowKit Go.Shelf
attribute [local go_sem] Oper.semAt_some
theorem SeqY.below {α : Type} {P : Program} {g : Nat} {lb : Array Value} {encs : α → Array Value} {T : Nat → Prop} {D : Nat} {S : List α → Prop} {N : Nat} {w w' : World} (h : SeqY P g lb encs T D S N w) (k : Below w.heap.size w w') : SeqY P g lb encs T D S N w' :=
 fun l J W hW hJ hY h0 n => h l J W (k.trans (hW.mono k.size)) hJ hY h0 n
end Go.Proofs.YtjdikhelabibnaaGreat

namespace Go.Proofs.YtjdikhelabibnaaGreat
open Go.RowKit Go.Shelf
attribute [local go_sem] Oper.semAt_some
end Go.Proofs.YtjdikhelabibnaaGreat

namespace Go.Proofs.YtjdikhelabibnaaGreat
open Go.RowKit Go.Shelf
section
variable {P : Program} (w : World)
end
theorem infoI : (Tryz.prog.info? 3).map (fun i => (i.zero, i.size, i.bytes)) = some (some (.int .i64 0), 1, 8) := by kernel_rfl
def OwnI (base : Nat) (w : World) (v : Value) (l : List Nat) : Prop := w.ownsRow base 3 1 v l.length ((ints l).map (Value.int .i64))
theorem OwnI.nil (base : Nat) (w : World) : OwnI base w (.slice none 0 0) [] := World.ownsRow_nil _ _ _ _
theorem OwnI.snoc {base : Nat} {w : World} {v : Value} {l : List Nat} {k : Nat} (h : w.ownsRow base 3 1 v (l.length + 1) ((ints l).map (Value.int .i64) ++ [.int .i64 (k : Int)])) : OwnI base w v (l ++ [k]) := by
 unfold OwnI
 rw [List.length_append, ints, List.map_append, List.map_append]
 exact h
theorem OwnI.keep {base : Nat} {w w' : World} {v : Value} {l : List Nat} (h : OwnI base w v l) (k : ∀ b, base ≤ b → b < w.heap.size → w'.heap[b]? = w.heap[b]?) : OwnI base w' v l := by
 refine ⟨h.1, ?_⟩
 rcases h.2 with h' | ⟨g, cap, cur, h1, h2, h3, h4⟩
 ·exact .inl h'
 exact .inr ⟨g, cap, cur, h1, h2, (k g h2 (Array.getElem?_eq_some_iff.1 h3).1).trans h3, h4⟩
theorem OwnI.shape {base : Nat} {w : World} {v : Value} {l : List Nat} (h : OwnI base w v l) : (v = .slice none 0 0 ∧ l = []) ∨ ∃ g cap, v = .slice (some ⟨g, 0, none⟩) l.length cap ∧ base ≤ g ∧ g < w.heap.size ∧ l.length ≤ cap ∧ cap ≤ maxLen ∧ ∀ j, j < l.length → w.cell? ⟨g, j, none⟩ = some (.int .i64 ((cf l j : Nat) : Int)) := by
 rcases h.2 with ⟨h', h0⟩ | ⟨g, cap, cur, h1, h2, h3, h4, h5, h6, h7⟩
 ·exact .inl ⟨h', List.eq_nil_of_length_eq_zero h0⟩
 refine .inr ⟨g, cap, h1, h2, (Array.getElem?_eq_some_iff.1 h3).1, h4, h5, fun j hj => ?_⟩
 have e : (cur.toList.take (l.length * 1))[j]? = ((ints l).map (Value.int .i64))[j]? := by rw [h7]
 rw [List.getElem?_take, if_pos (by omega), Array.getElem?_toList] at e
 have h8 : cur[j]? = some (.int .i64 ((cf l j : Nat) : Int)) := by
  rw [e, List.getElem?_map, ints, List.getElem?_map, cf_get hj]
  rfl
 simp [World.cell?, h3, h8]
theorem OwnI.arg {base : Nat} {w : World} {v : Value} {l : List Nat} (h : OwnI base w v l) : ∃ g, IArg w v g l ∧ base ≤ g := by
 rcases h.shape with ⟨rfl, rfl⟩ | ⟨g, cap, rfl, h1, h2, h3, h4, h5⟩
 ·exact ⟨base, ⟨none, 0, rfl, by simp, by simp, fun _ => rfl, .inl rfl⟩, Nat.le_refl _⟩
 refine ⟨g, ⟨some ⟨g, 0, none⟩, cap, rfl, h3, h4, (fun h => by cases h), .inr ⟨0, rfl, fun j hj => ?_⟩⟩, h1⟩
 rw [ints_len] at hj
 rw [Nat.zero_add, ints_getD]
 exact h5 j hj
theorem take_mem {ps : List Nat} {j k : Nat} (hj : j < ps.length) : k ∈ ps.take (j + 1) ↔ k ∈ ps.take j ∨ cf ps j = k := by
 have : ps.take (j + 1) = ps.take j ++ [cf ps j] := by
  rw [List.take_succ_eq_append_getElem hj]
  have := cf_get hj
  rw [List.getElem?_eq_getElem hj] at this
  simp at this
  rw [this]
 rw [this, List.mem_append, List.mem_singleton]
 exact ⟨fun h => h.imp id Eq.symm, fun h => h.imp id Eq.symm⟩
theorem ints_nodup {l : List Nat} (h : l.Nodup) : (ints l).Nodup := List.Pairwise.map _ (fun _ _ hne e => hne (by omega)) h
structure ZArg (w : World) (v : Value) (g : Nat) (zs : List Int) : Prop where
 ex : ∃ ao c, v = .slice ao zs.length c ∧ zs.length ≤ c ∧ c ≤ maxLen ∧ (ao = none → c = 0) ∧ IRow w ao g zs
 bd : ∀ z ∈ zs, -9223372036854775808 ≤ z ∧ z ≤ 9223372036854775807
theorem ZArg.below {w w' : World} {v : Value} {g : Nat} {l : List Int} (h : ZArg w v g l) (k : Below w.heap.size w w') : ZArg w' v g l := by
 obtain ⟨⟨ao, c, h1, h2, h3, h4, h5⟩, hb⟩ := h
 exact ⟨⟨ao, c, h1, h2, h3, h4, h5.below k⟩, hb⟩
theorem irow_some' {w : World} {ao : Option Addr} {g : Nat} {zs : List Int} (hr : IRow w ao g zs) (hs : 0 < zs.length) : ∃ o, ao = some ⟨g, o, none⟩ ∧ ∀ j, j < zs.length → w.cell? ⟨g, o + j, none⟩ = some (.int .i64 (zs.getD j 0)) := by
 rcases hr with h | ⟨o, h, hc⟩
 ·rw [h] at hs; simp at hs
 exact ⟨o, h, hc⟩
theorem ZArg.lt {w : World} {v : Value} {g : Nat} {zs : List Int} (h : ZArg w v g zs) (hs : zs ≠ []) : g < w.heap.size := by
 obtain ⟨⟨ao, c, _, _, _, _, h5⟩, _⟩ := h
 have hl : 0 < zs.length := List.length_pos_iff.2 hs
 obtain ⟨o, _, hc⟩ := irow_some' h5 hl
 exact block_lt_of_cell (hc 0 hl)
theorem take_getD {zs : List Int} {i : Nat} (h : i < zs.length) (z : Int) : z ∈ zs.take (i + 1) ↔ z ∈ zs.take i ∨ zs.getD i 0 = z := by
 rw [take_snoc _ _ h, List.mem_append, List.mem_singleton]
 exact ⟨fun h => h.imp id Eq.symm, fun h => h.imp id Eq.symm⟩
theorem getD_mem {zs : List Int} {i : Nat} (h : i < zs.length) : zs.getD i 0 ∈ zs := by
 rw [List.getD_eq_getElem?_getD, List.getElem?_eq_getElem h]
 exact List.getElem_mem h
theorem OwnI.z {base : Nat} {w : World} {v : Value} {l : List Nat} (h : OwnI base w v l) (hb : ∀ k ∈ l, k < 1000000) : ∃ g, ZArg w v g (ints l) ∧ base ≤ g := by
 obtain ⟨g, ⟨ao, c, h1, h2, h3, h4, h5⟩, hg⟩ := h.arg
 refine ⟨g, ⟨⟨ao, c, by rw [ints_len]; exact h1, by rw [ints_len]; exact h2, h3, h4, h5⟩, fun z hz => ?_⟩, hg⟩
 obtain ⟨k, hk, rfl⟩ := List.mem_map.1 hz
 have := hb k hk
 omega
theorem zarg_row {w : World} {ao : Option Addr} {n c g : Nat} {zs : List Int} (h : ZArg w (.slice ao n c) g zs) : IRow w ao g zs := by
 obtain ⟨⟨ao', c', h1, h2, h3, h4, h5⟩, hb⟩ := h
 injection h1 with e1 e2 e3
 subst e1
 exact h5
theorem OwnI.below {base : Nat} {w w' : World} {v : Value} {l : List Nat} (h : OwnI base w v l) (k : Below w.heap.size w w') : OwnI base w' v l := h.keep (fun b _ hb => k.block b hb)
theorem OwnI.mono {base b' : Nat} {w : World} {v : Value} {l : List Nat} (h : OwnI base w v l) (hb : b' ≤ base) : OwnI b' w v l := by
 refine ⟨h.1, ?_⟩
 rcases h.2 with h' | ⟨g, cap, cur, h1, h2, h3, h4⟩
 ·exact .inl h'
 exact .inr ⟨g, cap, cur, h1, Nat.le_trans hb h2, h3, h4⟩
end Go.Proofs.YtjdikhelabibnaaGreat

namespace Go.Proofs.YtjdikhelabibnaaGreat
open Go.RowKit Go.Shelf
attribute [local go_sem] Oper.semAt_some
theorem one_at {w : World} {g : Nat} {u : Value} (h : w.cell? ⟨g, 0, none⟩ = some u) : ∀ j v, [u][j]? = some v → w.cell? ((⟨g, 0, none⟩ : Addr).add j) = some v := by
 intro j v hv
 obtain ⟨hj, hv⟩ := List.getElem?_eq_some_iff.1 hv
 have : j = 0 := by simpa using hj
 subst this
 rw [Addr.add_lit]
 simp at hv
 rw [← hv]
 exact h
set_option maxRecDepth 100000 in
set_option maxHeartbeats 4000000 in
theorem appendSeq_any {α : Type} (gf : Nat) (lb : Array Value) (p : α → Nat) (D N : Nat) (S : List α → Prop) (hN : N ≤ 100000) (w : World) (hen : ∀ args W, (callFunc gf args).run Tryz.prog W = .ok (.enter gf args) W)
  (hseq : SeqY Tryz.prog gf lb (fun x : α => #[.int .i64 (p x : Nat)]) (fun k => k < w.heap.size) D S N w) :
  Calls Tryz.prog 95 #[.slice none 0 0, .func (.func gf) #[] lb] w fun e w' => ∃ v xs, e = .returned v ∧ S xs ∧ OwnI w.heap.size w' v (xs.map p) ∧ Below w.heap.size w w' := by
 refine (callsIn_wide (n := 3)).1 ?_
 refine callsIn_of_wp_marks Tryz.func95 rfl trivial ?_ rfl
 simp only [Tryz.ntmps95, List.size_toArray, List.length_cons, List.length_nil, Nat.reduceAdd, Nat.reduceSub, Array.replicate_succ, Array.replicate_zero, List.push_toArray, List.append_toArray, List.nil_append, List.cons_append]
 gi_wp2
 have HB1 := hide ((Below.refl _ w).alloc (Nat.le_refl _) (.cells #[.slice none 0 0] 34))
 have HC1 := hide (cell_new' w (.slice none 0 0) 34)
 have HZ1 : Hid ((w.alloc (.cells #[.slice none 0 0] 34)).heap.size = w.heap.size + 1) := World.size_alloc _ _
 obtain ⟨w1, hw1⟩ : ∃ w1, w.alloc (.cells #[.slice none 0 0] 34) = w1 := ⟨_, rfl⟩
 rw [hw1] at HB1 HC1 HZ1 ⊢
 clear hw1
 have hz1a := Nat.le_of_eq (uh HZ1)
 have hz1b := Nat.le_of_eq (uh HZ1).symm
 obtain ⟨i0, hi0, hz0, hzz1, hz2⟩ := info_parts infoI
 have HI := hide hi0
 clear hi0
 refine wpIn_range_y (gf := gf) (lb := lb) rfl hen (hseq.below (uh HB1)) (fun k hk => by omega) (fun _ => rfl)
  (fun pre A => ∃ v, (A.cell? ⟨w.heap.size, 0, none⟩ = some v ∧ A.frozen? ⟨w.heap.size, 0, none⟩ = false) ∧ OwnI (w1.heap.size + 2 + D) A v (pre.map p) ∧ Below w.heap.size w A ∧ w1.heap.size ≤ A.heap.size)
  (fun s A B h hb => by
   obtain ⟨v, ⟨h1, h2⟩, h3, h4, h5⟩ := h
   have hkb := hb.block w.heap.size (by omega) (by omega)
   exact ⟨v, ⟨(World.cell?_of_block hkb).trans h1, (World.frozen?_of_block (a := ⟨w.heap.size, 0, none⟩) hkb).trans h2⟩, h3.keep (fun b h6 h7 => hb.block b h7 (by omega)), h4.trans ((hb.below (by omega)).mono (by omega)), Nat.le_trans h5 hb.size⟩)
  ⟨.slice none 0 0, uh HC1, OwnI.nil _ _, uh HB1, Nat.le_refl _⟩ ?round ?done
 case done =>
  rintro D1 xs A hD hD2 hxs ⟨v, ⟨hc, hf⟩, hO, hB, hzA⟩ hK
  have HO := hide hO
  have HB := hide hB
  obtain ⟨vo, vn, vc, hv⟩ : ∃ vo vn vc, v = .slice vo vn vc := by
   rcases hO.shape with ⟨h1, h2⟩ | ⟨q, cq, h1, _⟩
   ·exact ⟨_, _, _, h1⟩
   exact ⟨_, _, _, h1⟩
  subst hv
  clear hO hB
  gi_wp2
  refine ⟨by simp, .inl ⟨_, _, rfl, run_takeDeferred hK, ?_⟩⟩
  exact ⟨_, results_tmp rfl _ _ _, _, xs, rfl, hxs, ((uh HO).keep (fun b h1 h2 => World.putObj_heap_other (by omega))).mono (by omega), (uh HB).trans (below_put _ _ (by omega))⟩
 case round =>
  rintro l pre x A ⟨v, ⟨hc, hf⟩, hO, hB, hzA⟩ hlen hs2A
  gi_wp2
  refine ⟨⟨Ky.refl _ _ _ _, v, ⟨hc, hf⟩, hO, hB, hzA⟩, ?_⟩
  clear hc hf hO hB v
  rintro W₂ hsz2 - - ⟨v, ⟨hc, hf⟩, hO, hB, hz3⟩
  have hsz3 : w1.heap.size + 2 + D ≤ W₂.heap.size := by omega
  clear hsz2
  have HO := hide hO
  have HB := hide hB
  obtain ⟨vo, vn, vc, hv⟩ : ∃ vo vn vc, v = .slice vo vn vc := by
   rcases hO.shape with ⟨h1, h2⟩ | ⟨q, cq, h1, _⟩
   ·exact ⟨_, _, _, h1⟩
   exact ⟨_, _, _, h1⟩
  subst hv
  have HAL := hide ((Below.refl _ W₂).alloc (Nat.le_refl _) (.cells #[.int .i64 ((p x : Nat) : Int)] 3))
  have HO2 : Hid (OwnI (w1.heap.size + 2 + D) (W₂.alloc (.cells #[.int .i64 ((p x : Nat) : Int)] 3)) (.slice vo vn vc) (pre.map p)) := hO.below (uh HAL)
  have HC2 := hide (cell_new' W₂ (.int .i64 ((p x : Nat) : Int)) 3).1
  have HL : Hid ((pre.map p).length = pre.length) := List.length_map _
  clear hO hB
  gi_wp2_with (gi_at_builtin; refine wpListIn_append_own _ rfl _ _ 34 rfl (w1.heap.size + 2 + D) 3 i0 (.int .i64 0) 1 8 Tryz.underlying34 (uh HI) hz0 hzz1 hz2 rfl (by decide) (.slice vo vn vc) (pre.map p).length _ rfl (uh HO2) ⟨W₂.heap.size, 0, none⟩ 1 1 [.int .i64 ((p x : Nat) : Int)] rfl (by simp) (one_at (uh HC2)) (ints_oneCell .i64 [((p x : Nat) : Int)]) (by rw [uh HL]; unfold maxLen; omega) (by rw [uh HL]; omega) (by simp; omega) ?_)
  intro v' w' ho hg _
  have hO3 : OwnI (w1.heap.size + 2 + D) w' v' (pre.map p ++ [p x]) := OwnI.snoc (by rw [List.length_map]; exact ho)
  have hrow : ∀ k, (Value.slice vo vn vc).ownBlock = some k → w1.heap.size + 2 + D ≤ k := fun k e => by
   rcases (uh HO2).shape with ⟨h1, _⟩ | ⟨q, cq, h1, h2, _⟩
   ·rw [h1] at e; cases e
   rw [h1] at e; cases e; exact h2
  have hbx : w'.heap[w.heap.size]? = W₂.heap[w.heap.size]? := (hg.block w.heap.size (by simp; omega) (fun e => by have := hrow _ e.symm; omega)).trans ((uh HAL).block _ (by omega))
  have hc' := (World.cell?_of_block (a := ⟨w.heap.size, 0, none⟩) hbx).trans hc
  have hf' := (World.frozen?_of_block (a := ⟨w.heap.size, 0, none⟩) hbx).trans hf
  have HO3 := hide hO3
  have hzs := hg.size
  rw [World.size_alloc] at hzs
  have HKY : Hid (Ky (fun k => k < w.heap.size) w1.heap.size (w1.heap.size + 2 + D) W₂ w') := (Ky.of_below (uh HAL)).trans (Ky.grown hg (fun k e h => by have := hrow k e; rcases h with h | h <;> omega))
  have HBW : Hid (Below w.heap.size w w') := ((uh HB).trans ((uh HAL).mono (by omega))).trans ⟨hg.os, hg.tape, hg.output, hg.size, fun k hk => hg.block k (by simp; omega) (fun e => by have := hrow k e.symm; omega)⟩
  obtain ⟨uo, un, uc, hv'⟩ : ∃ uo un uc, v' = .slice uo un uc := by
   rcases hO3.shape with ⟨h1, h2⟩ | ⟨q, cq, h1, _⟩
   ·exact ⟨_, _, _, h1⟩
   exact ⟨_, _, _, h1⟩
  subst hv'
  clear hO3 hrow hbx ho hg hc hf
  gi_wp2
  refine ⟨(uh HKY).trans (Ky.set _ _ (by dsimp only; omega)), _, ⟨World.cell?_setCell_same' _ _ _ (by rw [hc']; rfl), by rw [World.frozen?_setCell]; exact hf'⟩, ?_, (uh HBW).setCell (p := ⟨w.heap.size, 0, none⟩) (Nat.le_refl _) _, by simp [World.setCell]; omega⟩
  rw [List.map_append]
  exact (uh HO3).keep (fun b h1 h2 => Below.heap_setCell _ _ _ _ (by dsimp only; omega))
set_option maxHeartbeats 1000000 in
theorem collect_any {α : Type} (gf : Nat) (lb : Array Value) (p : α → Nat) (D N : Nat) (S : List α → Prop) (hN : N ≤ 100000) (w : World) (hen : ∀ args W, (callFunc gf args).run Tryz.prog W = .ok (.enter gf args) W)
  (hseq : SeqY Tryz.prog gf lb (fun x : α => #[.int .i64 (p x : Nat)]) (fun k => k < w.heap.size) D S N w) :
  Calls Tryz.prog 61 #[.func (.func gf) #[] lb] w fun e w' => ∃ v xs, e = .returned v ∧ S xs ∧ OwnI w.heap.size w' v (xs.map p) ∧ Below w.heap.size w w' := by
 go_enter Tryz.func61, Tryz.ntmps61
 go_wp2_with fail
 refine (appendSeq_any gf lb p D N S hN w hen hseq).mono ?_
 rintro e w' ⟨v, xs, rfl, h1, h2, h3⟩
 have HO := hide h2
 clear h2
 go_wp2
 go_ret
 exact ⟨v, xs, rfl, h1, uh HO, h3⟩
end Go.Proofs.YtjdikhelabibnaaGreat

namespace Go.Proofs.YtjdikhelabibnaaGreat
open Go.RowKit Go.Shelf
theorem own_none (w : World) (e : TypeId) : (w.alloc (.cells #[] e)).ownsRow w.heap.size e 1 (.slice (some ⟨w.heap.size, 0, none⟩) 0 0) 0 [] := by
 exact ⟨rfl, .inr ⟨w.heap.size, 0, #[], rfl, Nat.le_refl _, World.alloc_heap_new w _, by simp, by simp, rfl, rfl⟩⟩
theorem below_grown {n : Nat} {a w w' : World} {row : Option Nat} (h : Below n a w) (hg : w.grownBy w' row) (hn : n ≤ w.heap.size) (hr : ∀ k, row = some k → n ≤ k) : Below n a w' :=
 ⟨hg.os.trans h.os, hg.tape.trans h.tape, hg.output.trans h.output, Nat.le_trans h.size hg.size, fun k hk => (hg.block k (by omega) (fun e => by have := hr k e.symm; omega)).trans (h.block k hk)⟩
end Go.Proofs.YtjdikhelabibnaaGreat

namespace Go.Proofs.YtjdikhelabibnaaGreat
def gp (x : Nat) : Nat → Nat
 | 0 => 1
 | e + 1 => gmul (gp x e) x
def xsum (f : Nat → Nat) (xs : List Nat) : Nat := xs.foldr (fun x s => f x ^^^ s) 0
@[simp] theorem xsum_nil (f : Nat → Nat) : xsum f [] = 0 := rfl
@[simp] theorem xsum_cons (f : Nat → Nat) (x : Nat) (xs : List Nat) : xsum f (x :: xs) = f x ^^^ xsum f xs := rfl
theorem xsum_lt {f : Nat → Nat} {xs : List Nat} (h : ∀ x ∈ xs, f x < 256) : xsum f xs < 256 := by
 induction xs with
 | nil => simp
 | cons x xs ih => exact xor_lt (h x List.mem_cons_self) (ih (fun y hy => h y (List.mem_cons_of_mem _ hy)))
theorem xsum_xor (f g : Nat → Nat) (xs : List Nat) : xsum (fun x => f x ^^^ g x) xs = xsum f xs ^^^ xsum g xs := by
 induction xs with
 | nil => simp
 | cons x xs ih => rw [xsum_cons, xsum_cons, xsum_cons, ih, xor_four]
theorem xsum_congr {f g : Nat → Nat} {xs : List Nat} (h : ∀ x ∈ xs, f x = g x) : xsum f xs = xsum g xs := by
 induction xs with
 | nil => rfl
 | cons x xs ih => rw [xsum_cons, xsum_cons, h x List.mem_cons_self, ih (fun y hy => h y (List.mem_cons_of_mem _ hy))]
theorem xsum_nought {f : Nat → Nat} {xs : List Nat} (h : ∀ x ∈ xs, f x = 0) : xsum f xs = 0 := by
 induction xs with
 | nil => rfl
 | cons x xs ih => rw [xsum_cons, h x List.mem_cons_self, ih (fun y hy => h y (List.mem_cons_of_mem _ hy))]; rfl
theorem xsum_append (f : Nat → Nat) (xs ys : List Nat) : xsum f (xs ++ ys) = xsum f xs ^^^ xsum f ys := by
 induction xs with
 | nil => simp
 | cons x xs ih => rw [List.cons_append, xsum_cons, xsum_cons, ih, Nat.xor_assoc]
theorem xsum_perm {f : Nat → Nat} {xs ys : List Nat} (h : xs.Perm ys) : xsum f xs = xsum f ys := by
 induction h with
 | nil => rfl
 | cons x _ ih => rw [xsum_cons, xsum_cons, ih]
 | swap x y l => rw [xsum_cons, xsum_cons, xsum_cons, xsum_cons, xor_swap]
 | trans _ _ h1 h2 => exact h1.trans h2
end Go.Proofs.YtjdikhelabibnaaGreat

namespace Go.Proofs.YtjdikhelabibnaaGreat
open Go.RowKit Go.Shelf
end Go.Proofs.YtjdikhelabibnaaGreat
