/-
  page.joined: of two pieces, what is made of each, one behind the other.
-/
import Derived.Test.YtjdikhelabibnabGreatP8c
import Derived.RangeFuncBox
import Derived.OwnWalkIn
namespace Go.Proofs.YtjdikhelabibnabGreat
open Go.RowKit Go.Shelf
attribute [local go_sem] Oper.semAt_some

theorem boxed_own {β : Type} (B : Nat) (t : TypeId) (u : Value) : Own (fun (_ : β) W => Boxed W B t u) := fun _ X _ _ h hg hr => h.kept hg (fun e => by
  obtain ⟨o, ho, hc⟩ := hr B e.symm
  rw [show X.heap[B]? = _ from h] at ho
  cases ho
  cases hc)
theorem Arg.piece {w : World} {g o n c k m : Nat} {s : List Nat} (h : Arg w (.slice (some ⟨g, o, none⟩) n c) g s) (hk : k + m ≤ n) : Arg w (.slice (some ⟨g, o + k, none⟩) m m) g ((s.drop k).take m) := by
  obtain ⟨⟨ao, c', h1, h2, h3, h4, h5⟩, hb⟩ := h
  cases h1
  have hl : ((s.drop k).take m).length = m := by rw [List.length_take, List.length_drop]; omega
  refine ⟨⟨some ⟨g, o + k, none⟩, m, by rw [hl], by omega, by omega, (fun h => by cases h), row_sub (s := s) (k := k) (fun j hj => ?_) h5⟩, fun i => ?_⟩
  · rw [hl] at hj
    refine ⟨by omega, ?_⟩
    rw [← cf_getD, ← cf_getD, List.getD_eq_getElem?_getD, List.getD_eq_getElem?_getD, List.getElem?_take, if_pos hj, List.getElem?_drop]
  · rw [← cf_getD, List.getD_eq_getElem?_getD, List.getElem?_take]
    split
    · rw [List.getElem?_drop, ← List.getD_eq_getElem?_getD, cf_getD]; exact hb _
    · simp
theorem results_cells2 {P : Program} {fn : Func} {p q : Tmp} {t u : TypeId} (h : fn.results = #[.cell p t, .cell q u]) (tmps : Array Value) (w : World) (a b : Addr) (x y : Value) (hp : tmps.getD p undef = .pointer (some a)) (hq : tmps.getD q undef = .pointer (some b)) (hx : (loadVar t a).run P w = .ok x w) (hy : (loadVar u b).run P w = .ok y w) :
    (results fn tmps).run P w = .ok (.tuple #[x, y]) w := by
  rw [Array.getD_eq_getD_getElem?] at hp hq
  simp only [results, h]
  simp [Result.andThen, hp, hq, asAddr, hx, hy]
theorem load_sl (w : World) (ad : Addr) (x : Value) (hc : w.cell? ad = some x) : (loadVar 33 ad).run Tryz.prog w = .ok x w := by
  have hu := Tryz.underlying33
  simp [loadVar, isAgg, run_underlying hu, run_load, hc]
theorem load_bl (w : World) (ad : Addr) (x : Value) (hc : w.cell? ad = some x) : (loadVar 4 ad).run Tryz.prog w = .ok x w := by
  have hu := Tryz.underlying4
  simp [loadVar, isAgg, run_underlying hu, run_load, hc]

theorem owns_below {w w' : World} {base n size : Nat} {e : TypeId} {v : Value} {xs : List Value} (h : w.ownsRow base e size v n xs) (k : Below w.heap.size w w') : w'.ownsRow base e size v n xs :=
  h.kept (row := none) ⟨k.os, k.tape, k.output, k.size, fun j hj _ => k.block j hj⟩ (Classical.em _)
theorem Boxed.below {w w' : World} {B : Nat} {t : TypeId} {v : Value} (h : Boxed w B t v) (k : Below w.heap.size w w') : Boxed w' B t v := (k.block _ h.lt).trans h
theorem Boxed.app {W w1 : World} {n₀ B : Nat} {t e : TypeId} {v v' : Value} {k m : Nat} {xs ys : List Value}
    (hv : Boxed W B t v) (hte : t ≠ e) (hrow : W.ownsRow n₀ e 1 v k xs) (hn₀ : n₀ ≤ W.heap.size) (hown' : w1.ownsRow n₀ e 1 v' m ys) (hgrow : W.grownBy w1 v.ownBlock) :
    Boxed w1 B t v ∧ Boxed (w1.setCell ⟨B, 0, none⟩ v') B t v' ∧ (w1.setCell ⟨B, 0, none⟩ v').ownsRow n₀ e 1 v' m ys ∧ KeepsOthers W (w1.setCell ⟨B, 0, none⟩ v') ∧ W.heap.size ≤ (w1.setCell ⟨B, 0, none⟩ v').heap.size ∧
      (∀ k, k < n₀ → k ≠ B → (w1.setCell ⟨B, 0, none⟩ v').heap[k]? = W.heap[k]?) ∧ (∀ b, b ≤ n₀ → b ≤ B → Below b W (w1.setCell ⟨B, 0, none⟩ v')) := by
  have hv1 : Boxed w1 B t v := hv.kept hgrow (hv.not_row hte hrow)
  have hblk : ∀ k, k < n₀ → k ≠ B → (w1.setCell ⟨B, 0, none⟩ v').heap[k]? = W.heap[k]? := fun k hk hB => by
    refine (Below.heap_setCell _ _ _ _ (by simpa using hB)).trans (hgrow.block k (by omega) (fun e => ?_))
    have := (hrow.lt k e.symm).1
    omega
  refine ⟨hv1, hv1.set v', hown'.kept (grownBy_setCell' w1 B v') (.inr (hv1.not_row hte hown').symm), ?_, ?_, hblk, fun b hb hbB => ⟨hgrow.os, hgrow.tape, hgrow.output, ?_, fun k hk => hblk k (by omega) (by omega)⟩⟩
  · refine (KeepsOthers.of_grownBy hgrow fun j o ej hj => ?_).trans (KeepsOthers.setCell _ _ _)
    rcases hrow.2 with ⟨rfl, _⟩ | ⟨g, cap, cur, rfl, _, hgb, _⟩
    · simp [Value.ownBlock] at ej
    · obtain rfl : g = j := by simpa [Value.ownBlock] using ej
      rw [hgb] at hj; cases hj; rfl
  · simpa [World.setCell] using hgrow.size
  · simpa [World.setCell] using hgrow.size
theorem acc_le {out : Fin 2 → List Nat} {m : Nat} (h : ∀ x, (out x).length ≤ m) {pre : List (Fin 2)} {n : Nat} (hn : pre.length * m ≤ n) : (pre.flatMap out).length ≤ n := by
  refine Nat.le_trans ?_ hn
  clear hn
  induction pre with
  | nil => simp
  | cons x l ih =>
    rw [List.flatMap_cons, List.length_append, List.length_cons, Nat.add_mul]
    have := h x
    omega
theorem two_of {ys : List (Fin 2)} (h : ys.map Fin.val = [0, 1]) : ys = [0, 1] := by
  have hl : ys.length = 2 := by have := congrArg List.length h; simpa using this
  match ys, hl with
  | [a, b], _ =>
    simp at h
    simp [Fin.ext_iff, h]

end Go.Proofs.YtjdikhelabibnabGreat
