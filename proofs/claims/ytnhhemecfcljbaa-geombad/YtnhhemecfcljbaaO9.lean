/-
  Arguments that are opened: a geometry; places (die, block).
-/
import Derived.Test.YtnhhemecfcljbaaK9a
import Derived.WalkKit
import Derived.ProofKit
import Derived.OpenShut
import Derived.Deep.Strs
import Derived.Deep.Slices
namespace Go.Proofs.Ytnhhemecfcljbaa
open Go Go.RowKit

theorem len3 {α : Type} {l : List α} (h : l.length = 3) : ∃ a b c, l = [a, b, c] := by
  match l, h with
  | [a, b, c], _ => exact ⟨a, b, c, rfl⟩
theorem len2 {α : Type} {l : List α} (h : l.length = 2) : ∃ a b, l = [a, b] := by
  match l, h with
  | [a, b], _ => exact ⟨a, b, rfl⟩

section
variable {H : Type} {enc : TypeId × Value → H} {w : World} {base : Nat} {spare : Nat → Bool} {held : Bool} {fuel : Nat} {cs : List Value} {x : DataW H × List MemPlace}

theorem cells_I : Try.prog.cellsOf 3 = 1 := by kernel_rfl
theorem cells_TA : Try.prog.cellsOf 39 = 2 := by kernel_rfl
theorem cells_TG : Try.prog.cellsOf 23 = 3 := by kernel_rfl

set_option maxRecDepth 100000 in
theorem open_geo (h : DataW.trod enc Try.prog w base spare held fuel 23 cs = some x) : ∃ a b c, cs = [.int .i64 a, .int .i64 b, .int .i64 c] := by
  obtain ⟨y0, y1, y2, n, _, hl, t0, t1, t2⟩ := Go.Deep.trod_struct3 Try.underlying23 h
  rw [cells_TG] at hl
  obtain ⟨c0, c1, c2, rfl⟩ := len3 hl
  obtain ⟨a, e0, _⟩ := DataW.trod_int Try.underlying3 t0
  obtain ⟨b, e1, _⟩ := DataW.trod_int Try.underlying3 t1
  obtain ⟨c, e2, _⟩ := DataW.trod_int Try.underlying3 t2
  rw [cells_I] at e0 e1 e2
  simp at e0 e1 e2
  exact ⟨a, b, c, by rw [e0, e1, e2]⟩

set_option maxRecDepth 100000 in
theorem open_two (h : DataW.trod enc Try.prog w base spare held fuel 39 cs = some x) : ∃ a b, cs = [.int .i64 a, .int .i64 b] := by
  obtain ⟨xs, m, _, _, hl, hn, hf⟩ := DataW.trod_array Try.underlying39 h
  rw [cells_TA] at hl
  obtain ⟨c0, c1, rfl⟩ := len2 hl
  obtain ⟨x0, x1, rfl⟩ := len2 hn
  have f0 := (hf 0 (by omega)).trans (show ([x0, x1] : List _)[0]? = some x0 from rfl)
  have f1 := (hf 1 (by omega)).trans (show ([x0, x1] : List _)[1]? = some x1 from rfl)
  obtain ⟨a, e0, _⟩ := DataW.trod_int Try.underlying3 f0
  obtain ⟨b, e1, _⟩ := DataW.trod_int Try.underlying3 f1
  rw [cells_I] at e0 e1
  simp at e0 e1
  exact ⟨a, b, by rw [e0, e1]⟩

/-- Two cells side by side. -/
theorem two_cells {a : Addr} {c0 c1 : Value} (h : w.cells? base a 2 = some [c0, c1]) : w.cell? a = some c0 ∧ w.cell? (a.add 1) = some c1 := by
  unfold World.cells? at h
  split at h
  · simp only [List.range_succ, List.range_zero, List.nil_append, List.cons_append, List.mapM_cons, List.mapM_nil] at h
    have e0 : a.add 0 = a := by simp [Addr.add]
    rw [e0] at h
    cases h0 : w.cell? a with
    | none => simp [h0] at h
    | some v0 =>
      cases h1 : w.cell? (a.add 1) with
      | none => simp [h0, h1] at h
      | some v1 =>
        simp [h0, h1] at h
        rw [h.1, h.2]
        exact ⟨rfl, rfl⟩
  · cases h

theorem addr_shape {w : World} {a : Addr} {v : Value} (h : w.cell? a = some v) : a = ⟨a.block, a.off, none⟩ := by
  unfold World.cell? at h
  obtain ⟨b, o, s⟩ := a
  cases s with
  | none => rfl
  | some s =>
    simp only at h
    split at h <;> simp_all

set_option maxRecDepth 100000 in
theorem open_places {fuel : Nat} (h : DataW.trod enc Try.prog w base spare held fuel 24 cs = some x) : ∃ v g l, cs = [v] ∧ PArg w v g l := by
  rcases Go.Deep.open_slice Try.underlying24 h with ⟨rfl, _⟩ | ⟨a, len, cap, m, n, D, Pl, rfl, _, hl, hm, hm2, _, hel⟩
  · exact ⟨_, 0, [], rfl, PArg.nil w⟩
  · have hlm : len ≤ m := by rw [hm2]; split <;> omega
    have hp : ∀ i : Nat, i < len → ∃ p : Int × Int, w.cell? (a.add (i * 2)) = some (.int .i64 p.1) ∧ w.cell? ((a.add (i * 2)).add 1) = some (.int .i64 p.2) := fun i hi => by
      obtain ⟨cs', h1, h2⟩ := hel i (by omega)
      rw [cells_TA] at h1
      obtain ⟨p, q, rfl⟩ := open_two h2
      obtain ⟨g1, g2⟩ := two_cells h1
      exact ⟨(p, q), g1, g2⟩
    have hfun : ∃ f : Nat → Int × Int, ∀ i : Nat, i < len → w.cell? (a.add (i * 2)) = some (.int .i64 (f i).1) ∧ w.cell? ((a.add (i * 2)).add 1) = some (.int .i64 (f i).2) :=
      ⟨fun i => if h : i < len then (hp i h).choose else (0, 0), fun i hi => by simp only [dif_pos hi]; exact (hp i hi).choose_spec⟩
    obtain ⟨f, hf⟩ := hfun
    refine ⟨_, a.block, (List.range len).map f, rfl, some a, cap, by simp, by simpa using hl, hm, fun hne => ⟨a.off, ?_, fun i hi => ?_⟩⟩
    · have h0 : 0 < len := by
        rcases Nat.eq_zero_or_pos len with h | h
        · subst h; exact absurd rfl hne
        · exact h
      have := (hf 0 h0).1
      rw [Nat.zero_mul] at this
      have e : a.add 0 = a := by simp [Addr.add]
      rw [e] at this
      exact congrArg some (addr_shape this)
    · have hi' : i < len := by simpa using hi
      have h0 : 0 < len := by omega
      have hs := (hf 0 h0).1
      rw [Nat.zero_mul] at hs
      have e : a.add 0 = a := by simp [Addr.add]
      rw [e] at hs
      have hsh := addr_shape hs
      obtain ⟨b, o, s⟩ := a
      simp only [Addr.mk.injEq, true_and] at hsh
      subst hsh
      have h1 := hf i hi'
      rw [Addr.add_lit, Addr.add_lit] at h1
      have e2 : ((List.range len).map f).getD i (0, 0) = f i := by simp [List.getD_eq_getElem?_getD, hi']
      rw [e2]
      exact h1
end
end Go.Proofs.Ytnhhemecfcljbaa
