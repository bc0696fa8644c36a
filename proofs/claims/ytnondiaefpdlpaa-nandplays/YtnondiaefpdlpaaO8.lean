/-
  Arguments that are opened: acts.
-/
import Derived.Test.YtnondiaefpdlpaaO7
import Derived.Test.YtnondiaefpdlpaaMb
import Derived.OpenShut
import Derived.ChangeSlices
import Derived.DataReads
namespace Go.Proofs.Ytnondiaefpdlpaa
open Go Go.RowKit Go.ChangeShapes Go.WideShapes Go.ChangeAt

/-- An act. -/
structure AD where
  k : Int
  d : Int
  b : Int
  p : Int
  n : Int
  bo : Option Addr
  bn : Nat
  bc : Nat
  gb : Nat
  x : List Nat
  lo : Option Addr
  ln : Nat
  lc : Nat
  gl : Nat
  z : List Int
def AD.arr (a : AD) : Array Value := #[.int .i64 a.k, .int .i64 a.d, .int .i64 a.b, .int .i64 a.p, .int .i64 a.n, .slice a.bo a.bn a.bc, .slice a.lo a.ln a.lc]
/-- Its rows lie there. -/
structure AD.Ok (w : World) (a : AD) : Prop where
  hb : Arg w (.slice a.bo a.bn a.bc) a.gb a.x
  hl : ZArg w (.slice a.lo a.ln a.lc) a.gl a.z
/-- Acts in memory. -/
structure AArg (w : World) (v : Value) (g : Nat) (l : List AD) : Prop where
  ex : ∃ ao c, v = .slice ao l.length c ∧ l.length ≤ c ∧ c ≤ maxLen ∧ (l ≠ [] → ∃ o, ao = some ⟨g, o, none⟩ ∧ ∀ i a, l[i]? = some a → (∀ j v, a.arr[j]? = some v → w.cell? ⟨g, o + i * 7 + j, none⟩ = some v) ∧ a.Ok w)
theorem AArg.nil (w : World) : AArg w (.slice none 0 0) 0 [] := ⟨none, 0, rfl, by simp, by simp, fun h => absurd rfl h⟩

theorem len7 {α : Type} {l : List α} (h : l.length = 7) : ∃ a b c d e f g, l = [a, b, c, d, e, f, g] := by
  match l, h with
  | [a, b, c, d, e, f, g], _ => exact ⟨a, b, c, d, e, f, g, rfl⟩

section
variable {H : Type} {enc : TypeId × Value → H} {w : World} {base : Nat} {spare : Nat → Bool} {held : Bool} {fuel : Nat} {cs : List Value} {x : DataW H × List MemPlace}
theorem cells_B : Try.prog.cellsOf 38 = 1 := by kernel_rfl
theorem cells_LI : Try.prog.cellsOf 24 = 1 := by kernel_rfl
theorem cells_TC : Try.prog.cellsOf 40 = 7 := by kernel_rfl

theorem open_bs (h : DataW.trod enc Try.prog w base spare held fuel 38 cs = some x) : ∃ a n c g s, cs = [.slice a n c] ∧ Arg w (.slice a n c) g s := by
  rcases open_ints Try.underlying38 Try.underlying5 (by kernel_rfl) h with ⟨hcs, _⟩ | ⟨y, l, c, zs, hcs, _, hl, hm, hz, _, hcell, hwz⟩
  · exact ⟨none, 0, 0, 0, [], hcs, nil_arg w⟩
  · have hlz : l ≤ zs.length := by rw [hz]; split <;> omega
    obtain ⟨g, p1, p2, p3⟩ := row_in hlz rfl hcell hwz
    exact ⟨some y, l, c, g, _, hcs, arg_in p1 p2 p3 hl (fun h => by cases h) hm⟩
theorem open_zs (h : DataW.trod enc Try.prog w base spare held fuel 24 cs = some x) : ∃ a n c g s, cs = [.slice a n c] ∧ ZArg w (.slice a n c) g s := by
  rcases open_ints Try.underlying24 Try.underlying3 (by kernel_rfl) h with ⟨hcs, _⟩ | ⟨y, l, c, zs, hcs, _, hl, hm, hz, _, hcell, hwz⟩
  · exact ⟨none, 0, 0, 0, [], hcs, ⟨none, 0, rfl, by simp, by simp, fun _ => rfl, .inl rfl⟩, by simp⟩
  · have hlz : l ≤ zs.length := by rw [hz]; split <;> omega
    obtain ⟨g, p1, p2, p3⟩ := irow_in hlz rfl hcell hwz
    exact ⟨some y, l, c, g, _, hcs, zarg_in p1 p2 p3 hl (fun h => by cases h) hm⟩

set_option maxRecDepth 100000 in
theorem open_act (h : DataW.trod enc Try.prog w base spare held fuel 40 cs = some x) : ∃ a : AD, cs = a.arr.toList ∧ a.Ok w := by
  obtain ⟨xs, m, _, _, hl, hn, hf⟩ := DataW.trod_struct Try.underlying40 h
  rw [cells_TC] at hl
  obtain ⟨c0, c1, c2, c3, c4, c5, c6, rfl⟩ := len7 hl
  obtain ⟨x0, x1, x2, x3, x4, x5, x6, rfl⟩ := len7 hn
  have f0 := (hf 0 _ rfl).trans (show ([x0, x1, x2, x3, x4, x5, x6] : List _)[0]? = some x0 from rfl)
  have f1 := (hf 1 _ rfl).trans (show ([x0, x1, x2, x3, x4, x5, x6] : List _)[1]? = some x1 from rfl)
  have f2 := (hf 2 _ rfl).trans (show ([x0, x1, x2, x3, x4, x5, x6] : List _)[2]? = some x2 from rfl)
  have f3 := (hf 3 _ rfl).trans (show ([x0, x1, x2, x3, x4, x5, x6] : List _)[3]? = some x3 from rfl)
  have f4 := (hf 4 _ rfl).trans (show ([x0, x1, x2, x3, x4, x5, x6] : List _)[4]? = some x4 from rfl)
  have f5 := (hf 5 _ rfl).trans (show ([x0, x1, x2, x3, x4, x5, x6] : List _)[5]? = some x5 from rfl)
  have f6 := (hf 6 _ rfl).trans (show ([x0, x1, x2, x3, x4, x5, x6] : List _)[6]? = some x6 from rfl)
  obtain ⟨k, e0, _⟩ := DataW.trod_int Try.underlying3 f0
  obtain ⟨d, e1, _⟩ := DataW.trod_int Try.underlying3 f1
  obtain ⟨b, e2, _⟩ := DataW.trod_int Try.underlying3 f2
  obtain ⟨p, e3, _⟩ := DataW.trod_int Try.underlying3 f3
  obtain ⟨n, e4, _⟩ := DataW.trod_int Try.underlying3 f4
  obtain ⟨bo, bn, bc, gb, s, e5, hb⟩ := open_bs f5
  obtain ⟨lo, ln, lc, gl, z, e6, hz⟩ := open_zs f6
  simp [cells_I, cells_B, cells_LI] at e0 e1 e2 e3 e4 e5 e6
  exact ⟨⟨k, d, b, p, n, bo, bn, bc, gb, s, lo, ln, lc, gl, z⟩, by simp [AD.arr, e0, e1, e2, e3, e4, e5, e6], hb, hz⟩

set_option maxRecDepth 100000 in
theorem open_acts {fuel : Nat} (h : DataW.trod enc Try.prog w base spare held fuel 25 cs = some x) : ∃ v g l, cs = [v] ∧ AArg w v g l := by
  rcases Go.Deep.open_slice Try.underlying25 h with ⟨rfl, _⟩ | ⟨a, len, cap, m, n, D, Pl, rfl, _, hl, hm, hm2, _, hel⟩
  · exact ⟨_, 0, [], rfl, AArg.nil w⟩
  · have hlm : len ≤ m := by rw [hm2]; split <;> omega
    have hp : ∀ i : Nat, i < len → ∃ p : AD, (∀ j v, p.arr[j]? = some v → w.cell? ((a.add (i * 7)).add j) = some v) ∧ p.Ok w := fun i hi => by
      obtain ⟨cs', h1, h2⟩ := hel i (by omega)
      rw [cells_TC] at h1
      obtain ⟨p, rfl, hok⟩ := open_act h2
      refine ⟨p, fun j v hj => ?_, hok⟩
      have hj7 : j < 7 := (Array.getElem?_eq_some_iff.1 hj).1
      have := World.cells?_some h1
      rw [this.2.2 j hj7, Array.getElem?_toList]
      exact hj
    have hfun : ∃ f : Nat → AD, ∀ i : Nat, i < len → (∀ j v, (f i).arr[j]? = some v → w.cell? ((a.add (i * 7)).add j) = some v) ∧ (f i).Ok w :=
      ⟨fun i => if h : i < len then (hp i h).choose else ⟨0, 0, 0, 0, 0, none, 0, 0, 0, [], none, 0, 0, 0, []⟩, fun i hi => by simp only [dif_pos hi]; exact (hp i hi).choose_spec⟩
    obtain ⟨f, hf⟩ := hfun
    have hz0 : ∀ h0 : 0 < len, a = ⟨a.block, a.off, none⟩ := fun h0 => by
      have := (hf 0 h0).1 0 _ rfl
      rw [Nat.zero_mul] at this
      have e : a.add 0 = a := by simp [Addr.add]
      rw [e, e] at this
      exact addr_shape this
    refine ⟨_, a.block, (List.range len).map f, rfl, some a, cap, by simp, by simpa using hl, hm, fun hne => ⟨a.off, ?_, fun i ad hi => ?_⟩⟩
    · have h0 : 0 < len := by
        rcases Nat.eq_zero_or_pos len with h | h
        · subst h; exact absurd rfl hne
        · exact h
      exact congrArg some (hz0 h0)
    · have hi' : i < len := by
        have := (List.getElem?_eq_some_iff.1 hi).1
        simpa using this
      have e2 : ad = f i := by
        rw [List.getElem?_map, List.getElem?_range hi'] at hi
        simpa using hi.symm
      subst e2
      have hsh := hz0 (by omega)
      refine ⟨fun j v hj => ?_, (hf i hi').2⟩
      have h1 := (hf i hi').1 j v hj
      obtain ⟨b, o, s⟩ := a
      simp only [Addr.mk.injEq, true_and] at hsh
      subst hsh
      rw [Addr.add_lit, Addr.add_lit] at h1
      exact h1
end
end Go.Proofs.Ytnondiaefpdlpaa
