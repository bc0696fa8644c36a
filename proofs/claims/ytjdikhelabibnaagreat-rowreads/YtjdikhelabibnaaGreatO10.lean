/-
  Arguments that are opened: a slot (api.Entry), a head (api.Head).
-/
import Derived.Test.YtjdikhelabibnaaGreatE10a
import Derived.WalkKit
import Derived.ProofKit
import Derived.OpenShut
import Derived.Deep.Strs
import Derived.Deep.Slices
namespace Go.Proofs.YtjdikhelabibnaaGreat
open Go Go.RowKit

section
variable {H : Type} {enc : TypeId × Value → H} {w : World} {base : Nat} {spare : Nat → Bool} {held : Bool} {fuel : Nat} {cs : List Value} {x : DataW H × List MemPlace}

theorem cells_I10 : Tryz.prog.cellsOf 3 = 1 := by kernel_rfl
theorem cells_E10 : Tryz.prog.cellsOf 5 = 1 := by kernel_rfl
theorem cells_TD10 : Tryz.prog.cellsOf 42 = 16 := by kernel_rfl
theorem cells_TE10 : Tryz.prog.cellsOf 44 = 19 := by kernel_rfl
theorem cells_TH10 : Tryz.prog.cellsOf 57 = 4 := by kernel_rfl
theorem one_of10 {cs : List Value} {o : Nat} {v : Value} (h : (cs.drop o).take 1 = [v]) : cs[o]? = some v := by
  have := congrArg (fun l => l[0]?) h
  simpa [List.getElem?_take, List.getElem?_drop] using this

set_option maxRecDepth 100000 in
theorem open_head (h : DataW.trod enc Tryz.prog w base spare held fuel 57 cs = some x) : ∃ a b c e : Int, cs = [.int .i64 a, .int .i64 b, .int .i64 c, .int .i64 e] := by
  obtain ⟨xs, n, _, _, hl, hlen, hf⟩ := DataW.trod_struct Tryz.underlying57 h
  rw [cells_TH10] at hl
  match xs, hlen with
  | [y0, y1, y2, y3], _ =>
    obtain ⟨a, e0, _⟩ := DataW.trod_int Tryz.underlying3 (by simpa using hf 0 _ rfl)
    obtain ⟨b, e1, _⟩ := DataW.trod_int Tryz.underlying3 (by simpa using hf 1 _ rfl)
    obtain ⟨c, e2, _⟩ := DataW.trod_int Tryz.underlying3 (by simpa using hf 2 _ rfl)
    obtain ⟨e, e3, _⟩ := DataW.trod_int Tryz.underlying3 (by simpa using hf 3 _ rfl)
    rw [cells_I10] at e0 e1 e2 e3
    match cs, hl with
    | [c0, c1, c2, c3], _ =>
      simp at e0 e1 e2 e3
      exact ⟨a, b, c, e, by rw [e0, e1, e2, e3]⟩

set_option maxRecDepth 100000 in
theorem open_ent (h : DataW.trod enc Tryz.prog w base spare held fuel 44 cs = some x) : ∃ (k l s : Int) (d : List Nat), cs = (entA k l s d).toList ∧ d.length = 16 ∧ ∀ j, cf d j < 256 := by
  obtain ⟨xs, n, _, _, hl, hlen, hf⟩ := DataW.trod_struct Tryz.underlying44 h
  rw [cells_TE10] at hl
  match xs, hlen with
  | [y0, y1, y2, y3], _ =>
    obtain ⟨k, e0, _⟩ := DataW.trod_int Tryz.underlying3 (by simpa using hf 0 _ rfl)
    obtain ⟨l, e1, _⟩ := DataW.trod_int Tryz.underlying3 (by simpa using hf 1 _ rfl)
    obtain ⟨s, e2, _⟩ := DataW.trod_int Tryz.underlying3 (by simpa using hf 2 _ rfl)
    obtain ⟨ys, m, _, _, hl2, hn2, hf2⟩ := DataW.trod_array Tryz.underlying42 (by simpa using hf 3 _ rfl)
    rw [cells_I10] at e0 e1 e2
    rw [cells_TD10] at hl2 hf2
    have key : ∀ i, i < 16 → ∃ b : Nat, b < 256 ∧ cs[3 + i]? = some (.int .u8 (b : Int)) := by
      intro i hi
      have hy : ys[i]? = some (ys[i]'(by omega)) := List.getElem?_eq_getElem (by omega)
      obtain ⟨b, e, _, hw⟩ := DataW.trod_int Tryz.underlying5 ((hf2 i hi).trans hy)
      rw [cells_E10] at e
      have h1 := one_of10 e
      rw [Nat.mul_one, List.getElem?_take, if_pos hi, List.getElem?_drop] at h1
      have hb : 0 ≤ b ∧ b < 256 := by
        have h2 : (decide (IntKind.u8.min ≤ b) && decide (b ≤ IntKind.u8.max)) = true := hw
        rw [Bool.and_eq_true, decide_eq_true_eq, decide_eq_true_eq, show IntKind.u8.min = 0 from rfl, show IntKind.u8.max = 255 from rfl] at h2
        omega
      exact ⟨b.toNat, by omega, by rw [h1, Int.toNat_of_nonneg hb.1]⟩
    let g : Nat → Nat := fun i => if h : i < 16 then Classical.choose (key i h) else 0
    have hg : ∀ i (h : i < 16), g i < 256 ∧ cs[3 + i]? = some (.int .u8 ((g i : Nat) : Int)) := fun i h => by
      have := Classical.choose_spec (key i h)
      simpa [g, h] using this
    have hlen16 : ((List.range 16).map g).length = 16 := by simp
    have hcf : ∀ j, j < 16 → cf ((List.range 16).map g) j = g j := fun j hj => by
      have h1 : j < ((List.range 16).map g).length := by rw [hlen16]; exact hj
      have h2 := cf_get h1
      rw [List.getElem?_map, List.getElem?_range hj] at h2
      exact (Option.some.inj h2).symm
    refine ⟨k, l, s, (List.range 16).map g, ?_, hlen16, fun j => ?_⟩
    · refine List.ext_getElem? (fun j => ?_)
      match j with
      | 0 => exact one_of10 e0
      | 1 => exact one_of10 (by rw [← List.drop_one] at e1; exact e1)
      | 2 => exact one_of10 e2
      | j + 3 =>
        have hr : (entA k l s ((List.range 16).map g)).toList[3 + j]? = (datL ((List.range 16).map g))[j]? := by rw [← entA_d k l s]; simp
        rw [show j + 3 = 3 + j from by omega, hr]
        by_cases hj : j < 16
        · rw [(hg j hj).2, datL_get (by rw [hlen16]; exact hj), hcf j hj]
        · rw [List.getElem?_eq_none (by omega), List.getElem?_eq_none (by rw [datL_len, hlen16]; omega)]
    · by_cases hj : j < 16
      · rw [hcf j hj]; exact (hg j hj).1
      · rw [cf_ge (by rw [hlen16]; omega)]; omega
end
end Go.Proofs.YtjdikhelabibnaaGreat
