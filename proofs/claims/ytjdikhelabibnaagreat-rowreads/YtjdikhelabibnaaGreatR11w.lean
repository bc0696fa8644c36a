/-
  Slots that are appended: where they lie; slots that are filled up.
-/
import Derived.Test.YtjdikhelabibnaaGreatR11v
namespace Go.Proofs.YtjdikhelabibnaaGreat
open Go Go.RowKit Go.Shelf

theorem ok_fst11 {v v' : Value} {w w' : World} (h : (Result.ok v w : Result Value) = .ok v' w') : v = v' := by cases h; rfl
/-- The block of what append answers is the old one, or a new one. -/
theorem append_blk11 (w : World) (base : Nat) (ty : TypeId) (v : Value) (l : List EV) (hown : OwnE base w v l) (g o : Nat) (x : EV) (hc : w.rangeAt g o x.cs) (hx : x.Ok) (hb : l.length ≤ 100000) {v' : Value} {w' : World}
    (hr : (Builtin.append_ #[22, 22] ty #[v, .slice (some ⟨g, o, none⟩) 1 1]).run Tryz.prog w = .ok v' w') (b : Nat) (hv : v'.ownBlock = some b) : v.ownBlock = some b ∨ b = w.heap.size := by
  obtain ⟨i0, hi0, hz0, hz1, hz2⟩ := info_parts infoTE
  have hnews : ∀ j u, x.cs[j]? = some u → w.cell? ((⟨g, o, none⟩ : Addr).add j) = some u := fun j u hu => by rw [Addr.add_lit]; exact hc j u hu
  have hl : x.cs.length = 1 * i0.size := by rw [hz1, EV.cs_len hx]
  rcases hown.1.own.2 with ⟨rfl, h0⟩ | ⟨q, cap, cur, rfl, h2, h3, h4, h5, h6, h7⟩
  · have hr2 := run_append_nil (P := Tryz.prog) w 22 ty 44 i0 _ Tryz.underlying22 hi0 hz0 ⟨g, o, none⟩ 1 1 x.cs hl hnews (by omega) (by omega) (by rw [hz2]; omega)
    have := ok_fst11 (hr.symm.trans hr2)
    subst this
    simp only [Value.ownBlock, Option.some.injEq] at hv
    exact .inr hv.symm
  · by_cases hroom : l.length + 1 ≤ cap
    · have hr2 := run_append_room (P := Tryz.prog) w 22 ty 44 i0 Tryz.underlying22 hi0 q l.length cap cur h3 ⟨g, o, none⟩ 1 1 x.cs hl hnews x.cs_one hroom (by rw [hl, hz1, h6]; have := Nat.mul_le_mul_right 19 hroom; omega)
      have := ok_fst11 (hr.symm.trans hr2)
      subst this
      exact .inl hv
    · have hr2 := run_append_grow (P := Tryz.prog) w 22 ty 44 i0 _ Tryz.underlying22 hi0 hz0 ⟨q, 0, none⟩ l.length cap _ (by rw [hz1]; exact hown.1.own.1) (hown.1.own.cells (g := q) rfl) ⟨g, o, none⟩ 1 1 x.cs hl hnews (by omega) (by omega) (growslice_fits (by omega) (by rw [hz2]; omega))
      have := ok_fst11 (hr.symm.trans hr2)
      subst this
      simp only [Value.ownBlock, Option.some.injEq] at hv
      exact .inr hv.symm
def lenV : Value → Nat | .slice _ n _ => n | _ => 0
/-- Slots that are filled up with empty ones. -/
def padS (S : List EV) (k : Nat) : List EV := (List.range k).map (fun i => S.getD i zEV)
theorem padS_len (S : List EV) (k : Nat) : (padS S k).length = k := by simp [padS]
theorem padS_self (S : List EV) : padS S S.length = S := by
  refine List.ext_getElem (padS_len _ _) (fun i h1 h2 => ?_)
  simp only [padS, List.getElem_map, List.getElem_range]
  rw [List.getD_eq_getElem?_getD, List.getElem?_eq_getElem h2]
  rfl
theorem padS_snoc {S : List EV} {k : Nat} (h : S.length ≤ k) : padS S (k + 1) = padS S k ++ [zEV] := by
  rw [padS, padS, List.range_succ, List.map_append, List.map_singleton, List.getD_eq_getElem?_getD, List.getElem?_eq_none h]
  rfl

end Go.Proofs.YtjdikhelabibnaaGreat
