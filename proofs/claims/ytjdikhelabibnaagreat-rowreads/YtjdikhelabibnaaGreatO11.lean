/-
  Arguments that are opened: rows of slots ([]api.Entry), of pages ([]api.Page).
-/
import Derived.Test.YtjdikhelabibnaaGreatR11a
import Derived.Test.YtjdikhelabibnaaGreatO10
import Derived.Test.YtjdikhelabibnaaGreatI7
import Derived.OpenShut
import Derived.ChangeSlices
import Derived.DataReads
import Derived.Deep.Slices
namespace Go.Proofs.YtjdikhelabibnaaGreat
open Go Go.RowKit Go.ChangeShapes Go.WideShapes Go.ChangeAt

section
variable {H : Type} {enc : TypeId × Value → H} {w : World} {base : Nat} {spare : Nat → Bool} {held : Bool} {fuel : Nat} {cs : List Value} {x : DataW H × List MemPlace}
theorem addr_shape11 {w : World} {a : Addr} {v : Value} (h : w.cell? a = some v) : a = ⟨a.block, a.off, none⟩ := by
  unfold World.cell? at h
  obtain ⟨b, o, s⟩ := a
  cases s with
  | none => rfl
  | some s =>
    simp only at h
    split at h <;> simp_all
theorem cells_B11 : Tryz.prog.cellsOf 47 = 1 := by kernel_rfl
theorem cells_TP11 : Tryz.prog.cellsOf 49 = 2 := by kernel_rfl
theorem open_bs11 (h : DataW.trod enc Tryz.prog w base spare held fuel 47 cs = some x) : ∃ a n c g s, cs = [.slice a n c] ∧ Arg w (.slice a n c) g s := by
  rcases open_ints Tryz.underlying47 Tryz.underlying5 (by kernel_rfl) h with ⟨hcs, _⟩ | ⟨y, l, c, zs, hcs, _, hl, hm, hz, _, hcell, hwz⟩
  · exact ⟨none, 0, 0, 0, [], hcs, ⟨⟨none, 0, rfl, by simp, by simp, fun _ => rfl, .inl rfl⟩, Bs.nil⟩⟩
  · have hlz : l ≤ zs.length := by rw [hz]; split <;> omega
    obtain ⟨g, p1, p2, p3⟩ := row_in hlz rfl hcell hwz
    exact ⟨some y, l, c, g, _, hcs, arg_in p1 p2 p3 hl (fun h => by cases h) hm⟩
theorem open_ev (h : DataW.trod enc Tryz.prog w base spare held fuel 44 cs = some x) : ∃ e : EV, cs = e.cs ∧ e.Ok := by
  obtain ⟨k, l, s, d, e, e1, e2⟩ := open_ent h
  exact ⟨⟨k, l, s, d⟩, e, e1, e2⟩
set_option maxRecDepth 100000 in
theorem open_pv (h : DataW.trod enc Tryz.prog w base spare held fuel 49 cs = some x) : ∃ p : PV, cs = p.cs ∧ p.Ok w := by
  obtain ⟨xs, n, _, _, hl, hlen, hf⟩ := DataW.trod_struct Tryz.underlying49 h
  rw [cells_TP11] at hl
  match xs, hlen with
  | [y0, y1], _ =>
    obtain ⟨a, e0, _⟩ := DataW.trod_int Tryz.underlying3 (by simpa using hf 0 _ rfl)
    obtain ⟨bo, bn, bc, gb, s, e1, hb⟩ := open_bs11 (by simpa using hf 1 _ rfl)
    rw [cells_I10] at e0
    rw [cells_B11] at e1
    match cs, hl with
    | [c0, c1], _ =>
      simp at e0 e1
      have hn : bn = s.length := by obtain ⟨_, _, h, -⟩ := hb.ex; cases h; rfl
      subst hn
      exact ⟨⟨a, bo, bc, gb, s⟩, by rw [e0, e1]; rfl, hb⟩

set_option maxRecDepth 100000 in
theorem open_evs {fuel : Nat} (h : DataW.trod enc Tryz.prog w base spare held fuel 22 cs = some x) : ∃ v g l, cs = [v] ∧ EArg w v g l := by
  rcases Go.Deep.open_slice Tryz.underlying22 h with ⟨rfl, _⟩ | ⟨a, len, cap, m, n, D, Pl, rfl, _, hl, hm, hm2, _, hel⟩
  · exact ⟨_, 0, [], rfl, EArg.nil w⟩
  · have hlm : len ≤ m := by rw [hm2]; split <;> omega
    have hp : ∀ i : Nat, i < len → ∃ p : EV, (∀ j v, p.cs[j]? = some v → w.cell? ((a.add (i * 19)).add j) = some v) ∧ p.Ok := fun i hi => by
      obtain ⟨cs', h1, h2⟩ := hel i (by omega)
      rw [cells_TE10] at h1
      obtain ⟨p, rfl, hok⟩ := open_ev h2
      refine ⟨p, fun j v hj => ?_, hok⟩
      have hj7 : j < 19 := by have := (List.getElem?_eq_some_iff.1 hj).1; rw [EV.cs_len hok] at this; exact this
      have := World.cells?_some h1
      rw [this.2.2 j hj7]
      exact hj
    have hfun : ∃ f : Nat → EV, ∀ i : Nat, i < len → (∀ j v, (f i).cs[j]? = some v → w.cell? ((a.add (i * 19)).add j) = some v) ∧ (f i).Ok :=
      ⟨fun i => if h : i < len then (hp i h).choose else zEV, fun i hi => by simp only [dif_pos hi]; exact (hp i hi).choose_spec⟩
    obtain ⟨f, hf⟩ := hfun
    have hz0 : ∀ h0 : 0 < len, a = ⟨a.block, a.off, none⟩ := fun h0 => by
      obtain ⟨v, hv⟩ : ∃ v, (f 0).cs[0]? = some v := ⟨(f 0).cs[0]'(by rw [EV.cs_len (hf 0 h0).2]; omega), List.getElem?_eq_getElem _⟩
      have := (hf 0 h0).1 0 v hv
      rw [Nat.zero_mul] at this
      have e : a.add 0 = a := by simp [Addr.add]
      rw [e, e] at this
      exact addr_shape11 this
    have hget : ∀ i, i < len → ((List.range len).map f).getD i zEV = f i := fun i hi => by rw [List.getD_eq_getElem?_getD, List.getElem?_map, List.getElem?_range hi]; rfl
    refine ⟨_, a.block, (List.range len).map f, rfl, ⟨some a, cap, by simp, by simpa using hl, hm, (fun h => by cases h), fun hne => ⟨a.off, ?_, fun i hi j v hj => ?_⟩⟩, fun p hp => ?_⟩
    · have h0 : 0 < len := by
        rcases Nat.eq_zero_or_pos len with h | h
        · subst h; exact absurd rfl hne
        · exact h
      exact congrArg some (hz0 h0)
    · have hi' : i < len := by simpa using hi
      rw [hget i hi'] at hj
      have hsh := hz0 (by omega)
      have h1 := (hf i hi').1 j v hj
      obtain ⟨b, o, s⟩ := a
      simp only [Addr.mk.injEq, true_and] at hsh
      subst hsh
      rw [Addr.add_lit, Addr.add_lit] at h1
      exact h1
    · obtain ⟨i, hi, rfl⟩ := List.mem_map.1 hp
      exact (hf i (List.mem_range.1 hi)).2

set_option maxRecDepth 100000 in
theorem open_pgs {fuel : Nat} (h : DataW.trod enc Tryz.prog w base spare held fuel 40 cs = some x) : ∃ v g l, cs = [v] ∧ PgArg w v g l := by
  rcases Go.Deep.open_slice Tryz.underlying40 h with ⟨rfl, _⟩ | ⟨a, len, cap, m, n, D, Pl, rfl, _, hl, hm, hm2, _, hel⟩
  · exact ⟨_, 0, [], rfl, PgArg.nil w⟩
  · have hlm : len ≤ m := by rw [hm2]; split <;> omega
    have hp : ∀ i : Nat, i < len → ∃ p : PV, (∀ j v, p.cs[j]? = some v → w.cell? ((a.add (i * 2)).add j) = some v) ∧ p.Ok w := fun i hi => by
      obtain ⟨cs', h1, h2⟩ := hel i (by omega)
      rw [cells_TP11] at h1
      obtain ⟨p, rfl, hok⟩ := open_pv h2
      refine ⟨p, fun j v hj => ?_, hok⟩
      have hj7 : j < 2 := by have := (List.getElem?_eq_some_iff.1 hj).1; rw [show p.cs.length = 2 from rfl] at this; exact this
      have := World.cells?_some h1
      rw [this.2.2 j hj7]
      exact hj
    have hfun : ∃ f : Nat → PV, ∀ i : Nat, i < len → (∀ j v, (f i).cs[j]? = some v → w.cell? ((a.add (i * 2)).add j) = some v) ∧ (f i).Ok w :=
      ⟨fun i => if h : i < len then (hp i h).choose else zPV, fun i hi => by simp only [dif_pos hi]; exact (hp i hi).choose_spec⟩
    obtain ⟨f, hf⟩ := hfun
    have hz0 : ∀ h0 : 0 < len, a = ⟨a.block, a.off, none⟩ := fun h0 => by
      obtain ⟨v, hv⟩ : ∃ v, (f 0).cs[0]? = some v := ⟨(f 0).cs[0]'(by show 0 < 2; omega), List.getElem?_eq_getElem _⟩
      have := (hf 0 h0).1 0 v hv
      rw [Nat.zero_mul] at this
      have e : a.add 0 = a := by simp [Addr.add]
      rw [e, e] at this
      exact addr_shape11 this
    have hget : ∀ i, i < len → ((List.range len).map f).getD i zPV = f i := fun i hi => by rw [List.getD_eq_getElem?_getD, List.getElem?_map, List.getElem?_range hi]; rfl
    refine ⟨_, a.block, (List.range len).map f, rfl, ⟨some a, cap, by simp, by simpa using hl, hm, (fun h => by cases h), fun hne => ⟨a.off, ?_, fun i hi j v hj => ?_⟩⟩, fun p hp => ?_⟩
    · have h0 : 0 < len := by
        rcases Nat.eq_zero_or_pos len with h | h
        · subst h; exact absurd rfl hne
        · exact h
      exact congrArg some (hz0 h0)
    · have hi' : i < len := by simpa using hi
      rw [hget i hi'] at hj
      have hsh := hz0 (by omega)
      have h1 := (hf i hi').1 j v hj
      obtain ⟨b, o, s⟩ := a
      simp only [Addr.mk.injEq, true_and] at hsh
      subst hsh
      rw [Addr.add_lit, Addr.add_lit] at h1
      exact h1
    · obtain ⟨i, hi, rfl⟩ := List.mem_map.1 hp
      exact (hf i (List.mem_range.1 hi)).2
end
end Go.Proofs.YtjdikhelabibnaaGreat
