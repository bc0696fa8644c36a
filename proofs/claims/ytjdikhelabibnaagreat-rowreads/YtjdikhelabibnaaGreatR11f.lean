/-
  row: entriesMayBe, statesMayBe.
-/
import Derived.Test.YtjdikhelabibnaaGreatR11d
import Derived.Test.YtjdikhelabibnaaGreatB6c
namespace Go.Proofs.YtjdikhelabibnaaGreat
open Go Go.RowKit Go.Shelf
attribute [local go_sem] Oper.semAt_some

/-- All slots may be. -/
def okL (l : List EV) : Prop := ∀ e ∈ l, okE e.k e.l e.s e.d
noncomputable instance (l : List EV) : Decidable (okL l) := Classical.propDecidable _
theorem getD_mem11 {α : Type} {l : List α} {z : α} {i : Nat} (h : i < l.length) : l.getD i z ∈ l := by
  rw [List.getD_eq_getElem?_getD, List.getElem?_eq_getElem h]; exact List.getElem_mem h
theorem mem_getD11 {α : Type} {l : List α} {z x : α} (h : x ∈ l) : ∃ i, i < l.length ∧ l.getD i z = x := by
  obtain ⟨i, hi, he⟩ := List.getElem_of_mem h
  exact ⟨i, hi, by rw [List.getD_eq_getElem?_getD, List.getElem?_eq_getElem hi, ← he]; rfl⟩
theorem any_range11 {α : Type} (l : List α) (z : α) (p : α → Bool) : (List.range l.length).any (fun i => p (l.getD i z)) = l.any p := by
  rw [Bool.eq_iff_iff, List.any_eq_true, List.any_eq_true]
  constructor
  · rintro ⟨i, hi, hp⟩
    exact ⟨_, getD_mem11 (List.mem_range.1 hi), hp⟩
  · rintro ⟨x, hx, hp⟩
    obtain ⟨i, hi, he⟩ := mem_getD11 (z := z) hx
    exact ⟨i, List.mem_range.2 hi, by rw [he]; exact hp⟩
theorem okL_any (l : List EV) : (l.any (fun e => !decide (okE e.k e.l e.s e.d))) = !decide (okL l) := by
  by_cases h : okL l
  · rw [decide_eq_true h, Bool.not_true, List.any_eq_false]
    intro e he
    simp [h e he]
  · rw [decide_eq_false h, Bool.not_false, List.any_eq_true]
    refine Classical.byContradiction (fun hn => h (fun e he => Classical.byContradiction (fun hk => hn ⟨e, he, by simp [hk]⟩)))

set_option maxRecDepth 100000 in
theorem entM_any (ao : Option Addr) (n c g : Nat) (l : List EV) (most : Int) (hmo : most ≤ 1000) (w : World) (hL : EArg w (.slice ao n c) g l) :
    Calls Tryz.prog 24 #[.slice ao n c, .int .i64 most] w fun e w' => e = .returned (.bool (decide ((n : Int) ≤ most) && decide (okL l))) ∧ Below w.heap.size w w' := by
  obtain ⟨h1, h2, h3, hrow⟩ := hL.mrow
  have hn : (n : Int) ≤ 9223372036854775807 := by unfold maxLen at h3; omega
  have HK := hide (fun hm : (n : Int) ≤ most => hasE_any ao g n c 46 (fun i => (l.getD i zEV).cs) (fun i => !decide (okE (l.getD i zEV).k (l.getD i zEV).l (l.getD i zEV).s (l.getD i zEV).d)) (by omega) (fun i => EV.cs_len (hL.get_ok i)) (fun i => EV.cs_one _) w hrow
    (enters_of Tryz.func46 (by kernel_rfl) rfl) (fun i _ W => refused_any (l.getD i zEV) (hL.get_ok i) W))
  have HA : Hid ((List.range n).any (fun i => !decide (okE (l.getD i zEV).k (l.getD i zEV).l (l.getD i zEV).s (l.getD i zEV).d)) = !decide (okL l)) := by
    show _ = _
    rw [← okL_any, ← any_range11 l zEV, h1]
  clear hrow hL h1 h2 h3
  by_cases hm : (n : Int) ≤ most
  · go_enter Tryz.func24, Tryz.ntmps24
    go_wp2_with fail
    refine (unhide HK hm).mono ?_
    rintro e w1 ⟨rfl, hk⟩
    have HB := hide hk
    rw [unhide HA]
    clear hk
    obtain ⟨r, hr⟩ : ∃ r, decide (okL l) = r := ⟨_, rfl⟩
    have HR := hide hr
    rw [hr]
    clear hr
    go_wp2
    go_ret
    exact ⟨by rw [decide_eq_true hm, unhide HR]; cases r <;> rfl, unhide HB⟩
  · go_enter Tryz.func24, Tryz.ntmps24
    go_wp2
    go_ret
    exact ⟨by rw [decide_eq_false (by omega)]; rfl, Below.refl _ _⟩

/-- How many are so; where they are. -/
def atL (K : Nat → Bool) (N : Nat) : List Nat := (List.range N).filter K
theorem vals_of11 {N : Nat} {K : Nat → Bool} {xs : List (It5 N K)} (h : xs.map Subtype.val = (List.range N).filter K) : xs.map (fun x => x.val) = atL K N := h
/-- The numbers of such pages, as a row of the call's own. -/
theorem colP_any (gf : Nat) (lb : Array Value) (N : Nat) (hN : N ≤ 100000) (K : Nat → Bool) (V : Nat → Prop) (w : World) (hS : Seq11 gf lb N K V w) :
    Calls Tryz.prog 61 #[.func (.func gf) #[] lb] w fun e w' => ∃ v, e = .returned v ∧ OwnI w.heap.size w' v (atL K N) ∧ Below w.heap.size w w' :=
  (collect_any gf lb (fun x : It5 N K => x.val) 0 N _ hN w hS.enters hS.seqY).mono (fun e w' ⟨v, xs, h1, h2, h3, h4⟩ => ⟨v, h1, by have h5 := vals_of11 h2; rw [h5] at h3; exact h3, h4⟩)

/-- What the states say. -/
def staE (l : List Int) (most : Int) : Int := if l.all (· == 0) then 2 else if l.any (· == 0) then 5 else if most < ((l.filter (fun s => !(s == 0) && !(s == 2))).length : Int) then 11 else 0

end Go.Proofs.YtjdikhelabibnaaGreat
