/-
  row: line.has, of pages, of slots.
-/
import Derived.Test.YtjdikhelabibnaaGreatR11c
import Derived.Test.YtjdikhelabibnaaGreatP8j
namespace Go.Proofs.YtjdikhelabibnaaGreat
open Go Go.RowKit Go.Shelf
attribute [local go_sem] Oper.semAt_some

theorem load_bo11 (w : World) (ad : Addr) (x : Value) (hc : w.cell? ad = some x) : (loadVar 4 ad).run Tryz.prog w = .ok x w := by
  have hu := Tryz.underlying4
  simp [loadVar, isAgg, run_underlying hu, run_load, hc]

set_option maxRecDepth 100000 in
set_option maxHeartbeats 8000000 in
theorem hasP_any (ao : Option Addr) (G N c isf : Nat) (f : Nat → List Value) (K : Nat → Bool) (hNc : N ≤ 281474976710656) (hf : ∀ i, (f i).length = 2) (hf1 : ∀ i, ∀ u ∈ f i, u.oneCell' = true) (w : World) (hrow : MRow w ao G 2 N f)
    (hen : ∀ args W, (callFunc isf args).run Tryz.prog W = .ok (.enter isf args) W) (his : ∀ i, i < N → ∀ W, Calls Tryz.prog isf #[.agg (f i).toArray] W fun e W' => e = .returned (.bool (K i)) ∧ Below W.heap.size W W') :
    Calls Tryz.prog 65 #[.slice ao N c, .func (.func isf) #[] #[]] w fun e w' => e = .returned (.bool ((List.range N).any K)) ∧ Below w.heap.size w w' := by
  have HR := hide hrow
  have HIS := hide his
  have HEN := hide hen
  clear hrow his hen
  refine (callsIn_wide (n := 3)).1 ?_
  refine callsIn_of_wp_marks Tryz.func65 rfl trivial ?_ rfl
  simp only [Tryz.ntmps65, List.size_toArray, List.length_cons, List.length_nil, Nat.reduceAdd, Nat.reduceSub, Array.replicate_succ, Array.replicate_zero, List.push_toArray, List.append_toArray, List.nil_append, List.cons_append]
  gi_wp2
  have b0 : Boxed (w.alloc (.cells #[.bool false] 4)) w.heap.size 4 (.bool false) := Boxed.new _ _ _
  have hal := (Below.refl w.heap.size w).alloc (Nat.le_refl _) (.cells #[.bool false] 4)
  have hz1 : (w.alloc (.cells #[.bool false] 4)).heap.size = w.heap.size + 1 := World.size_alloc _ _
  generalize w.alloc (.cells #[.bool false] 4) = w1 at b0 hal hz1 ⊢
  refine ⟨trivial, (callsIn_wide.2 (suchP_any ao N c isf w1)).mono ?_⟩
  rintro e w2 ⟨rfl, k1, k2, hz2, hk2⟩
  have hw2 : Below w.heap.size w w2 := hal.trans (hk2.mono (by omega))
  have B0 : Hid (Boxed w2 w.heap.size 4 (.bool false)) := Boxed.below b0 hk2
  have HR2 := hide ((unhide HR).of (fun h => hw2.block G ((unhide HR).lt h (by rw [hf]; omega))))
  have HS := hide (suchP_seq hNc hf hf1 k1 k2 (unhide HR2) (unhide HEN) (unhide HIS))
  have HW2 := hide hw2
  have hzle : w.heap.size + 1 ≤ w2.heap.size := by omega
  have HZ1 := hide hz1
  clear b0 hal hz2 hk2 k1 k2 hw2 hz1
  gi_wp2
  refine wpIn_rangeFunc_ownF rfl (by omega) (gf := 96) (lb := #[.pointer (some ⟨w1.heap.size, 0, none⟩), .pointer (some ⟨w1.heap.size + 1, 0, none⟩)]) rfl trivial (unhide HS).enters
    ((unhide HS).seq w2 [] w2.heap.size (Below.refl _ _) (by simp) (Nat.le_refl _))
    (fun h k => h.trans k) (kq_b (Nat.le_refl _)) (Below.refl _ _) (fun _ => rfl)
    (fun pre W => (pre = [] ∧ Boxed W w.heap.size 4 (.bool false)) ∧ Below w.heap.size w W)
    (fun c pre W => (c = .ret ∧ pre ≠ [] ∧ Boxed W w.heap.size 4 (.bool true)) ∧ Below w.heap.size w W)
    (OwnFrom.and (Own.from (fun s A B row hs hg hr => ⟨hs.1, boxed_own _ _ _ s A B row hs.2 hg hr⟩) _) (ownFrom_below (Nat.le_refl _) (by omega)))
    (fun c => OwnFrom.and (Own.from (fun s A B row hs hg hr => ⟨hs.1, hs.2.1, boxed_own _ _ _ s A B row hs.2.2 hg hr⟩) _) (ownFrom_below (Nat.le_refl _) (by omega)))
    ⟨⟨rfl, unhide B0⟩, unhide HW2⟩
    (fun x => { tmps := #[.slice ao N c, .func (.func isf) #[] #[], undef, undef, .pointer (some ⟨w.heap.size, 0, none⟩), .slice ao N c, .func (.func isf) #[] #[], .func (.func 96) #[] #[.pointer (some ⟨w1.heap.size, 0, none⟩), .pointer (some ⟨w1.heap.size + 1, 0, none⟩)], .int .i64 (x.val : Nat)], defers := [] }) ?assign ?body ?done ?stop
  case assign =>
    intro l x W K hK
    gi_wp2
    simpa using hK
  case body =>
    rintro l pre x W ⟨⟨rfl, hb⟩, hB⟩ hlt
    have hc := hb.cell
    have hf := hb.frozen
    have HB0 := hide hb
    have HB := hide hB
    clear hb hB
    gi_wp2
    exact ⟨KeepsOthers.setCell _ _ _, ⟨rfl, by simp, (unhide HB0).set _⟩, (unhide HB).setCell (p := ⟨w.heap.size, 0, none⟩) (Nat.le_refl _) _⟩
  case done =>
    rintro D xs W hD hxs ⟨⟨rfl, hb⟩, hB⟩ hK
    have hc := hb.cell
    have hf := hb.frozen
    have HX := hide hxs
    have HB0 := hide hb
    have HB := hide hB
    have HK := hide hK
    clear hxs hb hB hK
    gi_wp2
    have hKD : (W.setCell ⟨w.heap.size, 0, none⟩ (.bool false)).heap[D]? = some (.deferred (some [])) := (KeepsOthers.setCell _ _ _).same D _ (unhide HK) rfl
    refine ⟨by simp, .inl ⟨_, _, rfl, run_takeDeferred hKD, ?_⟩⟩
    have b1 : Boxed ((W.setCell ⟨w.heap.size, 0, none⟩ (.bool false)).putObj D (.deferred none)) w.heap.size 4 (.bool false) := ((unhide HB0).set _).kept (grownBy_putObj' _ D (.deferred none)) (by simp; omega)
    have hany : (List.range N).any K = false := by
      have h := unhide HX
      simp only [List.map_nil] at h
      rw [List.any_eq_false]
      intro i hi hk
      have : i ∈ (List.range N).filter K := List.mem_filter.2 ⟨hi, hk⟩
      rw [← h] at this
      exact absurd this (by simp)
    exact ⟨_, results_cell7 rfl _ _ ⟨w.heap.size, 0, none⟩ _ rfl (load_bo11 _ _ _ b1.cell), by rw [hany], ((unhide HB).setCell (p := ⟨w.heap.size, 0, none⟩) (Nat.le_refl _) _).trans (below_put _ _ (by omega))⟩
  case stop =>
    rintro D c pre W hD hpre ⟨⟨rfl, hne, hb⟩, hB⟩ hK
    gi_wp2
    refine ⟨by simp, .inl ⟨_, _, rfl, run_takeDeferred hK, ?_⟩⟩
    have b1 := hb.kept (grownBy_putObj' _ D (.deferred none)) (fun e => by cases e; rw [show W.heap[w.heap.size]? = _ from hb] at hK; cases hK)
    have hany : (List.range N).any K = true := by
      match pre, hne with
      | x :: _, _ => exact List.any_eq_true.2 ⟨x.val, List.mem_range.2 x.property.1, x.property.2⟩
    exact ⟨_, results_cell7 rfl _ _ ⟨w.heap.size, 0, none⟩ _ rfl (load_bo11 _ _ _ b1.cell), by rw [hany], hB.trans (below_put _ _ (by omega))⟩

set_option maxRecDepth 100000 in
set_option maxHeartbeats 8000000 in
theorem hasE_any (ao : Option Addr) (G N c isf : Nat) (f : Nat → List Value) (K : Nat → Bool) (hNc : N ≤ 281474976710656) (hf : ∀ i, (f i).length = 19) (hf1 : ∀ i, ∀ u ∈ f i, u.oneCell' = true) (w : World) (hrow : MRow w ao G 19 N f)
    (hen : ∀ args W, (callFunc isf args).run Tryz.prog W = .ok (.enter isf args) W) (his : ∀ i, i < N → ∀ W, Calls Tryz.prog isf #[.agg (f i).toArray] W fun e W' => e = .returned (.bool (K i)) ∧ Below W.heap.size W W') :
    Calls Tryz.prog 45 #[.slice ao N c, .func (.func isf) #[] #[]] w fun e w' => e = .returned (.bool ((List.range N).any K)) ∧ Below w.heap.size w w' := by
  have HR := hide hrow
  have HIS := hide his
  have HEN := hide hen
  clear hrow his hen
  refine (callsIn_wide (n := 3)).1 ?_
  refine callsIn_of_wp_marks Tryz.func45 rfl trivial ?_ rfl
  simp only [Tryz.ntmps45, List.size_toArray, List.length_cons, List.length_nil, Nat.reduceAdd, Nat.reduceSub, Array.replicate_succ, Array.replicate_zero, List.push_toArray, List.append_toArray, List.nil_append, List.cons_append]
  gi_wp2
  have b0 : Boxed (w.alloc (.cells #[.bool false] 4)) w.heap.size 4 (.bool false) := Boxed.new _ _ _
  have hal := (Below.refl w.heap.size w).alloc (Nat.le_refl _) (.cells #[.bool false] 4)
  have hz1 : (w.alloc (.cells #[.bool false] 4)).heap.size = w.heap.size + 1 := World.size_alloc _ _
  generalize w.alloc (.cells #[.bool false] 4) = w1 at b0 hal hz1 ⊢
  refine ⟨trivial, (callsIn_wide.2 (suchE_any ao N c isf w1)).mono ?_⟩
  rintro e w2 ⟨rfl, k1, k2, hz2, hk2⟩
  have hw2 : Below w.heap.size w w2 := hal.trans (hk2.mono (by omega))
  have B0 : Hid (Boxed w2 w.heap.size 4 (.bool false)) := Boxed.below b0 hk2
  have HR2 := hide ((unhide HR).of (fun h => hw2.block G ((unhide HR).lt h (by rw [hf]; omega))))
  have HS := hide (suchE_seq hNc hf hf1 k1 k2 (unhide HR2) (unhide HEN) (unhide HIS))
  have HW2 := hide hw2
  have hzle : w.heap.size + 1 ≤ w2.heap.size := by omega
  have HZ1 := hide hz1
  clear b0 hal hz2 hk2 k1 k2 hw2 hz1
  gi_wp2
  refine wpIn_rangeFunc_ownF rfl (by omega) (gf := 110) (lb := #[.pointer (some ⟨w1.heap.size, 0, none⟩), .pointer (some ⟨w1.heap.size + 1, 0, none⟩)]) rfl trivial (unhide HS).enters
    ((unhide HS).seq w2 [] w2.heap.size (Below.refl _ _) (by simp) (Nat.le_refl _))
    (fun h k => h.trans k) (kq_b (Nat.le_refl _)) (Below.refl _ _) (fun _ => rfl)
    (fun pre W => (pre = [] ∧ Boxed W w.heap.size 4 (.bool false)) ∧ Below w.heap.size w W)
    (fun c pre W => (c = .ret ∧ pre ≠ [] ∧ Boxed W w.heap.size 4 (.bool true)) ∧ Below w.heap.size w W)
    (OwnFrom.and (Own.from (fun s A B row hs hg hr => ⟨hs.1, boxed_own _ _ _ s A B row hs.2 hg hr⟩) _) (ownFrom_below (Nat.le_refl _) (by omega)))
    (fun c => OwnFrom.and (Own.from (fun s A B row hs hg hr => ⟨hs.1, hs.2.1, boxed_own _ _ _ s A B row hs.2.2 hg hr⟩) _) (ownFrom_below (Nat.le_refl _) (by omega)))
    ⟨⟨rfl, unhide B0⟩, unhide HW2⟩
    (fun x => { tmps := #[.slice ao N c, .func (.func isf) #[] #[], undef, undef, .pointer (some ⟨w.heap.size, 0, none⟩), .slice ao N c, .func (.func isf) #[] #[], .func (.func 110) #[] #[.pointer (some ⟨w1.heap.size, 0, none⟩), .pointer (some ⟨w1.heap.size + 1, 0, none⟩)], .int .i64 (x.val : Nat)], defers := [] }) ?assign ?body ?done ?stop
  case assign =>
    intro l x W K hK
    gi_wp2
    simpa using hK
  case body =>
    rintro l pre x W ⟨⟨rfl, hb⟩, hB⟩ hlt
    have hc := hb.cell
    have hf := hb.frozen
    have HB0 := hide hb
    have HB := hide hB
    clear hb hB
    gi_wp2
    exact ⟨KeepsOthers.setCell _ _ _, ⟨rfl, by simp, (unhide HB0).set _⟩, (unhide HB).setCell (p := ⟨w.heap.size, 0, none⟩) (Nat.le_refl _) _⟩
  case done =>
    rintro D xs W hD hxs ⟨⟨rfl, hb⟩, hB⟩ hK
    have hc := hb.cell
    have hf := hb.frozen
    have HX := hide hxs
    have HB0 := hide hb
    have HB := hide hB
    have HK := hide hK
    clear hxs hb hB hK
    gi_wp2
    have hKD : (W.setCell ⟨w.heap.size, 0, none⟩ (.bool false)).heap[D]? = some (.deferred (some [])) := (KeepsOthers.setCell _ _ _).same D _ (unhide HK) rfl
    refine ⟨by simp, .inl ⟨_, _, rfl, run_takeDeferred hKD, ?_⟩⟩
    have b1 : Boxed ((W.setCell ⟨w.heap.size, 0, none⟩ (.bool false)).putObj D (.deferred none)) w.heap.size 4 (.bool false) := ((unhide HB0).set _).kept (grownBy_putObj' _ D (.deferred none)) (by simp; omega)
    have hany : (List.range N).any K = false := by
      have h := unhide HX
      simp only [List.map_nil] at h
      rw [List.any_eq_false]
      intro i hi hk
      have : i ∈ (List.range N).filter K := List.mem_filter.2 ⟨hi, hk⟩
      rw [← h] at this
      exact absurd this (by simp)
    exact ⟨_, results_cell7 rfl _ _ ⟨w.heap.size, 0, none⟩ _ rfl (load_bo11 _ _ _ b1.cell), by rw [hany], ((unhide HB).setCell (p := ⟨w.heap.size, 0, none⟩) (Nat.le_refl _) _).trans (below_put _ _ (by omega))⟩
  case stop =>
    rintro D c pre W hD hpre ⟨⟨rfl, hne, hb⟩, hB⟩ hK
    gi_wp2
    refine ⟨by simp, .inl ⟨_, _, rfl, run_takeDeferred hK, ?_⟩⟩
    have b1 := hb.kept (grownBy_putObj' _ D (.deferred none)) (fun e => by cases e; rw [show W.heap[w.heap.size]? = _ from hb] at hK; cases hK)
    have hany : (List.range N).any K = true := by
      match pre, hne with
      | x :: _, _ => exact List.any_eq_true.2 ⟨x.val, List.mem_range.2 x.property.1, x.property.2⟩
    exact ⟨_, results_cell7 rfl _ _ ⟨w.heap.size, 0, none⟩ _ rfl (load_bo11 _ _ _ b1.cell), by rw [hany], hB.trans (below_put _ _ (by omega))⟩

end Go.Proofs.YtjdikhelabibnaaGreat
