/-
  nand: all things of a shelf, where they stand.
-/
import Derived.Test.YtnondiaefpdlpaaV7a
import Derived.Test.YtnondiaefpdlpaaB6b
namespace Go.Proofs.Ytnondiaefpdlpaa
open Go.RowKit Go.Shelf
attribute [local go_sem] Oper.semAt_some

set_option maxHeartbeats 1000000 in
theorem allP_any (q : Addr) (w : World) : Calls Try.prog 50 #[.pointer (some q)] w fun e w' =>
    e = .returned (.func (.func 67) #[] #[.pointer (some ⟨w.heap.size, 0, none⟩)]) ∧ w'.cell? ⟨w.heap.size, 0, none⟩ = some (.pointer (some q)) ∧ w'.heap.size = w.heap.size + 1 ∧ Below w.heap.size w w' := by
  go_enter Try.func50, Try.ntmps50
  go_wp2
  go_ret
  exact ⟨rfl, (cell_new' w _ _).1, World.size_alloc _ _, (Below.refl _ w).alloc (Nat.le_refl _) _⟩

set_option maxRecDepth 100000 in
set_option maxHeartbeats 4000000 in
theorem allP_x (T : Nat → Prop) (b q o g N c : Nat) (hN : N ≤ 1000) (w : World) (hcap : w.cell? ⟨b, 0, none⟩ = some (.pointer (some ⟨q, o, none⟩))) (hcs : w.cell? ⟨q, o, none⟩ = some (.slice (some ⟨g, 0, none⟩) N c)) (hTb : T b) (hTq : T q) :
    (∀ args W, (callFunc 67 args).run Try.prog W = .ok (.enter 67 args) W) ∧ SeqY Try.prog 67 #[.pointer (some ⟨b, 0, none⟩)] (fun i : Fin N => #[Value.pointer (some ⟨g, i.val * 2, none⟩)]) T 0 (fun xs => xs.map Fin.val = List.range N) N w := by
  refine ⟨enters_of Try.func67 (by kernel_rfl) rfl, ?_⟩
  intro l J W hW hJ hY h0 n
  have hA := (hW.cell (p := ⟨b, 0, none⟩) (block_lt_of_cell hcap)).trans hcap
  have hB := (hW.cell (p := ⟨q, o, none⟩) (block_lt_of_cell hcs)).trans hcs
  have HA := hide hA
  have HB := hide hB
  show CallsIn Fence.wide n Try.prog 67 #[.func (.yield l) #[] #[], .pointer (some ⟨b, 0, none⟩)] W _
  refine callsIn_of_wp Try.func67 rfl trivial ?_ rfl
  simp only [Try.ntmps67, List.size_toArray, List.length_cons, List.length_nil, Nat.reduceAdd, Nat.reduceSub, Array.replicate_succ, Array.replicate_zero, List.push_toArray, List.append_toArray, List.nil_append, List.cons_append]
  gi_wp2
  clear hA hB
  gi_loopw [8] (fun p wr => ∃ (pre : List (Fin N)) (i : Nat), p = .int .i64 i ∧ i ≤ N ∧ pre.map Fin.val = List.range i ∧ J pre wr ∧ W.heap.size ≤ wr.heap.size ∧ wr.cell? ⟨b, 0, none⟩ = some (.pointer (some ⟨q, o, none⟩)) ∧ wr.cell? ⟨q, o, none⟩ = some (.slice (some ⟨g, 0, none⟩) N c)) (fun p _ => N - (intOf p).toNat)
  case atStart => exact ⟨[], 0, rfl, by omega, rfl, h0, Nat.le_refl _, unhide HA, unhide HB⟩
  case round =>
    obtain ⟨pre, i, rfl, hi, hp, hJ1, hzW, hc1, hc2⟩ := hrel
    have hl : pre.length = i := by have := congrArg List.length hp; simpa using this
    have HP := hide hp
    have HL := hide hl
    have HC1 := hide hc1
    have HC2 := hide hc2
    have HJ1 := hide hJ1
    clear hp hl hJ1 hc2
    by_cases hlt : i < N
    · have hi1 : (i : Int) < (N : Int) := by omega
      have HO := hide (onS_in (g := g) (n := 2) hlt)
      obtain ⟨fn, tmps, assign, body, hy1, hR⟩ := hY pre ⟨i, hlt⟩ wr (unhide HJ1) (by rw [unhide HL]; exact hlt) (Nat.le_trans hzW (Nat.le_refl _))
      have HY1 := hide hy1
      clear hy1
      gi_wp2
      refine ⟨trivial, fun h => absurd h (by simp [Fence.wide]), (callsIn_wide.2 (atP_any _ _ _ _ _ _ wr (unhide HC2) hN)).mono ?_⟩
      rintro e wr ⟨rfl, rfl⟩
      rw [unhide HO]
      have hy1 := unhide HY1
      gi_wp2
      refine ⟨fun h => absurd h (by simp [Fence.wide]), (round_any hR).mono ?_⟩
      rintro e W3 ⟨rfl, hJ3, hk3⟩
      have HC1' := hide (hk3.cell (p := ⟨b, 0, none⟩) (unhide HC1) (.inr hTb))
      have HC2' := hide (hk3.cell (p := ⟨q, o, none⟩) (unhide HC2) (.inr hTq))
      have HZ3 : Hid (W.heap.size ≤ W3.heap.size) := Nat.le_trans hzW hk3.size
      have HJ3 := hide hJ3
      clear hJ3 hk3 hy1 hR hc1
      gi_wp2
      go_roundw
      case rel => exact ⟨pre ++ [⟨i, hlt⟩], i + 1, by go_num, by omega, by rw [List.map_append, unhide HP, List.range_succ]; rfl, unhide HJ3, unhide HZ3, unhide HC1', unhide HC2'⟩
      case measure => simp [intOf]; omega
    · have hi2 : i = N := by omega
      subst hi2
      gi_wp2
      go_end0
      exact ⟨⟨_, rfl⟩, pre, unhide HP, unhide HJ1⟩

set_option maxHeartbeats 1000000 in
theorem allB_any (q : Addr) (w : World) : Calls Try.prog 58 #[.pointer (some q)] w fun e w' =>
    e = .returned (.func (.func 72) #[] #[.pointer (some ⟨w.heap.size, 0, none⟩)]) ∧ w'.cell? ⟨w.heap.size, 0, none⟩ = some (.pointer (some q)) ∧ w'.heap.size = w.heap.size + 1 ∧ Below w.heap.size w w' := by
  go_enter Try.func58, Try.ntmps58
  go_wp2
  go_ret
  exact ⟨rfl, (cell_new' w _ _).1, World.size_alloc _ _, (Below.refl _ w).alloc (Nat.le_refl _) _⟩

set_option maxRecDepth 100000 in
set_option maxHeartbeats 4000000 in
theorem allB_x (T : Nat → Prop) (b q o g N c : Nat) (hN : N ≤ 1000) (w : World) (hcap : w.cell? ⟨b, 0, none⟩ = some (.pointer (some ⟨q, o, none⟩))) (hcs : w.cell? ⟨q, o, none⟩ = some (.slice (some ⟨g, 0, none⟩) N c)) (hTb : T b) (hTq : T q) :
    (∀ args W, (callFunc 72 args).run Try.prog W = .ok (.enter 72 args) W) ∧ SeqY Try.prog 72 #[.pointer (some ⟨b, 0, none⟩)] (fun i : Fin N => #[Value.pointer (some ⟨g, i.val * 4, none⟩)]) T 0 (fun xs => xs.map Fin.val = List.range N) N w := by
  refine ⟨enters_of Try.func72 (by kernel_rfl) rfl, ?_⟩
  intro l J W hW hJ hY h0 n
  have hA := (hW.cell (p := ⟨b, 0, none⟩) (block_lt_of_cell hcap)).trans hcap
  have hB := (hW.cell (p := ⟨q, o, none⟩) (block_lt_of_cell hcs)).trans hcs
  have HA := hide hA
  have HB := hide hB
  show CallsIn Fence.wide n Try.prog 72 #[.func (.yield l) #[] #[], .pointer (some ⟨b, 0, none⟩)] W _
  refine callsIn_of_wp Try.func72 rfl trivial ?_ rfl
  simp only [Try.ntmps72, List.size_toArray, List.length_cons, List.length_nil, Nat.reduceAdd, Nat.reduceSub, Array.replicate_succ, Array.replicate_zero, List.push_toArray, List.append_toArray, List.nil_append, List.cons_append]
  gi_wp2
  clear hA hB
  gi_loopw [8] (fun p wr => ∃ (pre : List (Fin N)) (i : Nat), p = .int .i64 i ∧ i ≤ N ∧ pre.map Fin.val = List.range i ∧ J pre wr ∧ W.heap.size ≤ wr.heap.size ∧ wr.cell? ⟨b, 0, none⟩ = some (.pointer (some ⟨q, o, none⟩)) ∧ wr.cell? ⟨q, o, none⟩ = some (.slice (some ⟨g, 0, none⟩) N c)) (fun p _ => N - (intOf p).toNat)
  case atStart => exact ⟨[], 0, rfl, by omega, rfl, h0, Nat.le_refl _, unhide HA, unhide HB⟩
  case round =>
    obtain ⟨pre, i, rfl, hi, hp, hJ1, hzW, hc1, hc2⟩ := hrel
    have hl : pre.length = i := by have := congrArg List.length hp; simpa using this
    have HP := hide hp
    have HL := hide hl
    have HC1 := hide hc1
    have HC2 := hide hc2
    have HJ1 := hide hJ1
    clear hp hl hJ1 hc2
    by_cases hlt : i < N
    · have hi1 : (i : Int) < (N : Int) := by omega
      have HO := hide (onS_in (g := g) (n := 4) hlt)
      obtain ⟨fn, tmps, assign, body, hy1, hR⟩ := hY pre ⟨i, hlt⟩ wr (unhide HJ1) (by rw [unhide HL]; exact hlt) (Nat.le_trans hzW (Nat.le_refl _))
      have HY1 := hide hy1
      clear hy1
      gi_wp2
      refine ⟨trivial, fun h => absurd h (by simp [Fence.wide]), (callsIn_wide.2 (atB_any _ _ _ _ _ _ wr (unhide HC2) hN)).mono ?_⟩
      rintro e wr ⟨rfl, rfl⟩
      rw [unhide HO]
      have hy1 := unhide HY1
      gi_wp2
      refine ⟨fun h => absurd h (by simp [Fence.wide]), (round_any hR).mono ?_⟩
      rintro e W3 ⟨rfl, hJ3, hk3⟩
      have HC1' := hide (hk3.cell (p := ⟨b, 0, none⟩) (unhide HC1) (.inr hTb))
      have HC2' := hide (hk3.cell (p := ⟨q, o, none⟩) (unhide HC2) (.inr hTq))
      have HZ3 : Hid (W.heap.size ≤ W3.heap.size) := Nat.le_trans hzW hk3.size
      have HJ3 := hide hJ3
      clear hJ3 hk3 hy1 hR hc1
      gi_wp2
      go_roundw
      case rel => exact ⟨pre ++ [⟨i, hlt⟩], i + 1, by go_num, by omega, by rw [List.map_append, unhide HP, List.range_succ]; rfl, unhide HJ3, unhide HZ3, unhide HC1', unhide HC2'⟩
      case measure => simp [intOf]; omega
    · have hi2 : i = N := by omega
      subst hi2
      gi_wp2
      go_end0
      exact ⟨⟨_, rfl⟩, pre, unhide HP, unhide HJ1⟩

set_option maxHeartbeats 1000000 in
theorem allD_any (q : Addr) (w : World) : Calls Try.prog 57 #[.pointer (some q)] w fun e w' =>
    e = .returned (.func (.func 71) #[] #[.pointer (some ⟨w.heap.size, 0, none⟩)]) ∧ w'.cell? ⟨w.heap.size, 0, none⟩ = some (.pointer (some q)) ∧ w'.heap.size = w.heap.size + 1 ∧ Below w.heap.size w w' := by
  go_enter Try.func57, Try.ntmps57
  go_wp2
  go_ret
  exact ⟨rfl, (cell_new' w _ _).1, World.size_alloc _ _, (Below.refl _ w).alloc (Nat.le_refl _) _⟩

set_option maxRecDepth 100000 in
set_option maxHeartbeats 4000000 in
theorem allD_x (T : Nat → Prop) (b q o g N c : Nat) (hN : N ≤ 1000) (w : World) (hcap : w.cell? ⟨b, 0, none⟩ = some (.pointer (some ⟨q, o, none⟩))) (hcs : w.cell? ⟨q, o, none⟩ = some (.slice (some ⟨g, 0, none⟩) N c)) (hTb : T b) (hTq : T q) :
    (∀ args W, (callFunc 71 args).run Try.prog W = .ok (.enter 71 args) W) ∧ SeqY Try.prog 71 #[.pointer (some ⟨b, 0, none⟩)] (fun i : Fin N => #[Value.pointer (some ⟨g, i.val, none⟩)]) T 0 (fun xs => xs.map Fin.val = List.range N) N w := by
  refine ⟨enters_of Try.func71 (by kernel_rfl) rfl, ?_⟩
  intro l J W hW hJ hY h0 n
  have hA := (hW.cell (p := ⟨b, 0, none⟩) (block_lt_of_cell hcap)).trans hcap
  have hB := (hW.cell (p := ⟨q, o, none⟩) (block_lt_of_cell hcs)).trans hcs
  have HA := hide hA
  have HB := hide hB
  show CallsIn Fence.wide n Try.prog 71 #[.func (.yield l) #[] #[], .pointer (some ⟨b, 0, none⟩)] W _
  refine callsIn_of_wp Try.func71 rfl trivial ?_ rfl
  simp only [Try.ntmps71, List.size_toArray, List.length_cons, List.length_nil, Nat.reduceAdd, Nat.reduceSub, Array.replicate_succ, Array.replicate_zero, List.push_toArray, List.append_toArray, List.nil_append, List.cons_append]
  gi_wp2
  clear hA hB
  gi_loopw [8] (fun p wr => ∃ (pre : List (Fin N)) (i : Nat), p = .int .i64 i ∧ i ≤ N ∧ pre.map Fin.val = List.range i ∧ J pre wr ∧ W.heap.size ≤ wr.heap.size ∧ wr.cell? ⟨b, 0, none⟩ = some (.pointer (some ⟨q, o, none⟩)) ∧ wr.cell? ⟨q, o, none⟩ = some (.slice (some ⟨g, 0, none⟩) N c)) (fun p _ => N - (intOf p).toNat)
  case atStart => exact ⟨[], 0, rfl, by omega, rfl, h0, Nat.le_refl _, unhide HA, unhide HB⟩
  case round =>
    obtain ⟨pre, i, rfl, hi, hp, hJ1, hzW, hc1, hc2⟩ := hrel
    have hl : pre.length = i := by have := congrArg List.length hp; simpa using this
    have HP := hide hp
    have HL := hide hl
    have HC1 := hide hc1
    have HC2 := hide hc2
    have HJ1 := hide hJ1
    clear hp hl hJ1 hc2
    by_cases hlt : i < N
    · have hi1 : (i : Int) < (N : Int) := by omega
      have HO := hide (onS_in (g := g) (n := 1) hlt)
      obtain ⟨fn, tmps, assign, body, hy1, hR⟩ := hY pre ⟨i, hlt⟩ wr (unhide HJ1) (by rw [unhide HL]; exact hlt) (Nat.le_trans hzW (Nat.le_refl _))
      have HY1 := hide hy1
      clear hy1
      gi_wp2
      refine ⟨trivial, fun h => absurd h (by simp [Fence.wide]), (callsIn_wide.2 (atD_any _ _ _ _ _ _ wr (unhide HC2) hN)).mono ?_⟩
      rintro e wr ⟨rfl, rfl⟩
      rw [unhide HO, Nat.mul_one]
      have hy1 := unhide HY1
      gi_wp2
      refine ⟨fun h => absurd h (by simp [Fence.wide]), (round_any hR).mono ?_⟩
      rintro e W3 ⟨rfl, hJ3, hk3⟩
      have HC1' := hide (hk3.cell (p := ⟨b, 0, none⟩) (unhide HC1) (.inr hTb))
      have HC2' := hide (hk3.cell (p := ⟨q, o, none⟩) (unhide HC2) (.inr hTq))
      have HZ3 : Hid (W.heap.size ≤ W3.heap.size) := Nat.le_trans hzW hk3.size
      have HJ3 := hide hJ3
      clear hJ3 hk3 hy1 hR hc1
      gi_wp2
      go_roundw
      case rel => exact ⟨pre ++ [⟨i, hlt⟩], i + 1, by go_num, by omega, by rw [List.map_append, unhide HP, List.range_succ]; rfl, unhide HJ3, unhide HZ3, unhide HC1', unhide HC2'⟩
      case measure => simp [intOf]; omega
    · have hi2 : i = N := by omega
      subst hi2
      gi_wp2
      go_end0
      exact ⟨⟨_, rfl⟩, pre, unhide HP, unhide HJ1⟩

end Go.Proofs.Ytnondiaefpdlpaa
