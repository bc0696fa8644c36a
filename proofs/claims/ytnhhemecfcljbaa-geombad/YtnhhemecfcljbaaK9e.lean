/-
  slices.Contains of places.
-/
import Derived.Test.YtnhhemecfcljbaaK9a
namespace Go.Proofs.Ytnhhemecfcljbaa
open Go.RowKit Go.Shelf

theorem below_qN {n : Nat} {a w : World} (h : Below n a w) (m : Nat) : Below n a (w.drewN m) := ⟨h.os, h.tape, h.output, h.size, h.block⟩
theorem PArg.below' {w w' : World} {v : Value} {g : Nat} {l : List (Int × Int)} (h : PArg w v g l) (k : Below w.heap.size w w') : PArg w' v g l := PArg.below h k (fun hne => h.lt hne)

theorem two_at {w : World} {n g c : Nat} {ao : Option Addr} {l : List (Int × Int)} (h : PArg w (.slice ao n c) g l) {i : Nat} (hi : i < n) : l.length = n ∧ ∃ o, ao = some ⟨g, o, none⟩ ∧ w.cell? ⟨g, o + i * 2, none⟩ = some (.int .i64 (l.getD i (0, 0)).1) ∧ w.cell? ⟨g, o + i * 2 + 1, none⟩ = some (.int .i64 (l.getD i (0, 0)).2) := by
  obtain ⟨ao', c', h1, h2, h3, h4⟩ := h
  have e : l.length = n ∧ ao' = ao := by cases h1; exact ⟨rfl, rfl⟩
  obtain ⟨e1, e2⟩ := e
  subst e2
  obtain ⟨o, h5, h6⟩ := h4 (fun e => by rw [e] at e1; simp at e1; omega)
  exact ⟨e1, o, h5, h6 i (by omega)⟩
theorem parg_len {w : World} {n g c : Nat} {ao : Option Addr} {l : List (Int × Int)} (h : PArg w (.slice ao n c) g l) : l.length = n ∧ (n : Int) ≤ 9223372036854775807 := by
  obtain ⟨ao', c', h1, h2, h3, h4⟩ := h
  cases h1
  exact ⟨rfl, by unfold maxLen at h3; omega⟩
theorem pair_take {l : List (Int × Int)} {i : Nat} (hi : i < l.length) (p : Int × Int) : p ∈ l.take (i + 1) ↔ p ∈ l.take i ∨ l.getD i (0, 0) = p := by
  have e : l.take (i + 1) = l.take i ++ [l.getD i (0, 0)] := by
    rw [List.take_succ_eq_append_getElem hi, List.getD_eq_getElem?_getD, List.getElem?_eq_getElem hi]; rfl
  rw [e, List.mem_append, List.mem_singleton]
  exact ⟨fun h => h.imp id Eq.symm, fun h => h.imp id Eq.symm⟩
theorem pair_mem {l : List (Int × Int)} {i : Nat} (hi : i < l.length) : l.getD i (0, 0) ∈ l := by
  rw [List.getD_eq_getElem?_getD, List.getElem?_eq_getElem hi]
  exact List.getElem_mem hi

/-- Two places are compared. -/
theorem eqTA_in (a b c d : Int) (w : World) : (Op.equalIn 10000 39 (.agg #[.int .i64 a, .int .i64 b]) (.agg #[.int .i64 c, .int .i64 d])).run Try.prog w = .ok (a == c && b == d) w := by
  have u3 := Try.underlying3
  have a3 := Try.isAgg3
  have z3 := Try.sizeOf3
  rw [show (10000 : Nat) = 9999 + 1 from rfl, Op.equalIn]
  simp only [Sem.run_bind, run_underlying Try.underlying39, Result.andThen_ok]
  simp only [Std.Legacy.Range.forIn_eq_forIn_range', Std.Legacy.Range.size, Nat.sub_zero, Nat.add_sub_cancel, Nat.div_one, List.range'_succ, List.range'_zero, List.forIn_cons, List.forIn_nil]
  go_simp
  by_cases h1 : a = c <;> by_cases h2 : b = d <;> simp [h1, h2]
theorem eqTA (a b c d : Int) (r : Bool) (h : (a == c && b == d) = r) (w : World) : (binOp .eql 39 (.agg #[.int .i64 a, .int .i64 b]) (.agg #[.int .i64 c, .int .i64 d])).run Try.prog w = .ok (.bool r) w := by
  simp [binOp, Op.equal, Op.maxDepth, eqTA_in, h]
theorem neTA (a b c d : Int) (r : Bool) (h : (!(a == c && b == d)) = r) (w : World) : (binOp .neq 39 (.agg #[.int .i64 a, .int .i64 b]) (.agg #[.int .i64 c, .int .i64 d])).run Try.prog w = .ok (.bool r) w := by
  simp [binOp, Op.equal, Op.maxDepth, eqTA_in, h]

set_option maxRecDepth 100000 in
set_option maxHeartbeats 2000000 in
theorem index9_any (ao : Option Addr) (n c g : Nat) (l : List (Int × Int)) (d b : Int) (w : World) (hA : PArg w (.slice ao n c) g l) :
    Calls Try.prog 33 #[.slice ao n c, .agg #[.int .i64 d, .int .i64 b]] w fun e w' => ∃ r : Int, e = .returned (.int .i64 r) ∧ Below w.heap.size w w' ∧ ((r = -1 ∧ (d, b) ∉ l) ∨ (0 ≤ r ∧ (d, b) ∈ l)) := by
  have hnm := (parg_len hA).2
  have HN := hide (parg_len hA).1
  obtain ⟨W, hW⟩ : ∃ W, w.alloc (.cells #[.int .i64 d, .int .i64 b] 39) = W := ⟨_, rfl⟩
  have hal : Below w.heap.size w W := by rw [← hW]; exact (Below.refl _ _).alloc (Nat.le_refl _) _
  have hbx : W.heap[w.heap.size]? = some (.cells #[.int .i64 d, .int .i64 b] 39 (0, 0)) := by rw [← hW]; exact World.alloc_heap_new w _
  have HB := hide hal
  have HX := hide hbx
  have HA := hide (hA.below' hal)
  clear hA hal hbx
  go_enter Try.func33, Try.ntmps33
  go_wp2_with fail
  go_loopw [8] (fun p wr => ∃ i : Nat, p = .int .i64 i ∧ i ≤ n ∧ Hid ((d, b) ∉ l.take i) ∧ Hid (Below W.heap.size W wr)) (fun p _ => n - (intOf p).toNat)
  case atStart => exact ⟨0, rfl, by omega, (by show _ ∉ _; simp), Below.refl _ _⟩
  case round =>
    obtain ⟨i, rfl, hi, HZ, HK⟩ := hrel
    by_cases hlt : i < n
    · have hi1 : (i : Int) < (n : Int) := by omega
      obtain ⟨hln, o, hao, k0, k1⟩ := two_at ((unhide HA).below' (unhide HK)) hlt
      subst hao
      have x0 : wr.cell? ⟨w.heap.size, 0, none⟩ = some (.int .i64 d) := ((unhide HK).cell (lt_of_block (unhide HX))).trans (cell_blk (unhide HX) rfl)
      have x1 : wr.cell? ⟨w.heap.size, 1, none⟩ = some (.int .i64 b) := ((unhide HK).cell (lt_of_block (unhide HX))).trans (cell_blk (unhide HX) rfl)
      have HM : Hid (l.getD i (0, 0) ∈ l) := pair_mem (by omega)
      have HT : Hid (l.getD i (0, 0) ≠ (d, b) → (d, b) ∉ l.take (i + 1)) := fun hne h => by
        rcases (pair_take (by omega) (d, b)).1 h with h | h
        · exact unhide HZ h
        · exact hne h
      obtain ⟨⟨y0, y1⟩, hy⟩ : ∃ y, l.getD i (0, 0) = y := ⟨_, rfl⟩
      rw [hy] at k0 k1 HM HT
      dsimp only at k0 k1
      clear hy hln
      by_cases he : (y0, y1) = (d, b)
      · have hq : ∀ W : World, (binOp .eql 39 (.agg #[.int .i64 d, .int .i64 b]) (.agg #[.int .i64 y0, .int .i64 y1])).run Try.prog W = .ok (.bool true) W := eqTA _ _ _ _ _ (by cases he; simp)
        have HE := hide he
        clear he
        go_wp2_with fail
        go_quiet (fail)
        go_wp2_with fail
        go_ret
        exact ⟨i, rfl, below_qN ((unhide HB).trans ((unhide HK).mono (unhide HB).size)) _, .inr ⟨by omega, by rw [← unhide HE]; exact unhide HM⟩⟩
      · have hq : ∀ W : World, (binOp .eql 39 (.agg #[.int .i64 d, .int .i64 b]) (.agg #[.int .i64 y0, .int .i64 y1])).run Try.prog W = .ok (.bool false) W := eqTA _ _ _ _ _ (by
          rw [Bool.and_eq_false_iff]
          by_cases h : d = y0
          · right; rw [beq_eq_false_iff_ne]; intro h2; exact he (by rw [h, h2])
          · left; rw [beq_eq_false_iff_ne]; exact h)
        have HE := hide he
        clear he
        go_wp2_with fail
        go_quiet (fail)
        go_wp2_with fail
        go_roundw
        case rel => exact ⟨i + 1, by go_num, by omega, hide (unhide HT (unhide HE)), hide (below_qN (unhide HK) _)⟩
        case measure => simp [intOf]; omega
    · have hi2 : i = n := by omega
      subst hi2
      go_wp2
      go_ret
      exact ⟨-1, rfl, (unhide HB).trans ((unhide HK).mono (unhide HB).size), .inl ⟨rfl, by have h := unhide HZ; rwa [← unhide HN, List.take_length] at h⟩⟩

set_option maxRecDepth 100000 in
set_option maxHeartbeats 1000000 in
theorem contains9_any (ao : Option Addr) (n c g : Nat) (l : List (Int × Int)) (d b : Int) (w : World) (hA : PArg w (.slice ao n c) g l) :
    Calls Try.prog 31 #[.slice ao n c, .agg #[.int .i64 d, .int .i64 b]] w fun e w' => e = .returned (.bool (decide ((d, b) ∈ l))) ∧ Below w.heap.size w w' := by
  obtain ⟨W, hW⟩ : ∃ W, w.alloc (.cells #[.int .i64 d, .int .i64 b] 39) = W := ⟨_, rfl⟩
  have hal : Below w.heap.size w W := by rw [← hW]; exact (Below.refl _ _).alloc (Nat.le_refl _) _
  have hbx : W.heap[w.heap.size]? = some (.cells #[.int .i64 d, .int .i64 b] 39 (0, 0)) := by rw [← hW]; exact World.alloc_heap_new w _
  have k0 : W.cell? ⟨w.heap.size, 0, none⟩ = some (.int .i64 d) := cell_blk hbx rfl
  have k1 : W.cell? ⟨w.heap.size, 1, none⟩ = some (.int .i64 b) := cell_blk hbx rfl
  have HB := hide hal
  have HA := hide (hA.below' hal)
  clear hA hal hbx
  go_enter Try.func31, Try.ntmps31
  go_wp2_with fail
  refine (index9_any ao n c g l d b _ (unhide HA)).mono ?_
  rintro e w' ⟨r, rfl, hk, h⟩
  have HK := hide ((unhide HB).trans (hk.mono (unhide HB).size))
  clear hk k0 k1
  rcases h with ⟨hr, hz⟩ | ⟨hr, hz⟩
  · subst hr
    have HD := hide (decide_eq_false hz)
    clear hz
    go_wp2_with fail
    go_ret
    rw [unhide HD]
    exact ⟨rfl, unhide HK⟩
  · have HD := hide (decide_eq_true hz)
    clear hz
    go_wp2_with fail
    go_ret
    rw [unhide HD]
    exact ⟨rfl, unhide HK⟩

end Go.Proofs.Ytnhhemecfcljbaa
