/-
  nand.allOnes, by bytes.Repeat.
-/
import Derived.Test.YtnondiaefpdlpaaMd
import Derived.Lib.MakeNoZero
import Derived.Lib.SlBuf
import Derived.Laws.CopyRow
import Derived.Laws.CopyOwn
namespace Go.Proofs.Ytnondiaefpdlpaa
open Go.RowKit Go.Shelf

set_option maxRecDepth 100000 in
set_option maxHeartbeats 2000000 in
theorem mul64_one (w : World) : Calls Try.prog 82 #[.int .u64 1, .int .u64 60] w fun e w' => e = .returned (.tuple #[.int .u64 0, .int .u64 60]) ∧ w' = w := by
  have q1 : bits .and .u64 1 4294967295 = 1 := by decide
  have q2 : bits .and .u64 60 4294967295 = 60 := by decide
  have q3 : bits .and .u64 0 4294967295 = 0 := by decide
  go_enter Try.func82, Try.ntmps82
  go_wp2_with fail
  go_returns
  exact ⟨rfl, rfl⟩

set_option maxRecDepth 100000 in
set_option maxHeartbeats 2000000 in
theorem mul_one (w : World) : Calls Try.prog 75 #[.int .u64 1, .int .u64 60] w fun e w' => e = .returned (.tuple #[.int .u64 0, .int .u64 60]) ∧ w' = w := by
  go_enter Try.func75, Try.ntmps75
  go_wp2_with fail
  refine (mul64_one w).mono ?_
  rintro e w1 ⟨rfl, rfl⟩
  go_wp2_with fail
  go_returns
  exact ⟨rfl, rfl⟩

/-- A row of sixty cells, the first n are 255. -/
def Filled (w : World) (g n : Nat) : Prop := ∃ cur, w.heap[g]? = some (.cells cur 5 (0, 0)) ∧ 60 ≤ cur.size ∧ ∀ j, j < n → cur[j]? = some (.int .u8 255)

/-- Bytes 255 are copied behind those that are there. -/
theorem filled_copy {w : World} {g n : Nat} (h : Filled w g n) (k x gs dl dc sl sc os : Nat) (hk : n + k ≤ 60) (hs : ∀ j, j < k → w.cell? ⟨gs, os + j, none⟩ = some (.int .u8 255)) (hm : Nat.min sl dl = k) :
    ∃ w', (Builtin.copy_ #[38, 38] x #[.slice (some ⟨g, n, none⟩) dl dc, .slice (some ⟨gs, os, none⟩) sl sc]).run Try.prog w = .ok (.int .i64 (k : Int)) w' ∧ Filled w' g (n + k) ∧ Below g w w' ∧ w'.heap.size = w.heap.size := by
  obtain ⟨cur, h1, h2, h3⟩ := h
  have hr := run_copy_row (P := Try.prog) w 38 38 x 5 g n dl dc ⟨gs, os, none⟩ sl sc cur 5 (List.replicate k (.int .u8 255)) Try.underlying38 (by kernel_rfl) h1 (by rw [List.length_replicate, hm]) (fun j v hj => by
    rw [List.getElem?_replicate] at hj
    split at hj
    · rename_i hlt
      cases hj
      rw [Addr.add_lit]
      exact hs j hlt
    · cases hj) (by rw [List.length_replicate]; omega) (fun v hv => by rw [List.eq_of_mem_replicate hv]; rfl)
  rw [List.length_replicate] at hr
  refine ⟨_, hr, ⟨_, setRow_heap w g cur _ 5 _ h1, ?_, fun j hj => ?_⟩, ?_, ?_⟩
  · simp
    omega
  · simp only [List.getElem?_toArray]
    by_cases e : j < n
    · rw [List.append_assoc, List.getElem?_append_left (by simp; omega), List.getElem?_take, if_pos e]
      rw [Array.getElem?_toList]
      exact h3 j e
    · rw [List.getElem?_append_left (by simp; omega), List.getElem?_append_right (by simp; omega), List.getElem?_replicate, if_pos (by simp; omega)]
  · exact below_setRow (Below.refl _ _) (Nat.le_refl _) _
  · exact size_setRow _ _ _

set_option maxRecDepth 100000 in
set_option maxHeartbeats 4000000 in
theorem repeat_any (w : World) (g : Nat) (hA : Arg w (.slice (some ⟨g, 0, none⟩) 1 1) g [255]) : Calls Try.prog 70 #[.slice (some ⟨g, 0, none⟩) 1 1, .int .i64 60] w fun e w' => ∃ v, e = .returned v ∧ Fr w.heap.size w' v (List.replicate 60 255) ∧ Below w.heap.size w w' := by
  obtain ⟨cs, hrunM, hle, hmx⟩ := Lib.run_makeNoZero (P := Try.prog) w #[3] 38 5 Try.underlying38 60 (by omega)
  rw [show (((60 : Nat) : Int)) = 60 from rfl] at hrunM
  have hcall : (callFunc 76 #[.int .i64 60]).run Try.prog w = .ok (.value (.slice (some ⟨w.heap.size, 0, none⟩) 60 cs.size)) ((w.alloc (.cells cs 5)).drewN 2) := by
    rw [run_callFunc_extern Try.func76 (by kernel_rfl) (by kernel_rfl) (by kernel_rfl) (e := Extern.BytealgMakeNoZero.makeNoZero #[3] #[38]) (by kernel_rfl), hrunM]
    rfl
  clear hrunM
  have HA := hide hA
  clear hA
  go_enter Try.func70, Try.ntmps70
  go_wp2_with fail
  refine (mul_one w).mono ?_
  rintro e w1 ⟨rfl, rfl⟩
  have hz1 : ((w1.alloc (.cells cs 5)).drewN 2).heap.size = w1.heap.size + 1 := World.size_alloc _ _
  have HK1 : Hid (Below w1.heap.size w1 ((w1.alloc (.cells cs 5)).drewN 2)) := ((Below.refl _ _).alloc (Nat.le_refl _) _).trans ((below_drewN _ 2).mono (by rw [World.size_alloc]; omega))
  have hF0 : Filled ((w1.alloc (.cells cs 5)).drewN 2) w1.heap.size 0 := ⟨cs, World.alloc_heap_new w1 _, hle, fun j hj => by omega⟩
  obtain ⟨w2, hr2, hF2, hb2, hz2⟩ := filled_copy hF0 1 3 g 60 60 1 1 0 (by omega) (fun j hj => by
    have hc := row_cell (arg_row ((unhide HA).below (unhide HK1))) (j := j) (by simpa using hj)
    obtain rfl : j = 0 := by omega
    exact hc) (by rfl)
  have HF := hide hF2
  have HK2 := hide ((unhide HK1).trans hb2)
  rw [hz1] at hz2
  have hz2a := Nat.le_of_eq hz2
  have hz2b := Nat.le_of_eq hz2.symm
  clear hF0 hz1 hF2 hb2 hz2 HK1 HA
  rw [Int.natCast_one] at hr2
  have hi1 : (60 : Int) ≤ (cs.size : Int) := by omega
  go_wp2_with fail
  clear hcall hr2
  go_loopw [10] (fun p wr => ∃ n : Nat, p = .int .i64 n ∧ 1 ≤ n ∧ n ≤ 60 ∧ Hid (Filled wr w1.heap.size n) ∧ Below w1.heap.size w1 wr) (fun p _ => 60 - (intOf p).toNat)
  case atStart => exact ⟨1, rfl, by omega, by omega, HF, unhide HK2⟩
  case round =>
    obtain ⟨n, rfl, hn1, hn2, HFn, hK⟩ := hrel
    have HK := hide hK
    clear hK
    by_cases h60 : n < 60
    · have hlt : (n : Int) < 60 := by omega
      have hle6 : (n : Int) ≤ 60 := by omega
      have hmin : ∀ W : World, (Builtin.min_ #[3, 3] 3 #[.int .i64 (n : Int), .int .i64 60]).run Try.prog W = .ok (.int .i64 (n : Int)) W := fun W => by rw [min_two, show min (n : Int) 60 = (n : Int) from by omega]
      obtain ⟨k, hk⟩ : ∃ k, min n (60 - n) = k := ⟨_, rfl⟩
      have hk1 : 1 ≤ k := by omega
      have hk2 : n + k ≤ 60 := by omega
      have hwr : IntKind.i64.wrap ((n : Int) + (k : Int)) = ((n + k : Nat) : Int) := by rw [IntWalk.i64_in _ ⟨by omega, by omega⟩]; omega
      have HWR := hide hwr
      clear hwr
      obtain ⟨w3, hr3, hF3, hb3, hz3⟩ := filled_copy (w := wr.drew) (unhide HFn) k 3 w1.heap.size (60 - n) (60 - n) n 60 0 hk2 (fun j hj => by
        obtain ⟨cur, h1, _, h3⟩ := unhide HFn
        rw [Nat.zero_add]
        exact cell_blk (w := wr.drew) h1 (h3 j (by omega))) hk
      have hsl : ∀ W : World, (Instr.slice 38 (.slice (some ⟨w1.heap.size, 0, none⟩) 60 60) (some (.int .i64 (n : Int))) none none).run Try.prog W = .ok (.slice (some ⟨w1.heap.size, n, none⟩) (60 - n) (60 - n)) W := fun W => by
        rw [Lib.run_slice_tailV W 38 5 Try.underlying38 (fun w => by kernel_rfl) _ 60 n (by omega), Lib.tailV, if_neg (by omega)]
      have HF3 := hide hF3
      have HK3 := hide ((unhide HK).drew.trans hb3)
      clear hF3 hb3 HFn HF hz3
      go_wp2_with fail
      refine wp_region_noPanic ?_
      refine wp_region_held_drew (S := fun _ => True) (by kernel_rfl) ?_ (fun hHeld => ?_)
      · trivial
      have HH := hide hHeld
      clear hHeld
      refine takeL (i := 0) (v := ?_) rfl (by kernel_rfl) (by kernel_rfl) (by kernel_rfl) (fun _ _ _ h => h) (Or.inl ⟨by rfl, ?_⟩) (unhide HH) ?_
      rotate_left 1
      · intro W hSW; go_simp; all_goals (with_reducible rfl)
      (try simp only [Act.put, List.setIfInBounds_toArray, List.set_cons_zero, List.set_cons_succ])
      refine takeL (i := 1) (v := ?_) rfl (by kernel_rfl) (by kernel_rfl) (by kernel_rfl) (fun _ _ _ h => h) (Or.inl ⟨by rfl, ?_⟩) (unhide HH) ?_
      rotate_left 1
      · intro W hSW; go_simp; all_goals (with_reducible rfl)
      (try simp only [Act.put, List.setIfInBounds_toArray, List.set_cons_zero, List.set_cons_succ])
      refine takeL (i := 2) (v := ?_) rfl (by kernel_rfl) (by kernel_rfl) (by kernel_rfl) (fun _ _ _ h => h) (Or.inl ⟨by rfl, ?_⟩) (unhide HH) ?_
      rotate_left 1
      · intro W hSW; go_simp; all_goals (with_reducible rfl)
      (try simp only [Act.put, List.setIfInBounds_toArray, List.set_cons_zero, List.set_cons_succ])
      refine takeL (i := 3) (v := ?_) rfl (by kernel_rfl) (by kernel_rfl) (by kernel_rfl) (fun _ _ _ h => h) (Or.inl ⟨by rfl, ?_⟩) (unhide HH) ?_
      rotate_left 1
      · intro W hSW; go_simp; all_goals (with_reducible rfl)
      (try simp only [Act.put, List.setIfInBounds_toArray, List.set_cons_zero, List.set_cons_succ])
      refine takeL (i := 4) (v := ?_) rfl (by kernel_rfl) (by kernel_rfl) (by kernel_rfl) (fun _ _ _ h => h) (Or.inl ⟨by rfl, ?_⟩) (unhide HH) ?_
      rotate_left 1
      · intro W hSW; go_simp; all_goals (with_reducible rfl)
      (try simp only [Act.put, List.setIfInBounds_toArray, List.set_cons_zero, List.set_cons_succ])
      refine takeL (i := 5) (v := ?_) rfl (by kernel_rfl) (by kernel_rfl) (by kernel_rfl) (fun _ _ _ h => h) (Or.inl ⟨by rfl, ?_⟩) (unhide HH) ?_
      rotate_left 1
      · intro W hSW; go_simp; all_goals (with_reducible rfl)
      (try simp only [Act.put, List.setIfInBounds_toArray, List.set_cons_zero, List.set_cons_succ])
      refine takeL (i := 6) (v := ?_) rfl (by kernel_rfl) (by kernel_rfl) (by kernel_rfl) (fun _ _ _ h => h) (Or.inl ⟨by rfl, ?_⟩) (unhide HH) ?_
      rotate_left 1
      · intro W hSW; go_simp; all_goals (with_reducible rfl)
      (try simp only [Act.put, List.setIfInBounds_toArray, List.set_cons_zero, List.set_cons_succ])
      refine wpAnyH_ready (rs := [7]) (by kernel_rfl) (by simp) ?_
      refine consL rfl (fun K hK => ?_) AllReadyH.nil
      rw [if_pos (by rfl)]
      refine Lib.wp_copy_run _ (.tmp 70) (.tmp 73) 38 38 rfl _ _ rfl rfl hr3 ?_
      refine hK.out _ _ (trivial) (fun hHeld => ?_)
      clear hK K HH
      have HH := hide hHeld
      clear hHeld
      (try simp only [Act.put, List.setIfInBounds_toArray, List.set_cons_zero, List.set_cons_succ])
      refine takeL (i := 8) (v := ?_) rfl (by kernel_rfl) (by kernel_rfl) (by kernel_rfl) (fun _ _ _ h => h) (Or.inl ⟨by rfl, ?_⟩) (unhide HH) ?_
      rotate_left 1
      · intro W hSW; go_simp; all_goals (with_reducible rfl)
      (try simp only [Act.put, List.setIfInBounds_toArray, List.set_cons_zero, List.set_cons_succ])
      refine takeL (i := 9) (v := ?_) rfl (by kernel_rfl) (by kernel_rfl) (by kernel_rfl) (fun _ _ _ h => h) (Or.inl ⟨by rfl, ?_⟩) (unhide HH) ?_
      rotate_left 1
      · intro W hSW; go_simp; all_goals (with_reducible rfl)
      (try simp only [Act.put, List.setIfInBounds_toArray, List.set_cons_zero, List.set_cons_succ])
      refine wpAnyH_done (by kernel_rfl) ?_ _
      refine NoPanic.normal ?_
      go_wp2_with fail
      go_roundw
      case rel => exact ⟨n + k, by rw [unhide HWR], by omega, by omega, HF3, unhide HK3⟩
      case measure => rw [unhide HWR]; simp [intOf]; omega
    · obtain rfl : n = 60 := by omega
      go_wp2_with fail
      go_ret
      refine ⟨_, rfl, .inr ⟨w1.heap.size, 60, by simp, by simp, by unfold maxLen; omega, ?_, Nat.le_refl _⟩, unhide HK⟩
      obtain ⟨cur, h1, h2, h3⟩ := unhide HFn
      exact ⟨cur, h1, fun j hj => by
        rw [List.length_replicate] at hj
        rw [h3 j hj, cf_rep 255 hj]; rfl⟩

theorem arg_one7 (w : World) (x : Nat) (hx : x < 256) : Arg (w.alloc (.cells #[.int .u8 (x : Int)] 5)) (.slice (some ⟨w.heap.size, 0, none⟩) 1 1) w.heap.size [x] := by
  have hb : Blk (w.alloc (.cells #[.int .u8 (x : Int)] 5)) w.heap.size [x] := ⟨_, World.alloc_heap_new w _, fun j hj => by
    have : j = 0 := by simpa using hj
    subst this
    rfl⟩
  exact hb.arg (Bs.of (fun y hy => by simp at hy; omega)) (c := 1) (by simp) (by unfold maxLen; omega)

set_option maxRecDepth 100000 in
set_option maxHeartbeats 4000000 in
theorem allOnes_any (w : World) : Calls Try.prog 52 #[] w fun e w' => ∃ v, e = .returned v ∧ Fr w.heap.size w' v (List.replicate 60 255) ∧ Below w.heap.size w w' := by
  have hA := arg_one7 w 255 (by omega)
  have hk : Below w.heap.size w (w.alloc (.cells #[.int .u8 255] 5)) := (Below.refl _ _).alloc (Nat.le_refl _) _
  have HA := hide hA
  have HK := hide hk
  clear hA hk
  go_enter Try.func52, Try.ntmps52
  go_wp2_with fail
  refine (repeat_any _ _ (unhide HA)).mono ?_
  rintro e w1 ⟨v, rfl, hF, hb⟩
  have HF := hide (hF.below (Below.refl _ _) (unhide HK).size)
  have HB := hide ((unhide HK).trans (hb.mono (unhide HK).size))
  clear hF hb
  go_wp2_with fail
  go_ret
  exact ⟨_, rfl, unhide HF, unhide HB⟩

end Go.Proofs.Ytnondiaefpdlpaa
