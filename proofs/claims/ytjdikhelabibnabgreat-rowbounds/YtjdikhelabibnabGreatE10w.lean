/-
  Layouts, written: (layout).write.
-/
import Derived.Test.YtjdikhelabibnabGreatE10i
namespace Go.Proofs.YtjdikhelabibnabGreat
open Go.RowKit Go.Shelf
attribute [local go_sem] Oper.semAt_some

/-- A head's bytes, part by part; a slot's; the noughts. -/
def owH (a b c d : Int) : List (List Int) := [by8 8 (IntKind.u64.wrap a), by8 1 (IntKind.u64.wrap b), by8 1 (IntKind.u64.wrap c), by8 1 (IntKind.u64.wrap d)]
def owE (k l s : Int) (d : List Nat) : List (List Int) := [by8 1 (IntKind.u64.wrap k), by8 8 (IntKind.u64.wrap l), by8 8 (IntKind.u64.wrap s), ints d]
def owT (d : List Nat) : List (List Int) := [ints d]
def fin10 (l : List (List Int)) (k : Nat) : List Int := (l.take k).flatten
theorem fin_succ {l : List (List Int)} {k : Nat} (x : List Int) (h : l[k]? = some x) : fin10 l (k + 1) = fin10 l k ++ x := by
  unfold fin10
  rw [List.take_add_one, h]
  simp
/-- A tail's cells. -/
def tailA (d : List Nat) : Array Value := (datL d).toArray

set_option maxRecDepth 100000 in
set_option maxHeartbeats 8000000 in
theorem writeH_any (L : Nat) (c : Nat → Nat) (x0 x1 x2 x3 : Int) (a : Option Addr) (g n cc : Nat) (zs : List Int) (w : World) (hn : n ≤ 100) (hl : zs.length = n) (hr : Row w a g zs) (hL : LayH w L c) :
    Calls Tryz.prog 50 #[.slice (some ⟨L, 0, none⟩) 4 4, .slice a n cc, .agg (headA x0 x1 x2 x3)] w fun e w' => ∃ a' g' c', e = .returned (.slice a' (zs ++ fin10 (owH x0 x1 x2 x3) 4).length c') ∧ Row w' a' g' (zs ++ fin10 (owH x0 x1 x2 x3) 4) ∧ Below w.heap.size w w' := by
  have HR := hide hr
  have HL := hide hL
  clear hr hL
  go_enter Tryz.func50, Tryz.ntmps50
  go_wp2_with fail
  obtain ⟨w1, hw1⟩ : ∃ w1, w.alloc (.cells (headA x0 x1 x2 x3) 52) = w1 := ⟨_, rfl⟩
  have HK1 : Hid (Kp [] w w1) := by rw [← hw1]; exact (Kp.refl [] w).alloc _
  have HB : Hid (w1.heap[w.heap.size]? = some (.cells (headA x0 x1 x2 x3) 52 (0, 0))) := by rw [← hw1]; exact World.alloc_heap_new w _
  obtain ⟨B, hB⟩ : ∃ B, w.heap.size = B := ⟨_, rfl⟩
  rw [hw1]
  rw [hB] at HB ⊢
  clear hw1
  subst hl
  go_loopw [1, 11] (fun b i wr => ∃ (k : Nat) (a' : Option Addr) (g' c' N : Nat), k ≤ 4 ∧ i = .int .i64 k ∧ b = .slice a' N c' ∧ (zs ++ fin10 (owH x0 x1 x2 x3) k).length = N ∧ Kp [] w1 wr ∧ Row wr a' g' (zs ++ fin10 (owH x0 x1 x2 x3) k)) (fun _ i _ => 4 - (intOf i).toNat)
  case atStart => exact ⟨0, a, g, cc, zs.length, by omega, rfl, rfl, by simp [fin10], Kp.refl _ _, by simpa [fin10] using (unhide HR).keep (unhide HK1) (by simp)⟩
  case round =>
    obtain ⟨k, a', g', c', N, hk, rfl, rfl, hN, hK, hr⟩ := hrel
    have HN := hide hN
    clear hN
    have HK := hide hK
    have HR1 := hide hr
    have HB1 := hide (hK.heap (unhide HB) (by simp))
    have HL1 := hide (((unhide HL).keep (unhide HK1).below).keep hK.below)
    clear hK hr
    by_cases hlt : k < 4
    · match k, hlt with
      | 0, _ =>
        have q0 : wr.cell? ⟨L, 0, none⟩ = some (.func (.func 107) #[] #[.pointer (some ⟨c 0, 0, none⟩)]) := cell_blk (unhide HL1).blk rfl
        have q1 : wr.cell? ⟨L, 1, none⟩ = some (.func (.func 109) #[] #[.pointer (some ⟨c 0, 0, none⟩)]) := cell_blk (unhide HL1).blk rfl
        have HLN : Hid (N ≤ 200) := by
          rw [← unhide HN, List.length_append]
          have : (fin10 (owH x0 x1 x2 x3) 0).length = 0 := by simp [fin10]
          unfold Hid
          omega
        go_wp2_with fail
        refine (put_numH 74 (c 0) B 0 x0 a' g' N c' (zs ++ fin10 (owH x0 x1 x2 x3) 0) _ (by have := unhide HLN; omega) (unhide HN) ((unhide HR1).keep ((Kp.refl [] wr).alloc _) (by simp)) at_h0.1 at_h0.2 (((Kp.refl [] wr).alloc _).cell (unhide HL1).c0 (by simp)) (((Kp.refl [] wr).alloc _).cell (cell_blk (unhide HB1) rfl) (by simp))).mono ?_
        rintro x w2 ⟨q, rfl, hq, ho, hk2⟩
        have HR2 := hide (row_of_owns ho)
        have HK2 : Hid (Kp [] w1 w2) := ((unhide HK).alloc _).trans hk2 (by simp)
        clear ho hk2
        go_wp2
        go_roundw
        case rel => exact ⟨1, some ⟨q, 0, none⟩, q, _, _, by omega, by go_num, rfl, by rw [fin_succ _ rfl, ← List.append_assoc, List.length_append, unhide HN]; first | rfl | rw [by8_length] | (simp [ints, hd]), unhide HK2, by rw [fin_succ _ rfl, ← List.append_assoc]; exact unhide HR2⟩
        case measure => simp [intOf] <;> omega
      | 1, _ =>
        have q0 : wr.cell? ⟨L, 2, none⟩ = some (.func (.func 111) #[] #[.pointer (some ⟨c 1, 0, none⟩)]) := cell_blk (unhide HL1).blk rfl
        have q1 : wr.cell? ⟨L, 3, none⟩ = some (.func (.func 113) #[] #[.pointer (some ⟨c 1, 0, none⟩)]) := cell_blk (unhide HL1).blk rfl
        have HLN : Hid (N ≤ 200) := by
          rw [← unhide HN, List.length_append]
          have : (fin10 (owH x0 x1 x2 x3) 1).length = 8 := by simp [fin10, owH, by8_length]
          unfold Hid
          omega
        go_wp2_with fail
        refine (put_lowH 76 (c 1) B 1 x1 a' g' N c' (zs ++ fin10 (owH x0 x1 x2 x3) 1) _ (by have := unhide HLN; omega) (unhide HN) ((unhide HR1).keep ((Kp.refl [] wr).alloc _) (by simp)) at_h1.1 at_h1.2 (((Kp.refl [] wr).alloc _).cell (unhide HL1).c1 (by simp)) (((Kp.refl [] wr).alloc _).cell (cell_blk (unhide HB1) rfl) (by simp))).mono ?_
        rintro x w2 ⟨q, rfl, hq, ho, hk2⟩
        have HR2 := hide (row_of_owns ho)
        have HK2 : Hid (Kp [] w1 w2) := ((unhide HK).alloc _).trans hk2 (by simp)
        clear ho hk2
        go_wp2
        go_roundw
        case rel => exact ⟨2, some ⟨q, 0, none⟩, q, _, _, by omega, by go_num, rfl, by rw [fin_succ _ rfl, ← List.append_assoc, List.length_append, unhide HN]; first | rfl | rw [by8_length] | (simp [ints, hd]), unhide HK2, by rw [fin_succ _ rfl, ← List.append_assoc]; exact unhide HR2⟩
        case measure => simp [intOf] <;> omega
      | 2, _ =>
        have q0 : wr.cell? ⟨L, 4, none⟩ = some (.func (.func 111) #[] #[.pointer (some ⟨c 2, 0, none⟩)]) := cell_blk (unhide HL1).blk rfl
        have q1 : wr.cell? ⟨L, 5, none⟩ = some (.func (.func 113) #[] #[.pointer (some ⟨c 2, 0, none⟩)]) := cell_blk (unhide HL1).blk rfl
        have HLN : Hid (N ≤ 200) := by
          rw [← unhide HN, List.length_append]
          have : (fin10 (owH x0 x1 x2 x3) 2).length = 9 := by simp [fin10, owH, by8_length]
          unfold Hid
          omega
        go_wp2_with fail
        refine (put_lowH 77 (c 2) B 2 x2 a' g' N c' (zs ++ fin10 (owH x0 x1 x2 x3) 2) _ (by have := unhide HLN; omega) (unhide HN) ((unhide HR1).keep ((Kp.refl [] wr).alloc _) (by simp)) at_h2.1 at_h2.2 (((Kp.refl [] wr).alloc _).cell (unhide HL1).c2 (by simp)) (((Kp.refl [] wr).alloc _).cell (cell_blk (unhide HB1) rfl) (by simp))).mono ?_
        rintro x w2 ⟨q, rfl, hq, ho, hk2⟩
        have HR2 := hide (row_of_owns ho)
        have HK2 : Hid (Kp [] w1 w2) := ((unhide HK).alloc _).trans hk2 (by simp)
        clear ho hk2
        go_wp2
        go_roundw
        case rel => exact ⟨3, some ⟨q, 0, none⟩, q, _, _, by omega, by go_num, rfl, by rw [fin_succ _ rfl, ← List.append_assoc, List.length_append, unhide HN]; first | rfl | rw [by8_length] | (simp [ints, hd]), unhide HK2, by rw [fin_succ _ rfl, ← List.append_assoc]; exact unhide HR2⟩
        case measure => simp [intOf] <;> omega
      | 3, _ =>
        have q0 : wr.cell? ⟨L, 6, none⟩ = some (.func (.func 111) #[] #[.pointer (some ⟨c 3, 0, none⟩)]) := cell_blk (unhide HL1).blk rfl
        have q1 : wr.cell? ⟨L, 7, none⟩ = some (.func (.func 113) #[] #[.pointer (some ⟨c 3, 0, none⟩)]) := cell_blk (unhide HL1).blk rfl
        have HLN : Hid (N ≤ 200) := by
          rw [← unhide HN, List.length_append]
          have : (fin10 (owH x0 x1 x2 x3) 3).length = 10 := by simp [fin10, owH, by8_length]
          unfold Hid
          omega
        go_wp2_with fail
        refine (put_lowH 78 (c 3) B 3 x3 a' g' N c' (zs ++ fin10 (owH x0 x1 x2 x3) 3) _ (by have := unhide HLN; omega) (unhide HN) ((unhide HR1).keep ((Kp.refl [] wr).alloc _) (by simp)) at_h3.1 at_h3.2 (((Kp.refl [] wr).alloc _).cell (unhide HL1).c3 (by simp)) (((Kp.refl [] wr).alloc _).cell (cell_blk (unhide HB1) rfl) (by simp))).mono ?_
        rintro x w2 ⟨q, rfl, hq, ho, hk2⟩
        have HR2 := hide (row_of_owns ho)
        have HK2 : Hid (Kp [] w1 w2) := ((unhide HK).alloc _).trans hk2 (by simp)
        clear ho hk2
        go_wp2
        go_roundw
        case rel => exact ⟨4, some ⟨q, 0, none⟩, q, _, _, by omega, by go_num, rfl, by rw [fin_succ _ rfl, ← List.append_assoc, List.length_append, unhide HN]; first | rfl | rw [by8_length] | (simp [ints, hd]), unhide HK2, by rw [fin_succ _ rfl, ← List.append_assoc]; exact unhide HR2⟩
        case measure => simp [intOf] <;> omega
    · have : k = 4 := by omega
      subst this
      go_wp2
      go_ret
      exact ⟨a', g', c', by rw [unhide HN]; rfl, unhide HR1, ((unhide HK1).trans (unhide HK) (by simp)).below⟩

set_option maxRecDepth 100000 in
set_option maxHeartbeats 8000000 in
theorem writeE_any (L : Nat) (c : Nat → Nat) (x0 x1 x2 : Int) (d : List Nat) (hd : d.length = 16) (hdb : ∀ j, cf d j < 256) (a : Option Addr) (g n cc : Nat) (zs : List Int) (w : World) (hn : n ≤ 100) (hl : zs.length = n) (hr : Row w a g zs) (hL : LayE w L c) :
    Calls Tryz.prog 52 #[.slice (some ⟨L, 0, none⟩) 4 4, .slice a n cc, .agg (entA x0 x1 x2 d)] w fun e w' => ∃ a' g' c', e = .returned (.slice a' (zs ++ fin10 (owE x0 x1 x2 d) 4).length c') ∧ Row w' a' g' (zs ++ fin10 (owE x0 x1 x2 d) 4) ∧ Below w.heap.size w w' := by
  have HR := hide hr
  have HL := hide hL
  clear hr hL
  go_enter Tryz.func52, Tryz.ntmps52
  go_wp2_with fail
  obtain ⟨w1, hw1⟩ : ∃ w1, w.alloc (.cells (entA x0 x1 x2 d) 46) = w1 := ⟨_, rfl⟩
  have HK1 : Hid (Kp [] w w1) := by rw [← hw1]; exact (Kp.refl [] w).alloc _
  have HB : Hid (w1.heap[w.heap.size]? = some (.cells (entA x0 x1 x2 d) 46 (0, 0))) := by rw [← hw1]; exact World.alloc_heap_new w _
  obtain ⟨B, hB⟩ : ∃ B, w.heap.size = B := ⟨_, rfl⟩
  rw [hw1]
  rw [hB] at HB ⊢
  clear hw1
  subst hl
  go_loopw [1, 11] (fun b i wr => ∃ (k : Nat) (a' : Option Addr) (g' c' N : Nat), k ≤ 4 ∧ i = .int .i64 k ∧ b = .slice a' N c' ∧ (zs ++ fin10 (owE x0 x1 x2 d) k).length = N ∧ Kp [] w1 wr ∧ Row wr a' g' (zs ++ fin10 (owE x0 x1 x2 d) k)) (fun _ i _ => 4 - (intOf i).toNat)
  case atStart => exact ⟨0, a, g, cc, zs.length, by omega, rfl, rfl, by simp [fin10], Kp.refl _ _, by simpa [fin10] using (unhide HR).keep (unhide HK1) (by simp)⟩
  case round =>
    obtain ⟨k, a', g', c', N, hk, rfl, rfl, hN, hK, hr⟩ := hrel
    have HN := hide hN
    clear hN
    have HK := hide hK
    have HR1 := hide hr
    have HB1 := hide (hK.heap (unhide HB) (by simp))
    have HL1 := hide (((unhide HL).keep (unhide HK1).below).keep hK.below)
    clear hK hr
    by_cases hlt : k < 4
    · match k, hlt with
      | 0, _ =>
        have q0 : wr.cell? ⟨L, 0, none⟩ = some (.func (.func 115) #[] #[.pointer (some ⟨c 0, 0, none⟩)]) := cell_blk (unhide HL1).blk rfl
        have q1 : wr.cell? ⟨L, 1, none⟩ = some (.func (.func 116) #[] #[.pointer (some ⟨c 0, 0, none⟩)]) := cell_blk (unhide HL1).blk rfl
        have HLN : Hid (N ≤ 200) := by
          rw [← unhide HN, List.length_append]
          have : (fin10 (owE x0 x1 x2 d) 0).length = 0 := by simp [fin10]
          unfold Hid
          omega
        go_wp2_with fail
        refine (put_lowE 80 (c 0) B 0 x0 a' g' N c' (zs ++ fin10 (owE x0 x1 x2 d) 0) _ (by have := unhide HLN; omega) (unhide HN) ((unhide HR1).keep ((Kp.refl [] wr).alloc _) (by simp)) at_e0.1 at_e0.2 (((Kp.refl [] wr).alloc _).cell (unhide HL1).c0 (by simp)) (((Kp.refl [] wr).alloc _).cell (cell_blk (unhide HB1) rfl) (by simp))).mono ?_
        rintro x w2 ⟨q, rfl, hq, ho, hk2⟩
        have HR2 := hide (row_of_owns ho)
        have HK2 : Hid (Kp [] w1 w2) := ((unhide HK).alloc _).trans hk2 (by simp)
        clear ho hk2
        go_wp2
        go_roundw
        case rel => exact ⟨1, some ⟨q, 0, none⟩, q, _, _, by omega, by go_num, rfl, by rw [fin_succ _ rfl, ← List.append_assoc, List.length_append, unhide HN]; first | rfl | rw [by8_length] | (simp [ints, hd]), unhide HK2, by rw [fin_succ _ rfl, ← List.append_assoc]; exact unhide HR2⟩
        case measure => simp [intOf] <;> omega
      | 1, _ =>
        have q0 : wr.cell? ⟨L, 2, none⟩ = some (.func (.func 117) #[] #[.pointer (some ⟨c 1, 0, none⟩)]) := cell_blk (unhide HL1).blk rfl
        have q1 : wr.cell? ⟨L, 3, none⟩ = some (.func (.func 118) #[] #[.pointer (some ⟨c 1, 0, none⟩)]) := cell_blk (unhide HL1).blk rfl
        have HLN : Hid (N ≤ 200) := by
          rw [← unhide HN, List.length_append]
          have : (fin10 (owE x0 x1 x2 d) 1).length = 1 := by simp [fin10, owE, by8_length]
          unfold Hid
          omega
        go_wp2_with fail
        refine (put_numE 82 (c 1) B 1 x1 a' g' N c' (zs ++ fin10 (owE x0 x1 x2 d) 1) _ (by have := unhide HLN; omega) (unhide HN) ((unhide HR1).keep ((Kp.refl [] wr).alloc _) (by simp)) at_e1.1 at_e1.2 (((Kp.refl [] wr).alloc _).cell (unhide HL1).c1 (by simp)) (((Kp.refl [] wr).alloc _).cell (cell_blk (unhide HB1) rfl) (by simp))).mono ?_
        rintro x w2 ⟨q, rfl, hq, ho, hk2⟩
        have HR2 := hide (row_of_owns ho)
        have HK2 : Hid (Kp [] w1 w2) := ((unhide HK).alloc _).trans hk2 (by simp)
        clear ho hk2
        go_wp2
        go_roundw
        case rel => exact ⟨2, some ⟨q, 0, none⟩, q, _, _, by omega, by go_num, rfl, by rw [fin_succ _ rfl, ← List.append_assoc, List.length_append, unhide HN]; first | rfl | rw [by8_length] | (simp [ints, hd]), unhide HK2, by rw [fin_succ _ rfl, ← List.append_assoc]; exact unhide HR2⟩
        case measure => simp [intOf] <;> omega
      | 2, _ =>
        have q0 : wr.cell? ⟨L, 4, none⟩ = some (.func (.func 117) #[] #[.pointer (some ⟨c 2, 0, none⟩)]) := cell_blk (unhide HL1).blk rfl
        have q1 : wr.cell? ⟨L, 5, none⟩ = some (.func (.func 118) #[] #[.pointer (some ⟨c 2, 0, none⟩)]) := cell_blk (unhide HL1).blk rfl
        have HLN : Hid (N ≤ 200) := by
          rw [← unhide HN, List.length_append]
          have : (fin10 (owE x0 x1 x2 d) 2).length = 9 := by simp [fin10, owE, by8_length]
          unfold Hid
          omega
        go_wp2_with fail
        refine (put_numE 83 (c 2) B 2 x2 a' g' N c' (zs ++ fin10 (owE x0 x1 x2 d) 2) _ (by have := unhide HLN; omega) (unhide HN) ((unhide HR1).keep ((Kp.refl [] wr).alloc _) (by simp)) at_e2.1 at_e2.2 (((Kp.refl [] wr).alloc _).cell (unhide HL1).c2 (by simp)) (((Kp.refl [] wr).alloc _).cell (cell_blk (unhide HB1) rfl) (by simp))).mono ?_
        rintro x w2 ⟨q, rfl, hq, ho, hk2⟩
        have HR2 := hide (row_of_owns ho)
        have HK2 : Hid (Kp [] w1 w2) := ((unhide HK).alloc _).trans hk2 (by simp)
        clear ho hk2
        go_wp2
        go_roundw
        case rel => exact ⟨3, some ⟨q, 0, none⟩, q, _, _, by omega, by go_num, rfl, by rw [fin_succ _ rfl, ← List.append_assoc, List.length_append, unhide HN]; first | rfl | rw [by8_length] | (simp [ints, hd]), unhide HK2, by rw [fin_succ _ rfl, ← List.append_assoc]; exact unhide HR2⟩
        case measure => simp [intOf] <;> omega
      | 3, _ =>
        have q0 : wr.cell? ⟨L, 6, none⟩ = some (.func (.func 119) #[] #[.pointer (some ⟨c 3, 0, none⟩)]) := cell_blk (unhide HL1).blk rfl
        have q1 : wr.cell? ⟨L, 7, none⟩ = some (.func (.func 120) #[] #[.pointer (some ⟨c 3, 0, none⟩)]) := cell_blk (unhide HL1).blk rfl
        have HLN : Hid (N ≤ 200) := by
          rw [← unhide HN, List.length_append]
          have : (fin10 (owE x0 x1 x2 d) 3).length = 17 := by simp [fin10, owE, by8_length]
          unfold Hid
          omega
        go_wp2_with fail
        refine (put_sevE 85 (c 3) B 3 16 d a' g' N c' (zs ++ fin10 (owE x0 x1 x2 d) 3) _ (by have := unhide HLN; omega) (unhide HN) ((unhide HR1).keep ((Kp.refl [] wr).alloc _) (by simp)) at_e3.1 at_e3.2 (by omega) hd hdb (((Kp.refl [] wr).alloc _).cell (unhide HL1).c3 (by simp)) (fun j hj => ((Kp.refl [] wr).alloc _).cell (cell_blk (unhide HB1) ((entA_d _ _ _ _ j).trans (datL_get (by omega)))) (by simp))).mono ?_
        rintro x w2 ⟨a2, g2, c2, rfl, hr2, hk2⟩
        have HR2 := hide hr2
        have HK2 : Hid (Kp [] w1 w2) := ((unhide HK).alloc _).trans hk2 (by simp)
        clear hr2 hk2
        go_wp2
        go_roundw
        case rel => exact ⟨4, a2, g2, c2, _, by omega, by go_num, rfl, by rw [fin_succ _ rfl, ← List.append_assoc, List.length_append, unhide HN]; first | rfl | rw [by8_length] | (simp [ints, hd]), unhide HK2, by rw [fin_succ _ rfl, ← List.append_assoc]; exact unhide HR2⟩
        case measure => simp [intOf] <;> omega
    · have : k = 4 := by omega
      subst this
      go_wp2
      go_ret
      exact ⟨a', g', c', by rw [unhide HN]; rfl, unhide HR1, ((unhide HK1).trans (unhide HK) (by simp)).below⟩

set_option maxRecDepth 100000 in
set_option maxHeartbeats 8000000 in
theorem writeT_any (L : Nat) (c : Nat → Nat) (d : List Nat) (hd : d.length = 4) (hdb : ∀ j, cf d j < 256) (a : Option Addr) (g n cc : Nat) (zs : List Int) (w : World) (hn : n ≤ 100) (hl : zs.length = n) (hr : Row w a g zs) (hL : LayT w L c) :
    Calls Tryz.prog 54 #[.slice (some ⟨L, 0, none⟩) 1 1, .slice a n cc, .agg (tailA d)] w fun e w' => ∃ a' g' c', e = .returned (.slice a' (zs ++ fin10 (owT d) 1).length c') ∧ Row w' a' g' (zs ++ fin10 (owT d) 1) ∧ Below w.heap.size w w' := by
  have HR := hide hr
  have HL := hide hL
  clear hr hL
  go_enter Tryz.func54, Tryz.ntmps54
  go_wp2_with fail
  obtain ⟨w1, hw1⟩ : ∃ w1, w.alloc (.cells (tailA d) 103) = w1 := ⟨_, rfl⟩
  have HK1 : Hid (Kp [] w w1) := by rw [← hw1]; exact (Kp.refl [] w).alloc _
  have HB : Hid (w1.heap[w.heap.size]? = some (.cells (tailA d) 103 (0, 0))) := by rw [← hw1]; exact World.alloc_heap_new w _
  obtain ⟨B, hB⟩ : ∃ B, w.heap.size = B := ⟨_, rfl⟩
  rw [hw1]
  rw [hB] at HB ⊢
  clear hw1
  subst hl
  go_loopw [1, 11] (fun b i wr => ∃ (k : Nat) (a' : Option Addr) (g' c' N : Nat), k ≤ 1 ∧ i = .int .i64 k ∧ b = .slice a' N c' ∧ (zs ++ fin10 (owT d) k).length = N ∧ Kp [] w1 wr ∧ Row wr a' g' (zs ++ fin10 (owT d) k)) (fun _ i _ => 1 - (intOf i).toNat)
  case atStart => exact ⟨0, a, g, cc, zs.length, by omega, rfl, rfl, by simp [fin10], Kp.refl _ _, by simpa [fin10] using (unhide HR).keep (unhide HK1) (by simp)⟩
  case round =>
    obtain ⟨k, a', g', c', N, hk, rfl, rfl, hN, hK, hr⟩ := hrel
    have HN := hide hN
    clear hN
    have HK := hide hK
    have HR1 := hide hr
    have HB1 := hide (hK.heap (unhide HB) (by simp))
    have HL1 := hide (((unhide HL).keep (unhide HK1).below).keep hK.below)
    clear hK hr
    by_cases hlt : k < 1
    · match k, hlt with
      | 0, _ =>
        have q0 : wr.cell? ⟨L, 0, none⟩ = some (.func (.func 121) #[] #[.pointer (some ⟨c 0, 0, none⟩)]) := cell_blk (unhide HL1).blk rfl
        have q1 : wr.cell? ⟨L, 1, none⟩ = some (.func (.func 122) #[] #[.pointer (some ⟨c 0, 0, none⟩)]) := cell_blk (unhide HL1).blk rfl
        have HLN : Hid (N ≤ 200) := by
          rw [← unhide HN, List.length_append]
          have : (fin10 (owT d) 0).length = 0 := by simp [fin10]
          unfold Hid
          omega
        go_wp2_with fail
        refine (put_sevT 87 (c 0) B 0 4 d a' g' N c' (zs ++ fin10 (owT d) 0) _ (by have := unhide HLN; omega) (unhide HN) ((unhide HR1).keep ((Kp.refl [] wr).alloc _) (by simp)) at_t0.1 at_t0.2 (by omega) hd hdb (((Kp.refl [] wr).alloc _).cell (unhide HL1).c0 (by simp)) (fun j hj => ((Kp.refl [] wr).alloc _).cell (cell_blk (unhide HB1) ((by rw [tailA, Nat.zero_add, List.getElem?_toArray]; exact datL_get (by omega)))) (by simp))).mono ?_
        rintro x w2 ⟨a2, g2, c2, rfl, hr2, hk2⟩
        have HR2 := hide hr2
        have HK2 : Hid (Kp [] w1 w2) := ((unhide HK).alloc _).trans hk2 (by simp)
        clear hr2 hk2
        go_wp2
        go_roundw
        case rel => exact ⟨1, a2, g2, c2, _, by omega, by go_num, rfl, by rw [fin_succ _ rfl, ← List.append_assoc, List.length_append, unhide HN]; first | rfl | rw [by8_length] | (simp [ints, hd]), unhide HK2, by rw [fin_succ _ rfl, ← List.append_assoc]; exact unhide HR2⟩
        case measure => simp [intOf] <;> omega
    · have : k = 1 := by omega
      subst this
      go_wp2
      go_ret
      exact ⟨a', g', c', by rw [unhide HN]; rfl, unhide HR1, ((unhide HK1).trans (unhide HK) (by simp)).below⟩
end Go.Proofs.YtjdikhelabibnabGreat
