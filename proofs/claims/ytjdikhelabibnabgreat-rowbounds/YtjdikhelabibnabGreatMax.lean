/-
  Layouts, written: (layout).write.
  Layouts, read: (layout).read.
-/
import Derived.Test.YtjdikhelabibnabGreatMaw
namespace Go.Proofs.YtjdikhelabibnabGreat
open Go.RowKit Go.Shelf
attribute [local go_sem] Oper.semAt_some

/-- A head's bytes, part by part; a slot's; the noughts. -/
def owH (a b c d : Int) : List (List Int) := [by8 8 (IntKind.u64.wrap a), by8 1 (IntKind.u64.wrap b), by8 1 (IntKind.u64.wrap c), by8 1 (IntKind.u64.wrap d)]
def owE (k l s : Int) (d : List Nat) : List (List Int) := [by8 1 (IntKind.u64.wrap k), by8 8 (IntKind.u64.wrap l), by8 8 (IntKind.u64.wrap s), ints d]
def owT (d : List Nat) : List (List Int) := [ints d]
def fin10 (l : List (List Int)) (k : Nat) : List Int := (l.take k).flatten
theorem fin_succ {l : List (List Int)} {k : Nat} (x : List Int) (h : l[k]? = some x) : fin10 l (k + 1) = fin10 l k ++ x := by
  unfold fin10
  rw [List.take_add_one, h]
  simp
/-- A tail's cells. -/
def tailA (d : List Nat) : Array Value := (datL d).toArray

set_option maxRecDepth 100000 in
set_option maxHeartbeats 8000000 in
theorem writeH_any (L : Nat) (c : Nat → Nat) (x0 x1 x2 x3 : Int) (a : Option Addr) (g n cc : Nat) (zs : List Int) (w : World) (hn : n ≤ 100) (hl : zs.length = n) (hr : Row w a g zs) (hL : LayH w L c) :
    Calls Tryz.prog 50 #[.slice (some ⟨L, 0, none⟩) 4 4, .slice a n cc, .agg (headA x0 x1 x2 x3)] w fun e w' => ∃ a' g' c', e = .returned (.slice a' (zs ++ fin10 (owH x0 x1 x2 x3) 4).length c') ∧ Row w' a' g' (zs ++ fin10 (owH x0 x1 x2 x3) 4) ∧ Below w.heap.size w w' := by
  have HR := hide hr
  have HL := hide hL
  clear hr hL
  go_enter Tryz.func50, Tryz.ntmps50
  go_wp2_with fail
  obtain ⟨w1, hw1⟩ : ∃ w1, w.alloc (.cells (headA x0 x1 x2 x3) 52) = w1 := ⟨_, rfl⟩
  have HK1 : Hid (Kp [] w w1) := by rw [← hw1]; exact (Kp.refl [] w).alloc _
  have HB : Hid (w1.heap[w.heap.size]? = some (.cells (headA x0 x1 x2 x3) 52 (0, 0))) := by rw [← hw1]; exact World.alloc_heap_new w _
  obtain ⟨B, hB⟩ : ∃ B, w.heap.size = B := ⟨_, rfl⟩
  rw [hw1]
  rw [hB] at HB ⊢
  clear hw1
  subst hl
  go_loopw [1, 11] (fun b i wr => ∃ (k : Nat) (a' : Option Addr) (g' c' N : Nat), k ≤ 4 ∧ i = .int .i64 k ∧ b = .slice a' N c' ∧ (zs ++ fin10 (owH x0 x1 x2 x3) k).length = N ∧ Kp [] w1 wr ∧ Row wr a' g' (zs ++ fin10 (owH x0 x1 x2 x3) k)) (fun _ i _ => 4 - (intOf i).toNat)
  case atStart => exact ⟨0, a, g, cc, zs.length, by omega, rfl, rfl, by simp [fin10], Kp.refl _ _, by simpa [fin10] using (unhide HR).keep (unhide HK1) (by simp)⟩
  case round =>
    obtain ⟨k, a', g', c', N, hk, rfl, rfl, hN, hK, hr⟩ := hrel
    have HN := hide hN
    clear hN
    have HK := hide hK
    have HR1 := hide hr
    have HB1 := hide (hK.heap (unhide HB) (by simp))
    have HL1 := hide (((unhide HL).keep (unhide HK1).below).keep hK.below)
    clear hK hr
    by_cases hlt : k < 4
    · match k, hlt with
      | 0, _ =>
        have q0 : wr.cell? ⟨L, 0, none⟩ = some (.func (.func 107) #[] #[.pointer (some ⟨c 0, 0, none⟩)]) := cell_blk (unhide HL1).blk rfl
        have q1 : wr.cell? ⟨L, 1, none⟩ = some (.func (.func 109) #[] #[.pointer (some ⟨c 0, 0, none⟩)]) := cell_blk (unhide HL1).blk rfl
        have HLN : Hid (N ≤ 200) := by
          rw [← unhide HN, List.length_append]
          have : (fin10 (owH x0 x1 x2 x3) 0).length = 0 := by simp [fin10]
          unfold Hid
          omega
        go_wp2_with fail
        refine (put_numH 74 (c 0) B 0 x0 a' g' N c' (zs ++ fin10 (owH x0 x1 x2 x3) 0) _ (by have := unhide HLN; omega) (unhide HN) ((unhide HR1).keep ((Kp.refl [] wr).alloc _) (by simp)) at_h0.1 at_h0.2 (((Kp.refl [] wr).alloc _).cell (unhide HL1).c0 (by simp)) (((Kp.refl [] wr).alloc _).cell (cell_blk (unhide HB1) rfl) (by simp))).mono ?_
        rintro x w2 ⟨q, rfl, hq, ho, hk2⟩
        have HR2 := hide (row_of_owns ho)
        have HK2 : Hid (Kp [] w1 w2) := ((unhide HK).alloc _).trans hk2 (by simp)
        clear ho hk2
        go_wp2
        go_roundw
        case rel => exact ⟨1, some ⟨q, 0, none⟩, q, _, _, by omega, by go_num, rfl, by rw [fin_succ _ rfl, ← List.append_assoc, List.length_append, unhide HN]; first | rfl | rw [by8_length] | (simp [ints, hd]), unhide HK2, by rw [fin_succ _ rfl, ← List.append_assoc]; exact unhide HR2⟩
        case measure => simp [intOf] <;> omega
      | 1, _ =>
        have q0 : wr.cell? ⟨L, 2, none⟩ = some (.func (.func 111) #[] #[.pointer (some ⟨c 1, 0, none⟩)]) := cell_blk (unhide HL1).blk rfl
        have q1 : wr.cell? ⟨L, 3, none⟩ = some (.func (.func 113) #[] #[.pointer (some ⟨c 1, 0, none⟩)]) := cell_blk (unhide HL1).blk rfl
        have HLN : Hid (N ≤ 200) := by
          rw [← unhide HN, List.length_append]
          have : (fin10 (owH x0 x1 x2 x3) 1).length = 8 := by simp [fin10, owH, by8_length]
          unfold Hid
          omega
        go_wp2_with fail
        refine (put_lowH 76 (c 1) B 1 x1 a' g' N c' (zs ++ fin10 (owH x0 x1 x2 x3) 1) _ (by have := unhide HLN; omega) (unhide HN) ((unhide HR1).keep ((Kp.refl [] wr).alloc _) (by simp)) at_h1.1 at_h1.2 (((Kp.refl [] wr).alloc _).cell (unhide HL1).c1 (by simp)) (((Kp.refl [] wr).alloc _).cell (cell_blk (unhide HB1) rfl) (by simp))).mono ?_
        rintro x w2 ⟨q, rfl, hq, ho, hk2⟩
        have HR2 := hide (row_of_owns ho)
        have HK2 : Hid (Kp [] w1 w2) := ((unhide HK).alloc _).trans hk2 (by simp)
        clear ho hk2
        go_wp2
        go_roundw
        case rel => exact ⟨2, some ⟨q, 0, none⟩, q, _, _, by omega, by go_num, rfl, by rw [fin_succ _ rfl, ← List.append_assoc, List.length_append, unhide HN]; first | rfl | rw [by8_length] | (simp [ints, hd]), unhide HK2, by rw [fin_succ _ rfl, ← List.append_assoc]; exact unhide HR2⟩
        case measure => simp [intOf] <;> omega
      | 2, _ =>
        have q0 : wr.cell? ⟨L, 4, none⟩ = some (.func (.func 111) #[] #[.pointer (some ⟨c 2, 0, none⟩)]) := cell_blk (unhide HL1).blk rfl
        have q1 : wr.cell? ⟨L, 5, none⟩ = some (.func (.func 113) #[] #[.pointer (some ⟨c 2, 0, none⟩)]) := cell_blk (unhide HL1).blk rfl
        have HLN : Hid (N ≤ 200) := by
          rw [← unhide HN, List.length_append]
          have : (fin10 (owH x0 x1 x2 x3) 2).length = 9 := by simp [fin10, owH, by8_length]
          unfold Hid
          omega
        go_wp2_with fail
        refine (put_lowH 77 (c 2) B 2 x2 a' g' N c' (zs ++ fin10 (owH x0 x1 x2 x3) 2) _ (by have := unhide HLN; omega) (unhide HN) ((unhide HR1).keep ((Kp.refl [] wr).alloc _) (by simp)) at_h2.1 at_h2.2 (((Kp.refl [] wr).alloc _).cell (unhide HL1).c2 (by simp)) (((Kp.refl [] wr).alloc _).cell (cell_blk (unhide HB1) rfl) (by simp))).mono ?_
        rintro x w2 ⟨q, rfl, hq, ho, hk2⟩
        have HR2 := hide (row_of_owns ho)
        have HK2 : Hid (Kp [] w1 w2) := ((unhide HK).alloc _).trans hk2 (by simp)
        clear ho hk2
        go_wp2
        go_roundw
        case rel => exact ⟨3, some ⟨q, 0, none⟩, q, _, _, by omega, by go_num, rfl, by rw [fin_succ _ rfl, ← List.append_assoc, List.length_append, unhide HN]; first | rfl | rw [by8_length] | (simp [ints, hd]), unhide HK2, by rw [fin_succ _ rfl, ← List.append_assoc]; exact unhide HR2⟩
        case measure => simp [intOf] <;> omega
      | 3, _ =>
        have q0 : wr.cell? ⟨L, 6, none⟩ = some (.func (.func 111) #[] #[.pointer (some ⟨c 3, 0, none⟩)]) := cell_blk (unhide HL1).blk rfl
        have q1 : wr.cell? ⟨L, 7, none⟩ = some (.func (.func 113) #[] #[.pointer (some ⟨c 3, 0, none⟩)]) := cell_blk (unhide HL1).blk rfl
        have HLN : Hid (N ≤ 200) := by
          rw [← unhide HN, List.length_append]
          have : (fin10 (owH x0 x1 x2 x3) 3).length = 10 := by simp [fin10, owH, by8_length]
          unfold Hid
          omega
        go_wp2_with fail
        refine (put_lowH 78 (c 3) B 3 x3 a' g' N c' (zs ++ fin10 (owH x0 x1 x2 x3) 3) _ (by have := unhide HLN; omega) (unhide HN) ((unhide HR1).keep ((Kp.refl [] wr).alloc _) (by simp)) at_h3.1 at_h3.2 (((Kp.refl [] wr).alloc _).cell (unhide HL1).c3 (by simp)) (((Kp.refl [] wr).alloc _).cell (cell_blk (unhide HB1) rfl) (by simp))).mono ?_
        rintro x w2 ⟨q, rfl, hq, ho, hk2⟩
        have HR2 := hide (row_of_owns ho)
        have HK2 : Hid (Kp [] w1 w2) := ((unhide HK).alloc _).trans hk2 (by simp)
        clear ho hk2
        go_wp2
        go_roundw
        case rel => exact ⟨4, some ⟨q, 0, none⟩, q, _, _, by omega, by go_num, rfl, by rw [fin_succ _ rfl, ← List.append_assoc, List.length_append, unhide HN]; first | rfl | rw [by8_length] | (simp [ints, hd]), unhide HK2, by rw [fin_succ _ rfl, ← List.append_assoc]; exact unhide HR2⟩
        case measure => simp [intOf] <;> omega
    · have : k = 4 := by omega
      subst this
      go_wp2
      go_ret
      exact ⟨a', g', c', by rw [unhide HN]; rfl, unhide HR1, ((unhide HK1).trans (unhide HK) (by simp)).below⟩

set_option maxRecDepth 100000 in
set_option maxHeartbeats 8000000 in
theorem writeE_any (L : Nat) (c : Nat → Nat) (x0 x1 x2 : Int) (d : List Nat) (hd : d.length = 16) (hdb : ∀ j, cf d j < 256) (a : Option Addr) (g n cc : Nat) (zs : List Int) (w : World) (hn : n ≤ 100) (hl : zs.length = n) (hr : Row w a g zs) (hL : LayE w L c) :
    Calls Tryz.prog 52 #[.slice (some ⟨L, 0, none⟩) 4 4, .slice a n cc, .agg (entA x0 x1 x2 d)] w fun e w' => ∃ a' g' c', e = .returned (.slice a' (zs ++ fin10 (owE x0 x1 x2 d) 4).length c') ∧ Row w' a' g' (zs ++ fin10 (owE x0 x1 x2 d) 4) ∧ Below w.heap.size w w' := by
  have HR := hide hr
  have HL := hide hL
  clear hr hL
  go_enter Tryz.func52, Tryz.ntmps52
  go_wp2_with fail
  obtain ⟨w1, hw1⟩ : ∃ w1, w.alloc (.cells (entA x0 x1 x2 d) 46) = w1 := ⟨_, rfl⟩
  have HK1 : Hid (Kp [] w w1) := by rw [← hw1]; exact (Kp.refl [] w).alloc _
  have HB : Hid (w1.heap[w.heap.size]? = some (.cells (entA x0 x1 x2 d) 46 (0, 0))) := by rw [← hw1]; exact World.alloc_heap_new w _
  obtain ⟨B, hB⟩ : ∃ B, w.heap.size = B := ⟨_, rfl⟩
  rw [hw1]
  rw [hB] at HB ⊢
  clear hw1
  subst hl
  go_loopw [1, 11] (fun b i wr => ∃ (k : Nat) (a' : Option Addr) (g' c' N : Nat), k ≤ 4 ∧ i = .int .i64 k ∧ b = .slice a' N c' ∧ (zs ++ fin10 (owE x0 x1 x2 d) k).length = N ∧ Kp [] w1 wr ∧ Row wr a' g' (zs ++ fin10 (owE x0 x1 x2 d) k)) (fun _ i _ => 4 - (intOf i).toNat)
  case atStart => exact ⟨0, a, g, cc, zs.length, by omega, rfl, rfl, by simp [fin10], Kp.refl _ _, by simpa [fin10] using (unhide HR).keep (unhide HK1) (by simp)⟩
  case round =>
    obtain ⟨k, a', g', c', N, hk, rfl, rfl, hN, hK, hr⟩ := hrel
    have HN := hide hN
    clear hN
    have HK := hide hK
    have HR1 := hide hr
    have HB1 := hide (hK.heap (unhide HB) (by simp))
    have HL1 := hide (((unhide HL).keep (unhide HK1).below).keep hK.below)
    clear hK hr
    by_cases hlt : k < 4
    · match k, hlt with
      | 0, _ =>
        have q0 : wr.cell? ⟨L, 0, none⟩ = some (.func (.func 115) #[] #[.pointer (some ⟨c 0, 0, none⟩)]) := cell_blk (unhide HL1).blk rfl
        have q1 : wr.cell? ⟨L, 1, none⟩ = some (.func (.func 116) #[] #[.pointer (some ⟨c 0, 0, none⟩)]) := cell_blk (unhide HL1).blk rfl
        have HLN : Hid (N ≤ 200) := by
          rw [← unhide HN, List.length_append]
          have : (fin10 (owE x0 x1 x2 d) 0).length = 0 := by simp [fin10]
          unfold Hid
          omega
        go_wp2_with fail
        refine (put_lowE 80 (c 0) B 0 x0 a' g' N c' (zs ++ fin10 (owE x0 x1 x2 d) 0) _ (by have := unhide HLN; omega) (unhide HN) ((unhide HR1).keep ((Kp.refl [] wr).alloc _) (by simp)) at_e0.1 at_e0.2 (((Kp.refl [] wr).alloc _).cell (unhide HL1).c0 (by simp)) (((Kp.refl [] wr).alloc _).cell (cell_blk (unhide HB1) rfl) (by simp))).mono ?_
        rintro x w2 ⟨q, rfl, hq, ho, hk2⟩
        have HR2 := hide (row_of_owns ho)
        have HK2 : Hid (Kp [] w1 w2) := ((unhide HK).alloc _).trans hk2 (by simp)
        clear ho hk2
        go_wp2
        go_roundw
        case rel => exact ⟨1, some ⟨q, 0, none⟩, q, _, _, by omega, by go_num, rfl, by rw [fin_succ _ rfl, ← List.append_assoc, List.length_append, unhide HN]; first | rfl | rw [by8_length] | (simp [ints, hd]), unhide HK2, by rw [fin_succ _ rfl, ← List.append_assoc]; exact unhide HR2⟩
        case measure => simp [intOf] <;> omega
      | 1, _ =>
        have q0 : wr.cell? ⟨L, 2, none⟩ = some (.func (.func 117) #[] #[.pointer (some ⟨c 1, 0, none⟩)]) := cell_blk (unhide HL1).blk rfl
        have q1 : wr.cell? ⟨L, 3, none⟩ = some (.func (.func 118) #[] #[.pointer (some ⟨c 1, 0, none⟩)]) := cell_blk (unhide HL1).blk rfl
        have HLN : Hid (N ≤ 200) := by
          rw [← unhide HN, List.length_append]
          have : (fin10 (owE x0 x1 x2 d) 1).length = 1 := by simp [fin10, owE, by8_length]
          unfold Hid
          omega
        go_wp2_with fail
        refine (put_numE 82 (c 1) B 1 x1 a' g' N c' (zs ++ fin10 (owE x0 x1 x2 d) 1) _ (by have := unhide HLN; omega) (unhide HN) ((unhide HR1).keep ((Kp.refl [] wr).alloc _) (by simp)) at_e1.1 at_e1.2 (((Kp.refl [] wr).alloc _).cell (unhide HL1).c1 (by simp)) (((Kp.refl [] wr).alloc _).cell (cell_blk (unhide HB1) rfl) (by simp))).mono ?_
        rintro x w2 ⟨q, rfl, hq, ho, hk2⟩
        have HR2 := hide (row_of_owns ho)
        have HK2 : Hid (Kp [] w1 w2) := ((unhide HK).alloc _).trans hk2 (by simp)
        clear ho hk2
        go_wp2
        go_roundw
        case rel => exact ⟨2, some ⟨q, 0, none⟩, q, _, _, by omega, by go_num, rfl, by rw [fin_succ _ rfl, ← List.append_assoc, List.length_append, unhide HN]; first | rfl | rw [by8_length] | (simp [ints, hd]), unhide HK2, by rw [fin_succ _ rfl, ← List.append_assoc]; exact unhide HR2⟩
        case measure => simp [intOf] <;> omega
      | 2, _ =>
        have q0 : wr.cell? ⟨L, 4, none⟩ = some (.func (.func 117) #[] #[.pointer (some ⟨c 2, 0, none⟩)]) := cell_blk (unhide HL1).blk rfl
        have q1 : wr.cell? ⟨L, 5, none⟩ = some (.func (.func 118) #[] #[.pointer (some ⟨c 2, 0, none⟩)]) := cell_blk (unhide HL1).blk rfl
        have HLN : Hid (N ≤ 200) := by
          rw [← unhide HN, List.length_append]
          have : (fin10 (owE x0 x1 x2 d) 2).length = 9 := by simp [fin10, owE, by8_length]
          unfold Hid
          omega
        go_wp2_with fail
        refine (put_numE 83 (c 2) B 2 x2 a' g' N c' (zs ++ fin10 (owE x0 x1 x2 d) 2) _ (by have := unhide HLN; omega) (unhide HN) ((unhide HR1).keep ((Kp.refl [] wr).alloc _) (by simp)) at_e2.1 at_e2.2 (((Kp.refl [] wr).alloc _).cell (unhide HL1).c2 (by simp)) (((Kp.refl [] wr).alloc _).cell (cell_blk (unhide HB1) rfl) (by simp))).mono ?_
        rintro x w2 ⟨q, rfl, hq, ho, hk2⟩
        have HR2 := hide (row_of_owns ho)
        have HK2 : Hid (Kp [] w1 w2) := ((unhide HK).alloc _).trans hk2 (by simp)
        clear ho hk2
        go_wp2
        go_roundw
        case rel => exact ⟨3, some ⟨q, 0, none⟩, q, _, _, by omega, by go_num, rfl, by rw [fin_succ _ rfl, ← List.append_assoc, List.length_append, unhide HN]; first | rfl | rw [by8_length] | (simp [ints, hd]), unhide HK2, by rw [fin_succ _ rfl, ← List.append_assoc]; exact unhide HR2⟩
        case measure => simp [intOf] <;> omega
      | 3, _ =>
        have q0 : wr.cell? ⟨L, 6, none⟩ = some (.func (.func 119) #[] #[.pointer (some ⟨c 3, 0, none⟩)]) := cell_blk (unhide HL1).blk rfl
        have q1 : wr.cell? ⟨L, 7, none⟩ = some (.func (.func 120) #[] #[.pointer (some ⟨c 3, 0, none⟩)]) := cell_blk (unhide HL1).blk rfl
        have HLN : Hid (N ≤ 200) := by
          rw [← unhide HN, List.length_append]
          have : (fin10 (owE x0 x1 x2 d) 3).length = 17 := by simp [fin10, owE, by8_length]
          unfold Hid
          omega
        go_wp2_with fail
        refine (put_sevE 85 (c 3) B 3 16 d a' g' N c' (zs ++ fin10 (owE x0 x1 x2 d) 3) _ (by have := unhide HLN; omega) (unhide HN) ((unhide HR1).keep ((Kp.refl [] wr).alloc _) (by simp)) at_e3.1 at_e3.2 (by omega) hd hdb (((Kp.refl [] wr).alloc _).cell (unhide HL1).c3 (by simp)) (fun j hj => ((Kp.refl [] wr).alloc _).cell (cell_blk (unhide HB1) ((entA_d _ _ _ _ j).trans (datL_get (by omega)))) (by simp))).mono ?_
        rintro x w2 ⟨a2, g2, c2, rfl, hr2, hk2⟩
        have HR2 := hide hr2
        have HK2 : Hid (Kp [] w1 w2) := ((unhide HK).alloc _).trans hk2 (by simp)
        clear hr2 hk2
        go_wp2
        go_roundw
        case rel => exact ⟨4, a2, g2, c2, _, by omega, by go_num, rfl, by rw [fin_succ _ rfl, ← List.append_assoc, List.length_append, unhide HN]; first | rfl | rw [by8_length] | (simp [ints, hd]), unhide HK2, by rw [fin_succ _ rfl, ← List.append_assoc]; exact unhide HR2⟩
        case measure => simp [intOf] <;> omega
    · have : k = 4 := by omega
      subst this
      go_wp2
      go_ret
      exact ⟨a', g', c', by rw [unhide HN]; rfl, unhide HR1, ((unhide HK1).trans (unhide HK) (by simp)).below⟩

set_option maxRecDepth 100000 in
set_option maxHeartbeats 8000000 in
theorem writeT_any (L : Nat) (c : Nat → Nat) (d : List Nat) (hd : d.length = 4) (hdb : ∀ j, cf d j < 256) (a : Option Addr) (g n cc : Nat) (zs : List Int) (w : World) (hn : n ≤ 100) (hl : zs.length = n) (hr : Row w a g zs) (hL : LayT w L c) :
    Calls Tryz.prog 54 #[.slice (some ⟨L, 0, none⟩) 1 1, .slice a n cc, .agg (tailA d)] w fun e w' => ∃ a' g' c', e = .returned (.slice a' (zs ++ fin10 (owT d) 1).length c') ∧ Row w' a' g' (zs ++ fin10 (owT d) 1) ∧ Below w.heap.size w w' := by
  have HR := hide hr
  have HL := hide hL
  clear hr hL
  go_enter Tryz.func54, Tryz.ntmps54
  go_wp2_with fail
  obtain ⟨w1, hw1⟩ : ∃ w1, w.alloc (.cells (tailA d) 103) = w1 := ⟨_, rfl⟩
  have HK1 : Hid (Kp [] w w1) := by rw [← hw1]; exact (Kp.refl [] w).alloc _
  have HB : Hid (w1.heap[w.heap.size]? = some (.cells (tailA d) 103 (0, 0))) := by rw [← hw1]; exact World.alloc_heap_new w _
  obtain ⟨B, hB⟩ : ∃ B, w.heap.size = B := ⟨_, rfl⟩
  rw [hw1]
  rw [hB] at HB ⊢
  clear hw1
  subst hl
  go_loopw [1, 11] (fun b i wr => ∃ (k : Nat) (a' : Option Addr) (g' c' N : Nat), k ≤ 1 ∧ i = .int .i64 k ∧ b = .slice a' N c' ∧ (zs ++ fin10 (owT d) k).length = N ∧ Kp [] w1 wr ∧ Row wr a' g' (zs ++ fin10 (owT d) k)) (fun _ i _ => 1 - (intOf i).toNat)
  case atStart => exact ⟨0, a, g, cc, zs.length, by omega, rfl, rfl, by simp [fin10], Kp.refl _ _, by simpa [fin10] using (unhide HR).keep (unhide HK1) (by simp)⟩
  case round =>
    obtain ⟨k, a', g', c', N, hk, rfl, rfl, hN, hK, hr⟩ := hrel
    have HN := hide hN
    clear hN
    have HK := hide hK
    have HR1 := hide hr
    have HB1 := hide (hK.heap (unhide HB) (by simp))
    have HL1 := hide (((unhide HL).keep (unhide HK1).below).keep hK.below)
    clear hK hr
    by_cases hlt : k < 1
    · match k, hlt with
      | 0, _ =>
        have q0 : wr.cell? ⟨L, 0, none⟩ = some (.func (.func 121) #[] #[.pointer (some ⟨c 0, 0, none⟩)]) := cell_blk (unhide HL1).blk rfl
        have q1 : wr.cell? ⟨L, 1, none⟩ = some (.func (.func 122) #[] #[.pointer (some ⟨c 0, 0, none⟩)]) := cell_blk (unhide HL1).blk rfl
        have HLN : Hid (N ≤ 200) := by
          rw [← unhide HN, List.length_append]
          have : (fin10 (owT d) 0).length = 0 := by simp [fin10]
          unfold Hid
          omega
        go_wp2_with fail
        refine (put_sevT 87 (c 0) B 0 4 d a' g' N c' (zs ++ fin10 (owT d) 0) _ (by have := unhide HLN; omega) (unhide HN) ((unhide HR1).keep ((Kp.refl [] wr).alloc _) (by simp)) at_t0.1 at_t0.2 (by omega) hd hdb (((Kp.refl [] wr).alloc _).cell (unhide HL1).c0 (by simp)) (fun j hj => ((Kp.refl [] wr).alloc _).cell (cell_blk (unhide HB1) ((by rw [tailA, Nat.zero_add, List.getElem?_toArray]; exact datL_get (by omega)))) (by simp))).mono ?_
        rintro x w2 ⟨a2, g2, c2, rfl, hr2, hk2⟩
        have HR2 := hide hr2
        have HK2 : Hid (Kp [] w1 w2) := ((unhide HK).alloc _).trans hk2 (by simp)
        clear hr2 hk2
        go_wp2
        go_roundw
        case rel => exact ⟨1, a2, g2, c2, _, by omega, by go_num, rfl, by rw [fin_succ _ rfl, ← List.append_assoc, List.length_append, unhide HN]; first | rfl | rw [by8_length] | (simp [ints, hd]), unhide HK2, by rw [fin_succ _ rfl, ← List.append_assoc]; exact unhide HR2⟩
        case measure => simp [intOf] <;> omega
    · have : k = 1 := by omega
      subst this
      go_wp2
      go_ret
      exact ⟨a', g', c', by rw [unhide HN]; rfl, unhide HR1, ((unhide HK1).trans (unhide HK) (by simp)).below⟩
end Go.Proofs.YtjdikhelabibnabGreat

namespace Go.Proofs.YtjdikhelabibnabGreat
open Go.RowKit Go.Shelf
attribute [local go_sem] Oper.semAt_some

theorem sizeTH : (Tryz.prog.info? 52).map (·.size) = some 4 := by kernel_rfl
theorem sizeTT : (Tryz.prog.info? 103).map (·.size) = some 4 := by kernel_rfl
theorem range_blk {w : World} {b : Nat} {cs : Array Value} {ty : TypeId} (h : w.heap[b]? = some (.cells cs ty (0, 0))) : w.rangeAt b 0 cs.toList := by
  intro j v hj
  rw [Array.getElem?_toList] at hj
  rw [Nat.zero_add]
  exact cell_blk h hj
theorem there_blk {w : World} {b : Nat} {cs : Array Value} {ty : TypeId} (h : w.heap[b]? = some (.cells cs ty (0, 0))) {n : Nat} (hn : n = cs.size) : w.there b 0 n := by
  subst hn
  intro j hj
  rw [Nat.zero_add]
  refine ⟨?_, free_blk h⟩
  rw [cell_blk h (Array.getElem?_eq_getElem hj)]
  rfl
theorem load_TH {w : World} {b : Nat} {cs : Array Value} (h : w.heap[b]? = some (.cells cs 52 (0, 0))) (hs : cs.size = 4) : (loadVar 52 ⟨b, 0, none⟩).run Tryz.prog w = .ok (.agg cs) w :=
  run_loadVar_mid w b 0 52 cs.toList _ (range_blk h) Tryz.underlying52 rfl (by rw [sizeTH, Array.length_toList, hs])
theorem load_TE {w : World} {b : Nat} {cs : Array Value} (h : w.heap[b]? = some (.cells cs 46 (0, 0))) (hs : cs.size = 19) : (loadVar 46 ⟨b, 0, none⟩).run Tryz.prog w = .ok (.agg cs) w :=
  run_loadVar_mid w b 0 46 cs.toList _ (range_blk h) Tryz.underlying46 rfl (by rw [sizeTE, Array.length_toList, hs])
theorem load_TT {w : World} {b : Nat} {cs : Array Value} (h : w.heap[b]? = some (.cells cs 103 (0, 0))) (hs : cs.size = 4) : (loadVar 103 ⟨b, 0, none⟩).run Tryz.prog w = .ok (.agg cs) w :=
  run_loadVar_mid w b 0 103 cs.toList _ (range_blk h) Tryz.underlying103 rfl (by rw [sizeTT, Array.length_toList, hs])
/-- Each is one cell. -/
def One (cs : Array Value) : Prop := ∀ (i : Nat) (v : Value), cs[i]? = some v → v.oneCell' = true
theorem One.all {cs : Array Value} (h : One cs) : cs.all (·.oneCell') = true := by
  rw [Array.all_eq_true]
  intro i hi
  exact h i _ (Array.getElem?_eq_getElem hi)
theorem One.set {cs : Array Value} (h : One cs) (o : Nat) {v : Value} (hv : v.oneCell' = true) : One (cs.setIfInBounds o v) := by
  intro i u hu
  rw [Array.getElem?_setIfInBounds] at hu
  split at hu
  · split at hu
    · cases hu; exact hv
    · cases hu
  · exact h i u hu
theorem One.sets (vs : List Value) : ∀ {cs : Array Value} (_ : One cs) (o : Nat), (∀ v ∈ vs, v.oneCell' = true) → One (csets cs o vs) := by
  induction vs with
  | nil => intro cs h o _; exact h
  | cons v vs ih => intro cs h o hv; exact ih (h.set o (hv v (by simp))) (o + 1) (fun u hu => hv u (by simp [hu]))
theorem one_list {l : List Value} (h : ∀ v ∈ l, v.oneCell' = true) : One l.toArray := by
  intro i v hv
  rw [List.getElem?_toArray] at hv
  exact h v (List.mem_of_getElem? hv)
theorem one_u8 {l : List Int} : ∀ v ∈ l.map (Value.int .u8), v.oneCell' = true := by
  intro v hv
  obtain ⟨x, _, rfl⟩ := List.mem_map.1 hv
  rfl

/-- The sizes, part by part; what is left behind so many parts. -/
def zH : List (List Nat) := [[8], [1], [1], [1]]
def zE : List (List Nat) := [[1], [8], [8], List.replicate 16 1]
def zT : List (List Nat) := [List.replicate 4 1]
def stp (z : List (List Nat)) (s : List Int × Int) (k : Nat) : List Int × Int := rdS (z.take k).flatten s
theorem stp_succ {z : List (List Nat)} {s : List Int × Int} {k : Nat} (x : List Nat) (h : z[k]? = some x) : stp z s (k + 1) = rdS x (stp z s k) := by
  unfold stp
  rw [List.take_add_one, h, List.flatten_append, rdS_app]
  simp
theorem byt_stp {z : List (List Nat)} {s : List Int × Int} (k : Nat) (h : Byt s.1) : Byt (stp z s k).1 := byt_rdS h
/-- The cells behind so many parts. -/
def ceH (s : List Int × Int) : Nat → Array Value
  | 0 => headA 0 0 0 0
  | k + 1 => (ceH s k).setIfInBounds k (.int .i64 (rdV (if k = 0 then 8 else 1) (stp zH s k).1))
def ceE (s : List Int × Int) : Nat → Array Value
  | 0 => entA 0 0 0 zer16
  | k + 1 => if k = 3 then csets (ceE s k) 3 ((rdL (List.replicate 16 1) (stp zE s k)).map (Value.int .u8)) else (ceE s k).setIfInBounds k (.int .i64 (rdV (if k = 0 then 1 else 8) (stp zE s k).1))
def ceT (s : List Int × Int) : Nat → Array Value
  | 0 => tailA [0, 0, 0, 0]
  | k + 1 => if k = 0 then csets (ceT s k) 0 ((rdL (List.replicate 4 1) (stp zT s k)).map (Value.int .u8)) else ceT s k
theorem ceH_size (s : List Int × Int) (k : Nat) : (ceH s k).size = 4 := by
  induction k with
  | zero => rfl
  | succ k ih => rw [ceH, Array.size_setIfInBounds, ih]
theorem ceE_size (s : List Int × Int) (k : Nat) : (ceE s k).size = 19 := by
  induction k with
  | zero => rfl
  | succ k ih =>
    rw [ceE]
    split
    · rw [csets_size, ih]
    · rw [Array.size_setIfInBounds, ih]
theorem ceT_size (s : List Int × Int) (k : Nat) : (ceT s k).size = 4 := by
  induction k with
  | zero => rfl
  | succ k ih =>
    rw [ceT]
    split
    · rw [csets_size, ih]
    · exact ih
theorem ceE_last (s : List Int × Int) : ceE s 4 = csets (ceE s 3) 3 ((rdL (List.replicate 16 1) (stp zE s 3)).map (Value.int .u8)) := by rw [ceE, if_pos rfl]
theorem ceT_last (s : List Int × Int) : ceT s 1 = csets (ceT s 0) 0 ((rdL (List.replicate 4 1) (stp zT s 0)).map (Value.int .u8)) := if_pos rfl
theorem ceH_one (s : List Int × Int) (k : Nat) : One (ceH s k) := by
  induction k with
  | zero => exact one_list (l := [.int .i64 0, .int .i64 0, .int .i64 0, .int .i64 0]) (by simp [Value.oneCell'])
  | succ k ih => rw [ceH]; exact ih.set _ rfl
theorem ceE_one (s : List Int × Int) (k : Nat) : One (ceE s k) := by
  induction k with
  | zero =>
    intro i v h
    have := entA_one 0 0 0 zer16
    rw [Array.all_eq_true] at this
    obtain ⟨hi, rfl⟩ := Array.getElem?_eq_some_iff.1 h
    exact this i hi
  | succ k ih =>
    rw [ceE]
    split
    · exact One.sets _ ih _ one_u8
    · exact ih.set _ rfl
theorem ceT_one (s : List Int × Int) (k : Nat) : One (ceT s k) := by
  induction k with
  | zero => exact one_list (l := datL [0, 0, 0, 0]) one_u8
  | succ k ih =>
    rw [ceT]
    split
    · exact One.sets _ ih _ one_u8
    · exact ih
theorem cexE (s : List Int × Int) (j : Nat) (hj : j < 16) : ∃ x0, (ceE s 3)[3 + j]? = some (.int .u8 x0) := by
  have e : ceE s 3 = (((entA 0 0 0 zer16).setIfInBounds 0 (.int .i64 (rdV 1 (stp zE s 0).1))).setIfInBounds 1 (.int .i64 (rdV 8 (stp zE s 1).1))).setIfInBounds 2 (.int .i64 (rdV 8 (stp zE s 2).1)) := rfl
  rw [e, Array.getElem?_setIfInBounds, if_neg (by omega), Array.getElem?_setIfInBounds, if_neg (by omega), Array.getElem?_setIfInBounds, if_neg (by omega), entA_d, datL_get (by rw [zer16_len]; exact hj)]
  exact ⟨_, rfl⟩
theorem cexT (s : List Int × Int) (j : Nat) (hj : j < 4) : ∃ x0, (ceT s 0)[0 + j]? = some (.int .u8 x0) := by
  refine ⟨((cf [0, 0, 0, 0] j : Nat) : Int), ?_⟩
  rw [Nat.zero_add]
  show (datL [0, 0, 0, 0]).toArray[j]? = _
  rw [List.getElem?_toArray]
  exact datL_get hj

set_option maxRecDepth 100000 in
set_option maxHeartbeats 8000000 in
theorem readH_any (L : Nat) (c : Nat → Nat) (R g : Nat) (zs : List Int) (e : Int) (w : World) (hg : g < w.heap.size) (hby : Byt zs) (hR : Rd 164 w R g zs e) (hL : LayH w L c) (hLR : L ≠ R) (hcR : ∀ i, i < 4 → c i ≠ R) :
    Calls Tryz.prog 66 #[.slice (some ⟨L, 0, none⟩) 4 4, .pointer (some ⟨R, 0, none⟩)] w fun x w' => x = .returned (.agg (ceH (zs, e) 4)) ∧ Rd 164 w' R g (stp zH (zs, e) 4).1 (stp zH (zs, e) 4).2 ∧ Kp [R] w w' := by
  have HR := hide hR
  have HL := hide hL
  have HY := hide hby
  have HRR : Hid (R < w.heap.size) := by obtain ⟨_, _, _, h, _⟩ := hR; exact lt_of_block h
  clear hR hL hby
  go_enter Tryz.func66, Tryz.ntmps66
  go_wp2_with fail
  obtain ⟨w1, hw1⟩ : ∃ w1, (w.alloc (.cells #[.int .i64 0, .int .i64 0, .int .i64 0, .int .i64 0] 52)).alloc (.cells #[.int .i64 0, .int .i64 0, .int .i64 0, .int .i64 0] 52) = w1 := ⟨_, rfl⟩
  have HK1 : Hid (Kp [] w w1) := by rw [← hw1]; exact ((Kp.refl [] w).alloc _).alloc _
  have HB0 : Hid (w1.heap[w.heap.size]? = some (.cells (headA 0 0 0 0) 52 (0, 0))) := by rw [← hw1]; exact (Below.heap_alloc _ _ _ (by simp)).trans (World.alloc_heap_new w _)
  have HB : Hid (w1.heap[w.heap.size + 1]? = some (.cells (headA 0 0 0 0) 52 (0, 0))) := by
    rw [← hw1]
    have := World.alloc_heap_new (w.alloc (.cells (headA 0 0 0 0) 52)) (.cells (headA 0 0 0 0) 52)
    rwa [World.size_alloc] at this
  have hz1 : w1.heap.size = w.heap.size + 2 := by rw [← hw1]; simp
  rw [hw1]
  clear hw1
  have HR1 : Hid (Rd 164 w1 R g zs e) := (unhide HR).keep (unhide HK1) (by simp) (by simp)
  have HL1 : Hid (LayH w1 L c) := (unhide HL).keep (unhide HK1).below
  have hBR : w.heap.size + 1 ≠ R := by have := unhide HRR; omega
  have HLB : Hid (L < w.heap.size) := lt_of_block (unhide HL).blk
  have HCB : Hid (∀ i, i < 4 → c i < w.heap.size) := fun i hi => match i, hi with | 0, _ => (by have := block_lt_of_cell (unhide HL).c0; exact this) | 1, _ => (by have := block_lt_of_cell (unhide HL).c1; exact this) | 2, _ => (by have := block_lt_of_cell (unhide HL).c2; exact this) | 3, _ => (by have := block_lt_of_cell (unhide HL).c3; exact this)
  obtain ⟨B, hB⟩ : ∃ B, w.heap.size + 1 = B := ⟨_, rfl⟩
  rw [hB] at HB hBR ⊢
  obtain ⟨B0, hB0⟩ : ∃ B0, w.heap.size = B0 := ⟨_, rfl⟩
  rw [hB0] at HB0 ⊢
  go_loopw [10] (fun i wr => ∃ (k : Nat), k ≤ 4 ∧ i = .int .i64 k ∧ Kp [R, B] w1 wr ∧ Rd 164 wr R g (stp zH (zs, e) k).1 (stp zH (zs, e) k).2 ∧ wr.heap[B]? = some (.cells (ceH (zs, e) k) 52 (0, 0))) (fun i _ => 4 - (intOf i).toNat)
  case atStart => exact ⟨0, by omega, rfl, Kp.refl _ _, unhide HR1, unhide HB⟩
  case round =>
    obtain ⟨k, hk, rfl, hK, hr, hb⟩ := hrel
    have HK := hide hK
    have HR2 := hide hr
    have HB2 := hide hb
    have HY2 : Hid (Byt (stp zH (zs, e) k).1) := byt_stp k (unhide HY)
    have HS2 : Hid ((ceH (zs, e) k).size = 4) := ceH_size _ _
    have hq : ∀ (j : Nat) v, (#[.func (.func 107) #[] #[.pointer (some ⟨c 0, 0, none⟩)], .func (.func 109) #[] #[.pointer (some ⟨c 0, 0, none⟩)], .func (.func 111) #[] #[.pointer (some ⟨c 1, 0, none⟩)], .func (.func 113) #[] #[.pointer (some ⟨c 1, 0, none⟩)], .func (.func 111) #[] #[.pointer (some ⟨c 2, 0, none⟩)], .func (.func 113) #[] #[.pointer (some ⟨c 2, 0, none⟩)], .func (.func 111) #[] #[.pointer (some ⟨c 3, 0, none⟩)], .func (.func 113) #[] #[.pointer (some ⟨c 3, 0, none⟩)]] : Array Value)[j]? = some v → wr.cell? ⟨L, j, none⟩ = some v := fun j v h => hK.cell (cell_blk (unhide HL1).blk h) (by have := unhide HLB; simp; omega)
    have HQ := hide hq
    have HC : Hid (∀ i v, i < 4 → w1.cell? ⟨c i, 0, none⟩ = some v → wr.cell? ⟨c i, 0, none⟩ = some v) := fun i v hi h => hK.cell h (by have h1 := unhide HCB i hi; have h2 := hcR i hi; simp; omega)
    have HGB : Hid (B ≠ g) := by have := hg; unfold Hid; omega
    clear hK hr hb hq
    by_cases hlt : k < 4
    · match k, hlt with
      | 0, _ =>
        have q0 : wr.cell? ⟨L, 0, none⟩ = some (.func (.func 107) #[] #[.pointer (some ⟨c 0, 0, none⟩)]) := unhide HQ 0 _ rfl
        have q1 : wr.cell? ⟨L, 1, none⟩ = some (.func (.func 109) #[] #[.pointer (some ⟨c 0, 0, none⟩)]) := unhide HQ 1 _ rfl
        go_wp2_with fail
        refine (take_numH 74 (c 0) B 0 R g (ceH (zs, e) 0) 52 _ _ _ at_h0.1 at_h0.2 (((Kp.refl [] wr).alloc _).cell (unhide HC 0 _ (by omega) (unhide HL1).c0) (by simp)) 0 (by rfl) (((Kp.refl [] wr).alloc _).heap (unhide HB2) (by simp)) (unhide HY2) ((unhide HR2).keep ((Kp.refl [] wr).alloc _) (by simp) (by simp)) hBR).mono ?_
        rintro x w2 ⟨rfl, hr3, hb3, hk3⟩
        have HR3 := hide (hr3 (unhide HGB))
        have HB3 := hide hb3
        have HK3 : Hid (Kp [R, B] w1 w2) := ((unhide HK).alloc _).trans hk3 (by simp)
        clear hr3 hb3 hk3
        go_wp2
        go_roundw
        case rel => exact ⟨1, by omega, by go_num, unhide HK3, by rw [stp_succ _ rfl]; exact unhide HR3, unhide HB3⟩
        case measure => simp [intOf] <;> omega
      | 1, _ =>
        have q0 : wr.cell? ⟨L, 2, none⟩ = some (.func (.func 111) #[] #[.pointer (some ⟨c 1, 0, none⟩)]) := unhide HQ 2 _ rfl
        have q1 : wr.cell? ⟨L, 3, none⟩ = some (.func (.func 113) #[] #[.pointer (some ⟨c 1, 0, none⟩)]) := unhide HQ 3 _ rfl
        go_wp2_with fail
        refine (take_lowH 76 (c 1) B 1 R g (ceH (zs, e) 1) 52 _ _ _ at_h1.1 at_h1.2 (((Kp.refl [] wr).alloc _).cell (unhide HC 1 _ (by omega) (unhide HL1).c1) (by simp)) 0 (by rfl) (((Kp.refl [] wr).alloc _).heap (unhide HB2) (by simp)) (unhide HY2) ((unhide HR2).keep ((Kp.refl [] wr).alloc _) (by simp) (by simp)) hBR).mono ?_
        rintro x w2 ⟨rfl, hr3, hb3, hk3⟩
        have HR3 := hide (hr3 (unhide HGB))
        have HB3 := hide hb3
        have HK3 : Hid (Kp [R, B] w1 w2) := ((unhide HK).alloc _).trans hk3 (by simp)
        clear hr3 hb3 hk3
        go_wp2
        go_roundw
        case rel => exact ⟨2, by omega, by go_num, unhide HK3, by rw [stp_succ _ rfl]; exact unhide HR3, unhide HB3⟩
        case measure => simp [intOf] <;> omega
      | 2, _ =>
        have q0 : wr.cell? ⟨L, 4, none⟩ = some (.func (.func 111) #[] #[.pointer (some ⟨c 2, 0, none⟩)]) := unhide HQ 4 _ rfl
        have q1 : wr.cell? ⟨L, 5, none⟩ = some (.func (.func 113) #[] #[.pointer (some ⟨c 2, 0, none⟩)]) := unhide HQ 5 _ rfl
        go_wp2_with fail
        refine (take_lowH 77 (c 2) B 2 R g (ceH (zs, e) 2) 52 _ _ _ at_h2.1 at_h2.2 (((Kp.refl [] wr).alloc _).cell (unhide HC 2 _ (by omega) (unhide HL1).c2) (by simp)) 0 (by rfl) (((Kp.refl [] wr).alloc _).heap (unhide HB2) (by simp)) (unhide HY2) ((unhide HR2).keep ((Kp.refl [] wr).alloc _) (by simp) (by simp)) hBR).mono ?_
        rintro x w2 ⟨rfl, hr3, hb3, hk3⟩
        have HR3 := hide (hr3 (unhide HGB))
        have HB3 := hide hb3
        have HK3 : Hid (Kp [R, B] w1 w2) := ((unhide HK).alloc _).trans hk3 (by simp)
        clear hr3 hb3 hk3
        go_wp2
        go_roundw
        case rel => exact ⟨3, by omega, by go_num, unhide HK3, by rw [stp_succ _ rfl]; exact unhide HR3, unhide HB3⟩
        case measure => simp [intOf] <;> omega
      | 3, _ =>
        have q0 : wr.cell? ⟨L, 6, none⟩ = some (.func (.func 111) #[] #[.pointer (some ⟨c 3, 0, none⟩)]) := unhide HQ 6 _ rfl
        have q1 : wr.cell? ⟨L, 7, none⟩ = some (.func (.func 113) #[] #[.pointer (some ⟨c 3, 0, none⟩)]) := unhide HQ 7 _ rfl
        go_wp2_with fail
        refine (take_lowH 78 (c 3) B 3 R g (ceH (zs, e) 3) 52 _ _ _ at_h3.1 at_h3.2 (((Kp.refl [] wr).alloc _).cell (unhide HC 3 _ (by omega) (unhide HL1).c3) (by simp)) 0 (by rfl) (((Kp.refl [] wr).alloc _).heap (unhide HB2) (by simp)) (unhide HY2) ((unhide HR2).keep ((Kp.refl [] wr).alloc _) (by simp) (by simp)) hBR).mono ?_
        rintro x w2 ⟨rfl, hr3, hb3, hk3⟩
        have HR3 := hide (hr3 (unhide HGB))
        have HB3 := hide hb3
        have HK3 : Hid (Kp [R, B] w1 w2) := ((unhide HK).alloc _).trans hk3 (by simp)
        clear hr3 hb3 hk3
        go_wp2
        go_roundw
        case rel => exact ⟨4, by omega, by go_num, unhide HK3, by rw [stp_succ _ rfl]; exact unhide HR3, unhide HB3⟩
        case measure => simp [intOf] <;> omega
    · have : k = 4 := by omega
      subst this
      have HZ0 : Hid (wr.heap[B0]? = some (.cells (headA 0 0 0 0) 52 (0, 0))) := (unhide HK).heap (unhide HB0) (by have h1 := unhide HRR; simp; omega)
      go_wp2_with (first | (refine wpList_load_row rfl 52 _ rfl B rfl 52 (ceH (zs, e) 4) _ _ (unhide HB2) Tryz.underlying52 rfl (by rw [sizeTH, unhide HS2]) ?_) | (refine wpList_store_row rfl 52 _ _ rfl B0 (ceH (zs, e) 4) rfl rfl 52 (headA 0 0 0 0) (unhide HZ0) (by rw [sizeTH, unhide HS2]) (by rw [unhide HS2]; rfl) (ceH_one _ _).all ?_))
      have H9 := setRow_heap wr B0 _ (ceH (zs, e) 4) 52 _ (unhide HZ0)
      refine bodyPost_ret (results_cell7 rfl _ _ ⟨B0, 0, none⟩ _ rfl (load_TH H9 (unhide HS2))) rfl ?_
      have hk9 : Kp [B0] wr (wr.setRow B0 (ceH (zs, e) 4)) := ⟨rfl, rfl, rfl, by simp, fun k _ h => setRow_other _ _ k _ (by simpa using h)⟩
      refine ⟨rfl, (unhide HR2).keep hk9 (by have := unhide HRR; simp; omega) (by simp; omega), ?_⟩
      have k1 : Kp [R] w wr := ((unhide HK1).mono (S' := [R]) (by simp)).trans (unhide HK) (fun x hx => by
        simp at hx
        rcases hx with rfl | rfl
        · exact .inl (by simp)
        · exact .inr (by omega))
      exact k1.trans hk9 (fun x hx => .inr (by simp at hx; omega))

set_option maxRecDepth 100000 in
set_option maxHeartbeats 8000000 in
theorem readE_any (L : Nat) (c : Nat → Nat) (R g : Nat) (zs : List Int) (e : Int) (w : World) (hg : g < w.heap.size) (hby : Byt zs) (hR : Rd 164 w R g zs e) (hL : LayE w L c) (hLR : L ≠ R) (hcR : ∀ i, i < 4 → c i ≠ R) :
    Calls Tryz.prog 67 #[.slice (some ⟨L, 0, none⟩) 4 4, .pointer (some ⟨R, 0, none⟩)] w fun x w' => x = .returned (.agg (ceE (zs, e) 4)) ∧ Rd 164 w' R g (stp zE (zs, e) 4).1 (stp zE (zs, e) 4).2 ∧ Kp [R] w w' := by
  have HR := hide hR
  have HL := hide hL
  have HY := hide hby
  have HRR : Hid (R < w.heap.size) := by obtain ⟨_, _, _, h, _⟩ := hR; exact lt_of_block h
  clear hR hL hby
  go_enter Tryz.func67, Tryz.ntmps67
  go_wp2_with fail
  obtain ⟨w1, hw1⟩ : ∃ w1, (w.alloc (.cells #[.int .i64 0, .int .i64 0, .int .i64 0, .int .u8 0, .int .u8 0, .int .u8 0, .int .u8 0, .int .u8 0, .int .u8 0, .int .u8 0, .int .u8 0, .int .u8 0, .int .u8 0, .int .u8 0, .int .u8 0, .int .u8 0, .int .u8 0, .int .u8 0, .int .u8 0] 46)).alloc (.cells #[.int .i64 0, .int .i64 0, .int .i64 0, .int .u8 0, .int .u8 0, .int .u8 0, .int .u8 0, .int .u8 0, .int .u8 0, .int .u8 0, .int .u8 0, .int .u8 0, .int .u8 0, .int .u8 0, .int .u8 0, .int .u8 0, .int .u8 0, .int .u8 0, .int .u8 0] 46) = w1 := ⟨_, rfl⟩
  have HK1 : Hid (Kp [] w w1) := by rw [← hw1]; exact ((Kp.refl [] w).alloc _).alloc _
  have HB0 : Hid (w1.heap[w.heap.size]? = some (.cells (entA 0 0 0 zer16) 46 (0, 0))) := by rw [← hw1]; exact (Below.heap_alloc _ _ _ (by simp)).trans (World.alloc_heap_new w _)
  have HB : Hid (w1.heap[w.heap.size + 1]? = some (.cells (entA 0 0 0 zer16) 46 (0, 0))) := by
    rw [← hw1]
    have := World.alloc_heap_new (w.alloc (.cells (entA 0 0 0 zer16) 46)) (.cells (entA 0 0 0 zer16) 46)
    rwa [World.size_alloc] at this
  have hz1 : w1.heap.size = w.heap.size + 2 := by rw [← hw1]; simp
  rw [hw1]
  clear hw1
  have HR1 : Hid (Rd 164 w1 R g zs e) := (unhide HR).keep (unhide HK1) (by simp) (by simp)
  have HL1 : Hid (LayE w1 L c) := (unhide HL).keep (unhide HK1).below
  have hBR : w.heap.size + 1 ≠ R := by have := unhide HRR; omega
  have HLB : Hid (L < w.heap.size) := lt_of_block (unhide HL).blk
  have HCB : Hid (∀ i, i < 4 → c i < w.heap.size) := fun i hi => match i, hi with | 0, _ => (by have := block_lt_of_cell (unhide HL).c0; exact this) | 1, _ => (by have := block_lt_of_cell (unhide HL).c1; exact this) | 2, _ => (by have := block_lt_of_cell (unhide HL).c2; exact this) | 3, _ => (by have := block_lt_of_cell (unhide HL).c3; exact this)
  obtain ⟨B, hB⟩ : ∃ B, w.heap.size + 1 = B := ⟨_, rfl⟩
  rw [hB] at HB hBR ⊢
  obtain ⟨B0, hB0⟩ : ∃ B0, w.heap.size = B0 := ⟨_, rfl⟩
  rw [hB0] at HB0 ⊢
  go_loopw [10] (fun i wr => ∃ (k : Nat), k ≤ 4 ∧ i = .int .i64 k ∧ Kp [R, B] w1 wr ∧ Rd 164 wr R g (stp zE (zs, e) k).1 (stp zE (zs, e) k).2 ∧ wr.heap[B]? = some (.cells (ceE (zs, e) k) 46 (0, 0))) (fun i _ => 4 - (intOf i).toNat)
  case atStart => exact ⟨0, by omega, rfl, Kp.refl _ _, unhide HR1, unhide HB⟩
  case round =>
    obtain ⟨k, hk, rfl, hK, hr, hb⟩ := hrel
    have HK := hide hK
    have HR2 := hide hr
    have HB2 := hide hb
    have HY2 : Hid (Byt (stp zE (zs, e) k).1) := byt_stp k (unhide HY)
    have HS2 : Hid ((ceE (zs, e) k).size = 19) := ceE_size _ _
    have hq : ∀ (j : Nat) v, (#[.func (.func 115) #[] #[.pointer (some ⟨c 0, 0, none⟩)], .func (.func 116) #[] #[.pointer (some ⟨c 0, 0, none⟩)], .func (.func 117) #[] #[.pointer (some ⟨c 1, 0, none⟩)], .func (.func 118) #[] #[.pointer (some ⟨c 1, 0, none⟩)], .func (.func 117) #[] #[.pointer (some ⟨c 2, 0, none⟩)], .func (.func 118) #[] #[.pointer (some ⟨c 2, 0, none⟩)], .func (.func 119) #[] #[.pointer (some ⟨c 3, 0, none⟩)], .func (.func 120) #[] #[.pointer (some ⟨c 3, 0, none⟩)]] : Array Value)[j]? = some v → wr.cell? ⟨L, j, none⟩ = some v := fun j v h => hK.cell (cell_blk (unhide HL1).blk h) (by have := unhide HLB; simp; omega)
    have HQ := hide hq
    have HC : Hid (∀ i v, i < 4 → w1.cell? ⟨c i, 0, none⟩ = some v → wr.cell? ⟨c i, 0, none⟩ = some v) := fun i v hi h => hK.cell h (by have h1 := unhide HCB i hi; have h2 := hcR i hi; simp; omega)
    have HGB : Hid (B ≠ g) := by have := hg; unfold Hid; omega
    clear hK hr hb hq
    by_cases hlt : k < 4
    · match k, hlt with
      | 0, _ =>
        have q0 : wr.cell? ⟨L, 0, none⟩ = some (.func (.func 115) #[] #[.pointer (some ⟨c 0, 0, none⟩)]) := unhide HQ 0 _ rfl
        have q1 : wr.cell? ⟨L, 1, none⟩ = some (.func (.func 116) #[] #[.pointer (some ⟨c 0, 0, none⟩)]) := unhide HQ 1 _ rfl
        go_wp2_with fail
        refine (take_lowE 80 (c 0) B 0 R g (ceE (zs, e) 0) 46 _ _ _ at_e0.1 at_e0.2 (((Kp.refl [] wr).alloc _).cell (unhide HC 0 _ (by omega) (unhide HL1).c0) (by simp)) 0 (by rfl) (((Kp.refl [] wr).alloc _).heap (unhide HB2) (by simp)) (unhide HY2) ((unhide HR2).keep ((Kp.refl [] wr).alloc _) (by simp) (by simp)) hBR).mono ?_
        rintro x w2 ⟨rfl, hr3, hb3, hk3⟩
        have HR3 := hide (hr3 (unhide HGB))
        have HB3 := hide hb3
        have HK3 : Hid (Kp [R, B] w1 w2) := ((unhide HK).alloc _).trans hk3 (by simp)
        clear hr3 hb3 hk3
        go_wp2
        go_roundw
        case rel => exact ⟨1, by omega, by go_num, unhide HK3, by rw [stp_succ _ rfl]; exact unhide HR3, unhide HB3⟩
        case measure => simp [intOf] <;> omega
      | 1, _ =>
        have q0 : wr.cell? ⟨L, 2, none⟩ = some (.func (.func 117) #[] #[.pointer (some ⟨c 1, 0, none⟩)]) := unhide HQ 2 _ rfl
        have q1 : wr.cell? ⟨L, 3, none⟩ = some (.func (.func 118) #[] #[.pointer (some ⟨c 1, 0, none⟩)]) := unhide HQ 3 _ rfl
        go_wp2_with fail
        refine (take_numE 82 (c 1) B 1 R g (ceE (zs, e) 1) 46 _ _ _ at_e1.1 at_e1.2 (((Kp.refl [] wr).alloc _).cell (unhide HC 1 _ (by omega) (unhide HL1).c1) (by simp)) 0 (by rfl) (((Kp.refl [] wr).alloc _).heap (unhide HB2) (by simp)) (unhide HY2) ((unhide HR2).keep ((Kp.refl [] wr).alloc _) (by simp) (by simp)) hBR).mono ?_
        rintro x w2 ⟨rfl, hr3, hb3, hk3⟩
        have HR3 := hide (hr3 (unhide HGB))
        have HB3 := hide hb3
        have HK3 : Hid (Kp [R, B] w1 w2) := ((unhide HK).alloc _).trans hk3 (by simp)
        clear hr3 hb3 hk3
        go_wp2
        go_roundw
        case rel => exact ⟨2, by omega, by go_num, unhide HK3, by rw [stp_succ _ rfl]; exact unhide HR3, unhide HB3⟩
        case measure => simp [intOf] <;> omega
      | 2, _ =>
        have q0 : wr.cell? ⟨L, 4, none⟩ = some (.func (.func 117) #[] #[.pointer (some ⟨c 2, 0, none⟩)]) := unhide HQ 4 _ rfl
        have q1 : wr.cell? ⟨L, 5, none⟩ = some (.func (.func 118) #[] #[.pointer (some ⟨c 2, 0, none⟩)]) := unhide HQ 5 _ rfl
        go_wp2_with fail
        refine (take_numE 83 (c 2) B 2 R g (ceE (zs, e) 2) 46 _ _ _ at_e2.1 at_e2.2 (((Kp.refl [] wr).alloc _).cell (unhide HC 2 _ (by omega) (unhide HL1).c2) (by simp)) 0 (by rfl) (((Kp.refl [] wr).alloc _).heap (unhide HB2) (by simp)) (unhide HY2) ((unhide HR2).keep ((Kp.refl [] wr).alloc _) (by simp) (by simp)) hBR).mono ?_
        rintro x w2 ⟨rfl, hr3, hb3, hk3⟩
        have HR3 := hide (hr3 (unhide HGB))
        have HB3 := hide hb3
        have HK3 : Hid (Kp [R, B] w1 w2) := ((unhide HK).alloc _).trans hk3 (by simp)
        clear hr3 hb3 hk3
        go_wp2
        go_roundw
        case rel => exact ⟨3, by omega, by go_num, unhide HK3, by rw [stp_succ _ rfl]; exact unhide HR3, unhide HB3⟩
        case measure => simp [intOf] <;> omega
      | 3, _ =>
        have q0 : wr.cell? ⟨L, 6, none⟩ = some (.func (.func 119) #[] #[.pointer (some ⟨c 3, 0, none⟩)]) := unhide HQ 6 _ rfl
        have q1 : wr.cell? ⟨L, 7, none⟩ = some (.func (.func 120) #[] #[.pointer (some ⟨c 3, 0, none⟩)]) := unhide HQ 7 _ rfl
        go_wp2_with fail
        refine (take_sevE 85 (c 3) B 3 16 R g (ceE (zs, e) 3) 46 _ _ _ at_e3.1 at_e3.2 (by omega) (((Kp.refl [] wr).alloc _).cell (unhide HC 3 _ (by omega) (unhide HL1).c3) (by simp)) (cexE (zs, e)) (((Kp.refl [] wr).alloc _).heap (unhide HB2) (by simp)) (unhide HY2) ((unhide HR2).keep ((Kp.refl [] wr).alloc _) (by simp) (by simp)) hBR (unhide HGB)).mono ?_
        rintro x w2 ⟨rfl, hr3, hb3, hk3⟩
        have HR3 := hide hr3
        have HB3 := hide hb3
        have HK3 : Hid (Kp [R, B] w1 w2) := ((unhide HK).alloc _).trans hk3 (by simp)
        clear hr3 hb3 hk3
        go_wp2
        go_roundw
        case rel => exact ⟨4, by omega, by go_num, unhide HK3, by rw [stp_succ (List.replicate 16 1) rfl]; exact unhide HR3, by rw [ceE_last]; exact unhide HB3⟩
        case measure => simp [intOf] <;> omega
    · have : k = 4 := by omega
      subst this
      have HZ0 : Hid (wr.heap[B0]? = some (.cells (entA 0 0 0 zer16) 46 (0, 0))) := (unhide HK).heap (unhide HB0) (by have h1 := unhide HRR; simp; omega)
      go_wp2_with (first | (refine wpList_load_row rfl 46 _ rfl B rfl 46 (ceE (zs, e) 4) _ _ (unhide HB2) Tryz.underlying46 rfl (by rw [sizeTE, unhide HS2]) ?_) | (refine wpList_store_row rfl 46 _ _ rfl B0 (ceE (zs, e) 4) rfl rfl 46 (entA 0 0 0 zer16) (unhide HZ0) (by rw [sizeTE, unhide HS2]) (by rw [unhide HS2]; rfl) (ceE_one _ _).all ?_))
      have H9 := setRow_heap wr B0 _ (ceE (zs, e) 4) 46 _ (unhide HZ0)
      refine bodyPost_ret (results_cell7 rfl _ _ ⟨B0, 0, none⟩ _ rfl (load_TE H9 (unhide HS2))) rfl ?_
      have hk9 : Kp [B0] wr (wr.setRow B0 (ceE (zs, e) 4)) := ⟨rfl, rfl, rfl, by simp, fun k _ h => setRow_other _ _ k _ (by simpa using h)⟩
      refine ⟨rfl, (unhide HR2).keep hk9 (by have := unhide HRR; simp; omega) (by simp; omega), ?_⟩
      have k1 : Kp [R] w wr := ((unhide HK1).mono (S' := [R]) (by simp)).trans (unhide HK) (fun x hx => by
        simp at hx
        rcases hx with rfl | rfl
        · exact .inl (by simp)
        · exact .inr (by omega))
      exact k1.trans hk9 (fun x hx => .inr (by simp at hx; omega))

set_option maxRecDepth 100000 in
set_option maxHeartbeats 8000000 in
theorem readT_any (L : Nat) (c : Nat → Nat) (R g : Nat) (zs : List Int) (e : Int) (w : World) (hg : g < w.heap.size) (hby : Byt zs) (hR : Rd 164 w R g zs e) (hL : LayT w L c) (hLR : L ≠ R) (hcR : ∀ i, i < 1 → c i ≠ R) :
    Calls Tryz.prog 68 #[.slice (some ⟨L, 0, none⟩) 1 1, .pointer (some ⟨R, 0, none⟩)] w fun x w' => x = .returned (.agg (ceT (zs, e) 1)) ∧ Rd 164 w' R g (stp zT (zs, e) 1).1 (stp zT (zs, e) 1).2 ∧ Kp [R] w w' := by
  have HR := hide hR
  have HL := hide hL
  have HY := hide hby
  have HRR : Hid (R < w.heap.size) := by obtain ⟨_, _, _, h, _⟩ := hR; exact lt_of_block h
  clear hR hL hby
  go_enter Tryz.func68, Tryz.ntmps68
  go_wp2_with fail
  obtain ⟨w1, hw1⟩ : ∃ w1, (w.alloc (.cells #[.int .u8 0, .int .u8 0, .int .u8 0, .int .u8 0] 103)).alloc (.cells #[.int .u8 0, .int .u8 0, .int .u8 0, .int .u8 0] 103) = w1 := ⟨_, rfl⟩
  have HK1 : Hid (Kp [] w w1) := by rw [← hw1]; exact ((Kp.refl [] w).alloc _).alloc _
  have HB0 : Hid (w1.heap[w.heap.size]? = some (.cells (tailA [0, 0, 0, 0]) 103 (0, 0))) := by rw [← hw1]; exact (Below.heap_alloc _ _ _ (by simp)).trans (World.alloc_heap_new w _)
  have HB : Hid (w1.heap[w.heap.size + 1]? = some (.cells (tailA [0, 0, 0, 0]) 103 (0, 0))) := by
    rw [← hw1]
    have := World.alloc_heap_new (w.alloc (.cells (tailA [0, 0, 0, 0]) 103)) (.cells (tailA [0, 0, 0, 0]) 103)
    rwa [World.size_alloc] at this
  have hz1 : w1.heap.size = w.heap.size + 2 := by rw [← hw1]; simp
  rw [hw1]
  clear hw1
  have HR1 : Hid (Rd 164 w1 R g zs e) := (unhide HR).keep (unhide HK1) (by simp) (by simp)
  have HL1 : Hid (LayT w1 L c) := (unhide HL).keep (unhide HK1).below
  have hBR : w.heap.size + 1 ≠ R := by have := unhide HRR; omega
  have HLB : Hid (L < w.heap.size) := lt_of_block (unhide HL).blk
  have HCB : Hid (∀ i, i < 1 → c i < w.heap.size) := fun i hi => match i, hi with | 0, _ => (by have := block_lt_of_cell (unhide HL).c0; exact this)
  obtain ⟨B, hB⟩ : ∃ B, w.heap.size + 1 = B := ⟨_, rfl⟩
  rw [hB] at HB hBR ⊢
  obtain ⟨B0, hB0⟩ : ∃ B0, w.heap.size = B0 := ⟨_, rfl⟩
  rw [hB0] at HB0 ⊢
  go_loopw [10] (fun i wr => ∃ (k : Nat), k ≤ 1 ∧ i = .int .i64 k ∧ Kp [R, B] w1 wr ∧ Rd 164 wr R g (stp zT (zs, e) k).1 (stp zT (zs, e) k).2 ∧ wr.heap[B]? = some (.cells (ceT (zs, e) k) 103 (0, 0))) (fun i _ => 1 - (intOf i).toNat)
  case atStart => exact ⟨0, by omega, rfl, Kp.refl _ _, unhide HR1, unhide HB⟩
  case round =>
    obtain ⟨k, hk, rfl, hK, hr, hb⟩ := hrel
    have HK := hide hK
    have HR2 := hide hr
    have HB2 := hide hb
    have HY2 : Hid (Byt (stp zT (zs, e) k).1) := byt_stp k (unhide HY)
    have HS2 : Hid ((ceT (zs, e) k).size = 4) := ceT_size _ _
    have hq : ∀ (j : Nat) v, (#[.func (.func 121) #[] #[.pointer (some ⟨c 0, 0, none⟩)], .func (.func 122) #[] #[.pointer (some ⟨c 0, 0, none⟩)]] : Array Value)[j]? = some v → wr.cell? ⟨L, j, none⟩ = some v := fun j v h => hK.cell (cell_blk (unhide HL1).blk h) (by have := unhide HLB; simp; omega)
    have HQ := hide hq
    have HC : Hid (∀ i v, i < 1 → w1.cell? ⟨c i, 0, none⟩ = some v → wr.cell? ⟨c i, 0, none⟩ = some v) := fun i v hi h => hK.cell h (by have h1 := unhide HCB i hi; have h2 := hcR i hi; simp; omega)
    have HGB : Hid (B ≠ g) := by have := hg; unfold Hid; omega
    clear hK hr hb hq
    by_cases hlt : k < 1
    · match k, hlt with
      | 0, _ =>
        have q0 : wr.cell? ⟨L, 0, none⟩ = some (.func (.func 121) #[] #[.pointer (some ⟨c 0, 0, none⟩)]) := unhide HQ 0 _ rfl
        have q1 : wr.cell? ⟨L, 1, none⟩ = some (.func (.func 122) #[] #[.pointer (some ⟨c 0, 0, none⟩)]) := unhide HQ 1 _ rfl
        go_wp2_with fail
        refine (take_sevT 87 (c 0) B 0 4 R g (ceT (zs, e) 0) 103 _ _ _ at_t0.1 at_t0.2 (by omega) (((Kp.refl [] wr).alloc _).cell (unhide HC 0 _ (by omega) (unhide HL1).c0) (by simp)) (cexT (zs, e)) (((Kp.refl [] wr).alloc _).heap (unhide HB2) (by simp)) (unhide HY2) ((unhide HR2).keep ((Kp.refl [] wr).alloc _) (by simp) (by simp)) hBR (unhide HGB)).mono ?_
        rintro x w2 ⟨rfl, hr3, hb3, hk3⟩
        have HR3 := hide hr3
        have HB3 := hide hb3
        have HK3 : Hid (Kp [R, B] w1 w2) := ((unhide HK).alloc _).trans hk3 (by simp)
        clear hr3 hb3 hk3
        go_wp2
        go_roundw
        case rel => exact ⟨1, by omega, by go_num, unhide HK3, by rw [stp_succ (List.replicate 4 1) rfl]; exact unhide HR3, by rw [ceT_last]; exact unhide HB3⟩
        case measure => simp [intOf] <;> omega
    · have : k = 1 := by omega
      subst this
      have HZ0 : Hid (wr.heap[B0]? = some (.cells (tailA [0, 0, 0, 0]) 103 (0, 0))) := (unhide HK).heap (unhide HB0) (by have h1 := unhide HRR; simp; omega)
      go_wp2_with (first | (refine wpList_load_row rfl 103 _ rfl B rfl 103 (ceT (zs, e) 1) _ _ (unhide HB2) Tryz.underlying103 rfl (by rw [sizeTT, unhide HS2]) ?_) | (refine wpList_store_row rfl 103 _ _ rfl B0 (ceT (zs, e) 1) rfl rfl 103 (tailA [0, 0, 0, 0]) (unhide HZ0) (by rw [sizeTT, unhide HS2]) (by rw [unhide HS2]; rfl) (ceT_one _ _).all ?_))
      have H9 := setRow_heap wr B0 _ (ceT (zs, e) 1) 103 _ (unhide HZ0)
      refine bodyPost_ret (results_cell7 rfl _ _ ⟨B0, 0, none⟩ _ rfl (load_TT H9 (unhide HS2))) rfl ?_
      have hk9 : Kp [B0] wr (wr.setRow B0 (ceT (zs, e) 1)) := ⟨rfl, rfl, rfl, by simp, fun k _ h => setRow_other _ _ k _ (by simpa using h)⟩
      refine ⟨rfl, (unhide HR2).keep hk9 (by have := unhide HRR; simp; omega) (by simp; omega), ?_⟩
      have k1 : Kp [R] w wr := ((unhide HK1).mono (S' := [R]) (by simp)).trans (unhide HK) (fun x hx => by
        simp at hx
        rcases hx with rfl | rfl
        · exact .inl (by simp)
        · exact .inr (by omega))
      exact k1.trans hk9 (fun x hx => .inr (by simp at hx; omega))
end Go.Proofs.YtjdikhelabibnabGreat
