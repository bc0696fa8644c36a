/-
  
-/
import Derived.Test.YtjdikhelabibnaaGreatMav
import Derived.Test.YtjdikhelabibnaaGreatMaw
import Derived.Test.YtjdikhelabibnaaGreatMat
import Derived.Test.YtjdikhelabibnaaGreatMax
import Derived.Test.YtjdikhelabibnaaGreatMag
import Derived.Test.YtjdikhelabibnaaGreatMah
import Derived.Test.YtjdikhelabibnaaGreatMau
namespace Go.Proofs.YtjdikhelabibnaaGreat
open Go.RowKit Go.Shelf
attribute [local go_sem] Oper.semAt_some
theorem own_type10 {w : World} {base g n c m : Nat} {xs : List Value} (h : w.ownsRow base 5 1 (.slice (some ⟨g, 0, none⟩) n c) m xs) : ∃ cur, w.heap[g]? = some (.cells cur 5 (0, 0)) := by
 rcases h.2 with ⟨h', -⟩ | ⟨q, cap, cur, h1, -, h3, -⟩
 ·cases h'
 cases h1; exact ⟨cur, h3⟩
set_option maxRecDepth 100000 in
set_option maxHeartbeats 8000000 in
theorem put_sevqE (atf C B off m : Nat) (d : List Nat) (a : Option Addr) (g n c : Nat) (zs : List Int) (w : World) (hn : n ≤ 1000) (hl : zs.length = n) (hnc : n ≤ c ∧ c ≤ n) (hr : Row w a g zs) (he : Ent10 atf) (hat : AtS atf off m) (hm : m ≤ 100) (hd : d.length = m) (hb : ∀ j, cf d j < 256)
  (hC : w.cell? ⟨C, 0, none⟩ = some (.func (.func atf) #[] #[])) (hB : ∀ j, j < m → w.cell? ⟨B, off + j, none⟩ = some (.int .u8 ((cf d j : Nat) : Int))) :
  Calls Tryz.prog 126 #[.slice a n c, .pointer (some ⟨B, 0, none⟩), .pointer (some ⟨C, 0, none⟩)] w fun e w' => ∃ a' g' c', e = .returned (.slice a' (n + m) c') ∧ (n + m ≤ c' ∧ c' ≤ n + m) ∧ Row w' a' g' (zs ++ ints d) ∧ Kp [] w w' := by
 have HR := hide hr
 have HAT := hide hat
 have HB := hide hB
 have hBlt : 0 < m → B < w.heap.size := fun h => by have := block_lt_of_cell (hB 0 h); simpa using this
 clear hr hat hB
 go_enter Tryz.func126, Tryz.ntmps126
 go_wp2_with fail
 refine (uh HAT B w).mono ?_
 rintro x w1 ⟨rfl, rfl⟩
 go_wp2_with fail
 go_loopw [0, 12] (fun b i wr => ∃ (k : Nat) (a' : Option Addr) (g' c' : Nat), k ≤ m ∧ i = .int .i64 k ∧ b = .slice a' (n + k) c' ∧ (n + k ≤ c' ∧ c' ≤ n + k) ∧ Kp [] w1 wr ∧ Row wr a' g' (zs ++ ints (d.take k))) (fun _ i _ => m - (intOf i).toNat)
 case atStart => exact ⟨0, a, g, c, by omega, rfl, rfl, hnc, Kp.refl _ _, by simpa [ints] using uh HR⟩
 case round =>
  obtain ⟨k, a', g', c', hk, rfl, rfl, hkc, hK, hr⟩ := hrel
  have HK := hide hK
  have HR1 := hide hr
  clear hK hr
  by_cases hlt : k < m
  ·have hk' : k < d.length := by omega
   have hc0 : wr.cell? ⟨B, off + k, none⟩ = some (.int .u8 ((cf d k : Nat) : Int)) := (uh HK).cell (uh HB k hlt) (by simp)
   go_wp2_with fail
   refine (byte_any a' g' (n + k) c' _ (zs ++ ints (d.take k)) _ (by omega) (by rw [List.length_append, hl]; simp [ints]; omega) (uh HR1)).mono ?_
   rintro x w2 ⟨q, rfl, hq, ho, hk2⟩
   have HR2 := hide (row_of_owns ho)
   have HK2 : Hid (Kp [] w1 w2) := (uh HK).trans hk2 (by simp)
   clear ho hk2 hc0
   go_wp2
   go_roundw
   case rel =>
    refine ⟨k + 1, some ⟨q, 0, none⟩, q, n + k + 1, by omega, by go_num, rfl, by omega, uh HK2, ?_⟩
    rw [ints_take10 hk', ← List.append_assoc, ← by8_one10 (hb k)]
    exact uh HR2
   case measure => simp [intOf]; omega
  have : k = m := by omega
  subst this
  go_wp2
  go_ret
  refine ⟨a', g', c', rfl, hkc, ?_, uh HK⟩
  have := uh HR1
  rwa [List.take_of_length_le (by omega)] at this
set_option maxRecDepth 100000 in
set_option maxHeartbeats 8000000 in
theorem put_sevqT (atf C B off m : Nat) (d : List Nat) (a : Option Addr) (g n c : Nat) (zs : List Int) (w : World) (hn : n ≤ 1000) (hl : zs.length = n) (hnc : n ≤ c ∧ c ≤ n) (hr : Row w a g zs) (he : Ent10 atf) (hat : AtS atf off m) (hm : m ≤ 100) (hd : d.length = m) (hb : ∀ j, cf d j < 256)
  (hC : w.cell? ⟨C, 0, none⟩ = some (.func (.func atf) #[] #[])) (hB : ∀ j, j < m → w.cell? ⟨B, off + j, none⟩ = some (.int .u8 ((cf d j : Nat) : Int))) :
  Calls Tryz.prog 128 #[.slice a n c, .pointer (some ⟨B, 0, none⟩), .pointer (some ⟨C, 0, none⟩)] w fun e w' => ∃ a' g' c', e = .returned (.slice a' (n + m) c') ∧ (n + m ≤ c' ∧ c' ≤ n + m) ∧ Row w' a' g' (zs ++ ints d) ∧ Kp [] w w' ∧ (0 < m → ∃ cur, w'.heap[g']? = some (.cells cur 5 (0, 0))) := by
 have HR := hide hr
 have HAT := hide hat
 have HB := hide hB
 have hBlt : 0 < m → B < w.heap.size := fun h => by have := block_lt_of_cell (hB 0 h); simpa using this
 clear hr hat hB
 go_enter Tryz.func128, Tryz.ntmps128
 go_wp2_with fail
 refine (uh HAT B w).mono ?_
 rintro x w1 ⟨rfl, rfl⟩
 go_wp2_with fail
 go_loopw [0, 12] (fun b i wr => ∃ (k : Nat) (a' : Option Addr) (g' c' : Nat), k ≤ m ∧ i = .int .i64 k ∧ b = .slice a' (n + k) c' ∧ (n + k ≤ c' ∧ c' ≤ n + k) ∧ Kp [] w1 wr ∧ Row wr a' g' (zs ++ ints (d.take k)) ∧ (0 < k → ∃ cur, wr.heap[g']? = some (.cells cur 5 (0, 0)))) (fun _ i _ => m - (intOf i).toNat)
 case atStart => exact ⟨0, a, g, c, by omega, rfl, rfl, hnc, Kp.refl _ _, by simpa [ints] using uh HR, fun h => absurd h (by omega)⟩
 case round =>
  obtain ⟨k, a', g', c', hk, rfl, rfl, hkc, hK, hr, hty⟩ := hrel
  have HTY := hide hty
  clear hty
  have HK := hide hK
  have HR1 := hide hr
  clear hK hr
  by_cases hlt : k < m
  ·have hk' : k < d.length := by omega
   have hc0 : wr.cell? ⟨B, off + k, none⟩ = some (.int .u8 ((cf d k : Nat) : Int)) := (uh HK).cell (uh HB k hlt) (by simp)
   go_wp2_with fail
   refine (byte_any a' g' (n + k) c' _ (zs ++ ints (d.take k)) _ (by omega) (by rw [List.length_append, hl]; simp [ints]; omega) (uh HR1)).mono ?_
   rintro x w2 ⟨q, rfl, hq, ho, hk2⟩
   have HR2 := hide (row_of_owns ho)
   have HT2 := hide (own_type10 ho)
   have HK2 : Hid (Kp [] w1 w2) := (uh HK).trans hk2 (by simp)
   clear ho hk2 hc0
   go_wp2
   go_roundw
   case rel =>
    refine ⟨k + 1, some ⟨q, 0, none⟩, q, n + k + 1, by omega, by go_num, rfl, by omega, uh HK2, ?_, fun _ => uh HT2⟩
    rw [ints_take10 hk', ← List.append_assoc, ← by8_one10 (hb k)]
    exact uh HR2
   case measure => simp [intOf]; omega
  have : k = m := by omega
  subst this
  go_wp2
  go_ret
  refine ⟨a', g', c', rfl, hkc, ?_, uh HK, uh HTY⟩
  have := uh HR1
  rwa [List.take_of_length_le (by omega)] at this
set_option maxRecDepth 100000 in
set_option maxHeartbeats 8000000 in
theorem writeH_fit (L : Nat) (c : Nat → Nat) (x0 x1 x2 x3 : Int) (a : Option Addr) (g n cc : Nat) (zs : List Int) (w : World) (hn : n ≤ 100) (hl : zs.length = n) (hnc : n ≤ cc ∧ cc ≤ n) (hr : Row w a g zs) (hL : LayH w L c) :
  Calls Tryz.prog 49 #[.slice (some ⟨L, 0, none⟩) 4 4, .slice a n cc, .agg (headA x0 x1 x2 x3)] w fun e w' => ∃ a' g' c', e = .returned (.slice a' (zs ++ fin10 (owH x0 x1 x2 x3) 4).length c') ∧ ((zs ++ fin10 (owH x0 x1 x2 x3) 4).length ≤ c' ∧ c' ≤ (zs ++ fin10 (owH x0 x1 x2 x3) 4).length) ∧ Row w' a' g' (zs ++ fin10 (owH x0 x1 x2 x3) 4) ∧ Below w.heap.size w w' := by
 have HR := hide hr
 have HL := hide hL
 clear hr hL
 go_enter Tryz.func49, Tryz.ntmps49
 go_wp2_with fail
 obtain ⟨w1, hw1⟩ : ∃ w1, w.alloc (.cells (headA x0 x1 x2 x3) 57) = w1 := ⟨_, rfl⟩
 have HK1 : Hid (Kp [] w w1) := by rw [← hw1]; exact (Kp.refl [] w).alloc _
 have HB : Hid (w1.heap[w.heap.size]? = some (.cells (headA x0 x1 x2 x3) 57 (0, 0))) := by rw [← hw1]; exact World.alloc_heap_new w _
 obtain ⟨B, hB⟩ : ∃ B, w.heap.size = B := ⟨_, rfl⟩
 rw [hw1]
 rw [hB] at HB ⊢
 clear hw1
 subst hl
 go_loopw [1, 11] (fun b i wr => ∃ (k : Nat) (a' : Option Addr) (g' c' N : Nat), k ≤ 4 ∧ i = .int .i64 k ∧ b = .slice a' N c' ∧ (zs ++ fin10 (owH x0 x1 x2 x3) k).length = N ∧ (N ≤ c' ∧ c' ≤ N) ∧ Kp [] w1 wr ∧ Row wr a' g' (zs ++ fin10 (owH x0 x1 x2 x3) k)) (fun _ i _ => 4 - (intOf i).toNat)
 case atStart => exact ⟨0, a, g, cc, zs.length, by omega, rfl, rfl, by simp [fin10], hnc, Kp.refl _ _, by simpa [fin10] using (uh HR).keep (uh HK1) (by simp)⟩
 case round =>
  obtain ⟨k, a', g', c', N, hk, rfl, rfl, hN, hNc, hK, hr⟩ := hrel
  have HN := hide hN
  clear hN
  have HK := hide hK
  have HR1 := hide hr
  have HB1 := hide (hK.heap (uh HB) (by simp))
  have HL1 := hide (((uh HL).keep (uh HK1).below).keep hK.below)
  clear hK hr
  by_cases hlt : k < 4
  ·match k, hlt with
   | 0, _ =>
    have q0 : wr.cell? ⟨L, 0, none⟩ = some (.func (.func 114) #[] #[.pointer (some ⟨c 0, 0, none⟩)]) := cell_blk (uh HL1).blk rfl
    have q1 : wr.cell? ⟨L, 1, none⟩ = some (.func (.func 116) #[] #[.pointer (some ⟨c 0, 0, none⟩)]) := cell_blk (uh HL1).blk rfl
    have HLN : Hid (N ≤ 200) := by
     rw [← uh HN, List.length_append]
     have : (fin10 (owH x0 x1 x2 x3) 0).length = 0 := by simp [fin10]
     unfold Hid
     omega
    go_wp2_with fail
    refine (put_numH 78 (c 0) B 0 x0 a' g' N c' (zs ++ fin10 (owH x0 x1 x2 x3) 0) _ (by have := uh HLN; omega) (uh HN) ((uh HR1).keep ((Kp.refl [] wr).alloc _) (by simp)) at_h0.1 at_h0.2 (((Kp.refl [] wr).alloc _).cell (uh HL1).c0 (by simp)) (((Kp.refl [] wr).alloc _).cell (cell_blk (uh HB1) rfl) (by simp))).mono ?_
    rintro x w2 ⟨q, rfl, hq, ho, hk2⟩
    have HR2 := hide (row_of_owns ho)
    have HK2 : Hid (Kp [] w1 w2) := ((uh HK).alloc _).trans hk2 (by simp)
    clear ho hk2
    go_wp2
    go_roundw
    case rel => exact ⟨1, some ⟨q, 0, none⟩, q, _, _, by omega, by go_num, rfl, by rw [fin_succ _ rfl, ← List.append_assoc, List.length_append, uh HN]; first | rfl | rw [by8_length] | (simp [ints, hd]), ⟨Nat.le_refl _, Nat.le_refl _⟩, uh HK2, by rw [fin_succ _ rfl, ← List.append_assoc]; exact uh HR2⟩
    case measure => simp [intOf] <;> omega
   | 1, _ =>
    have q0 : wr.cell? ⟨L, 2, none⟩ = some (.func (.func 118) #[] #[.pointer (some ⟨c 1, 0, none⟩)]) := cell_blk (uh HL1).blk rfl
    have q1 : wr.cell? ⟨L, 3, none⟩ = some (.func (.func 120) #[] #[.pointer (some ⟨c 1, 0, none⟩)]) := cell_blk (uh HL1).blk rfl
    have HLN : Hid (N ≤ 200) := by
     rw [← uh HN, List.length_append]
     have : (fin10 (owH x0 x1 x2 x3) 1).length = 8 := by simp [fin10, owH, by8_length]
     unfold Hid
     omega
    go_wp2_with fail
    refine (put_lowH 80 (c 1) B 1 x1 a' g' N c' (zs ++ fin10 (owH x0 x1 x2 x3) 1) _ (by have := uh HLN; omega) (uh HN) ((uh HR1).keep ((Kp.refl [] wr).alloc _) (by simp)) at_h1.1 at_h1.2 (((Kp.refl [] wr).alloc _).cell (uh HL1).c1 (by simp)) (((Kp.refl [] wr).alloc _).cell (cell_blk (uh HB1) rfl) (by simp))).mono ?_
    rintro x w2 ⟨q, rfl, hq, ho, hk2⟩
    have HR2 := hide (row_of_owns ho)
    have HK2 : Hid (Kp [] w1 w2) := ((uh HK).alloc _).trans hk2 (by simp)
    clear ho hk2
    go_wp2
    go_roundw
    case rel => exact ⟨2, some ⟨q, 0, none⟩, q, _, _, by omega, by go_num, rfl, by rw [fin_succ _ rfl, ← List.append_assoc, List.length_append, uh HN]; first | rfl | rw [by8_length] | (simp [ints, hd]), ⟨Nat.le_refl _, Nat.le_refl _⟩, uh HK2, by rw [fin_succ _ rfl, ← List.append_assoc]; exact uh HR2⟩
    case measure => simp [intOf] <;> omega
   | 2, _ =>
    have q0 : wr.cell? ⟨L, 4, none⟩ = some (.func (.func 118) #[] #[.pointer (some ⟨c 2, 0, none⟩)]) := cell_blk (uh HL1).blk rfl
    have q1 : wr.cell? ⟨L, 5, none⟩ = some (.func (.func 120) #[] #[.pointer (some ⟨c 2, 0, none⟩)]) := cell_blk (uh HL1).blk rfl
    have HLN : Hid (N ≤ 200) := by
     rw [← uh HN, List.length_append]
     have : (fin10 (owH x0 x1 x2 x3) 2).length = 9 := by simp [fin10, owH, by8_length]
     unfold Hid
     omega
    go_wp2_with fail
    refine (put_lowH 81 (c 2) B 2 x2 a' g' N c' (zs ++ fin10 (owH x0 x1 x2 x3) 2) _ (by have := uh HLN; omega) (uh HN) ((uh HR1).keep ((Kp.refl [] wr).alloc _) (by simp)) at_h2.1 at_h2.2 (((Kp.refl [] wr).alloc _).cell (uh HL1).c2 (by simp)) (((Kp.refl [] wr).alloc _).cell (cell_blk (uh HB1) rfl) (by simp))).mono ?_
    rintro x w2 ⟨q, rfl, hq, ho, hk2⟩
    have HR2 := hide (row_of_owns ho)
    have HK2 : Hid (Kp [] w1 w2) := ((uh HK).alloc _).trans hk2 (by simp)
    clear ho hk2
    go_wp2
    go_roundw
    case rel => exact ⟨3, some ⟨q, 0, none⟩, q, _, _, by omega, by go_num, rfl, by rw [fin_succ _ rfl, ← List.append_assoc, List.length_append, uh HN]; first | rfl | rw [by8_length] | (simp [ints, hd]), ⟨Nat.le_refl _, Nat.le_refl _⟩, uh HK2, by rw [fin_succ _ rfl, ← List.append_assoc]; exact uh HR2⟩
    case measure => simp [intOf] <;> omega
   | 3, _ =>
    have q0 : wr.cell? ⟨L, 6, none⟩ = some (.func (.func 118) #[] #[.pointer (some ⟨c 3, 0, none⟩)]) := cell_blk (uh HL1).blk rfl
    have q1 : wr.cell? ⟨L, 7, none⟩ = some (.func (.func 120) #[] #[.pointer (some ⟨c 3, 0, none⟩)]) := cell_blk (uh HL1).blk rfl
    have HLN : Hid (N ≤ 200) := by
     rw [← uh HN, List.length_append]
     have : (fin10 (owH x0 x1 x2 x3) 3).length = 10 := by simp [fin10, owH, by8_length]
     unfold Hid
     omega
    go_wp2_with fail
    refine (put_lowH 82 (c 3) B 3 x3 a' g' N c' (zs ++ fin10 (owH x0 x1 x2 x3) 3) _ (by have := uh HLN; omega) (uh HN) ((uh HR1).keep ((Kp.refl [] wr).alloc _) (by simp)) at_h3.1 at_h3.2 (((Kp.refl [] wr).alloc _).cell (uh HL1).c3 (by simp)) (((Kp.refl [] wr).alloc _).cell (cell_blk (uh HB1) rfl) (by simp))).mono ?_
    rintro x w2 ⟨q, rfl, hq, ho, hk2⟩
    have HR2 := hide (row_of_owns ho)
    have HK2 : Hid (Kp [] w1 w2) := ((uh HK).alloc _).trans hk2 (by simp)
    clear ho hk2
    go_wp2
    go_roundw
    case rel => exact ⟨4, some ⟨q, 0, none⟩, q, _, _, by omega, by go_num, rfl, by rw [fin_succ _ rfl, ← List.append_assoc, List.length_append, uh HN]; first | rfl | rw [by8_length] | (simp [ints, hd]), ⟨Nat.le_refl _, Nat.le_refl _⟩, uh HK2, by rw [fin_succ _ rfl, ← List.append_assoc]; exact uh HR2⟩
    case measure => simp [intOf] <;> omega
  have : k = 4 := by omega
  subst this
  go_wp2
  go_ret
  exact ⟨a', g', c', by rw [uh HN]; rfl, by rw [uh HN]; exact hNc, uh HR1, ((uh HK1).trans (uh HK) (by simp)).below⟩
set_option maxRecDepth 100000 in
set_option maxHeartbeats 8000000 in
theorem writeE_fit (L : Nat) (c : Nat → Nat) (x0 x1 x2 : Int) (d : List Nat) (hd : d.length = 16) (hdb : ∀ j, cf d j < 256) (a : Option Addr) (g n cc : Nat) (zs : List Int) (w : World) (hn : n ≤ 100) (hl : zs.length = n) (hnc : n ≤ cc ∧ cc ≤ n) (hr : Row w a g zs) (hL : LayE w L c) :
  Calls Tryz.prog 51 #[.slice (some ⟨L, 0, none⟩) 4 4, .slice a n cc, .agg (entA x0 x1 x2 d)] w fun e w' => ∃ a' g' c', e = .returned (.slice a' (zs ++ fin10 (owE x0 x1 x2 d) 4).length c') ∧ ((zs ++ fin10 (owE x0 x1 x2 d) 4).length ≤ c' ∧ c' ≤ (zs ++ fin10 (owE x0 x1 x2 d) 4).length) ∧ Row w' a' g' (zs ++ fin10 (owE x0 x1 x2 d) 4) ∧ Below w.heap.size w w' := by
 have HR := hide hr
 have HL := hide hL
 clear hr hL
 go_enter Tryz.func51, Tryz.ntmps51
 go_wp2_with fail
 obtain ⟨w1, hw1⟩ : ∃ w1, w.alloc (.cells (entA x0 x1 x2 d) 44) = w1 := ⟨_, rfl⟩
 have HK1 : Hid (Kp [] w w1) := by rw [← hw1]; exact (Kp.refl [] w).alloc _
 have HB : Hid (w1.heap[w.heap.size]? = some (.cells (entA x0 x1 x2 d) 44 (0, 0))) := by rw [← hw1]; exact World.alloc_heap_new w _
 obtain ⟨B, hB⟩ : ∃ B, w.heap.size = B := ⟨_, rfl⟩
 rw [hw1]
 rw [hB] at HB ⊢
 clear hw1
 subst hl
 go_loopw [1, 11] (fun b i wr => ∃ (k : Nat) (a' : Option Addr) (g' c' N : Nat), k ≤ 4 ∧ i = .int .i64 k ∧ b = .slice a' N c' ∧ (zs ++ fin10 (owE x0 x1 x2 d) k).length = N ∧ (N ≤ c' ∧ c' ≤ N) ∧ Kp [] w1 wr ∧ Row wr a' g' (zs ++ fin10 (owE x0 x1 x2 d) k)) (fun _ i _ => 4 - (intOf i).toNat)
 case atStart => exact ⟨0, a, g, cc, zs.length, by omega, rfl, rfl, by simp [fin10], hnc, Kp.refl _ _, by simpa [fin10] using (uh HR).keep (uh HK1) (by simp)⟩
 case round =>
  obtain ⟨k, a', g', c', N, hk, rfl, rfl, hN, hNc, hK, hr⟩ := hrel
  have HN := hide hN
  clear hN
  have HK := hide hK
  have HR1 := hide hr
  have HB1 := hide (hK.heap (uh HB) (by simp))
  have HL1 := hide (((uh HL).keep (uh HK1).below).keep hK.below)
  clear hK hr
  by_cases hlt : k < 4
  ·match k, hlt with
   | 0, _ =>
    have q0 : wr.cell? ⟨L, 0, none⟩ = some (.func (.func 122) #[] #[.pointer (some ⟨c 0, 0, none⟩)]) := cell_blk (uh HL1).blk rfl
    have q1 : wr.cell? ⟨L, 1, none⟩ = some (.func (.func 123) #[] #[.pointer (some ⟨c 0, 0, none⟩)]) := cell_blk (uh HL1).blk rfl
    have HLN : Hid (N ≤ 200) := by
     rw [← uh HN, List.length_append]
     have : (fin10 (owE x0 x1 x2 d) 0).length = 0 := by simp [fin10]
     unfold Hid
     omega
    go_wp2_with fail
    refine (put_lowE 84 (c 0) B 0 x0 a' g' N c' (zs ++ fin10 (owE x0 x1 x2 d) 0) _ (by have := uh HLN; omega) (uh HN) ((uh HR1).keep ((Kp.refl [] wr).alloc _) (by simp)) at_e0.1 at_e0.2 (((Kp.refl [] wr).alloc _).cell (uh HL1).c0 (by simp)) (((Kp.refl [] wr).alloc _).cell (cell_blk (uh HB1) rfl) (by simp))).mono ?_
    rintro x w2 ⟨q, rfl, hq, ho, hk2⟩
    have HR2 := hide (row_of_owns ho)
    have HK2 : Hid (Kp [] w1 w2) := ((uh HK).alloc _).trans hk2 (by simp)
    clear ho hk2
    go_wp2
    go_roundw
    case rel => exact ⟨1, some ⟨q, 0, none⟩, q, _, _, by omega, by go_num, rfl, by rw [fin_succ _ rfl, ← List.append_assoc, List.length_append, uh HN]; first | rfl | rw [by8_length] | (simp [ints, hd]), ⟨Nat.le_refl _, Nat.le_refl _⟩, uh HK2, by rw [fin_succ _ rfl, ← List.append_assoc]; exact uh HR2⟩
    case measure => simp [intOf] <;> omega
   | 1, _ =>
    have q0 : wr.cell? ⟨L, 2, none⟩ = some (.func (.func 124) #[] #[.pointer (some ⟨c 1, 0, none⟩)]) := cell_blk (uh HL1).blk rfl
    have q1 : wr.cell? ⟨L, 3, none⟩ = some (.func (.func 125) #[] #[.pointer (some ⟨c 1, 0, none⟩)]) := cell_blk (uh HL1).blk rfl
    have HLN : Hid (N ≤ 200) := by
     rw [← uh HN, List.length_append]
     have : (fin10 (owE x0 x1 x2 d) 1).length = 1 := by simp [fin10, owE, by8_length]
     unfold Hid
     omega
    go_wp2_with fail
    refine (put_numE 86 (c 1) B 1 x1 a' g' N c' (zs ++ fin10 (owE x0 x1 x2 d) 1) _ (by have := uh HLN; omega) (uh HN) ((uh HR1).keep ((Kp.refl [] wr).alloc _) (by simp)) at_e1.1 at_e1.2 (((Kp.refl [] wr).alloc _).cell (uh HL1).c1 (by simp)) (((Kp.refl [] wr).alloc _).cell (cell_blk (uh HB1) rfl) (by simp))).mono ?_
    rintro x w2 ⟨q, rfl, hq, ho, hk2⟩
    have HR2 := hide (row_of_owns ho)
    have HK2 : Hid (Kp [] w1 w2) := ((uh HK).alloc _).trans hk2 (by simp)
    clear ho hk2
    go_wp2
    go_roundw
    case rel => exact ⟨2, some ⟨q, 0, none⟩, q, _, _, by omega, by go_num, rfl, by rw [fin_succ _ rfl, ← List.append_assoc, List.length_append, uh HN]; first | rfl | rw [by8_length] | (simp [ints, hd]), ⟨Nat.le_refl _, Nat.le_refl _⟩, uh HK2, by rw [fin_succ _ rfl, ← List.append_assoc]; exact uh HR2⟩
    case measure => simp [intOf] <;> omega
   | 2, _ =>
    have q0 : wr.cell? ⟨L, 4, none⟩ = some (.func (.func 124) #[] #[.pointer (some ⟨c 2, 0, none⟩)]) := cell_blk (uh HL1).blk rfl
    have q1 : wr.cell? ⟨L, 5, none⟩ = some (.func (.func 125) #[] #[.pointer (some ⟨c 2, 0, none⟩)]) := cell_blk (uh HL1).blk rfl
    have HLN : Hid (N ≤ 200) := by
     rw [← uh HN, List.length_append]
     have : (fin10 (owE x0 x1 x2 d) 2).length = 9 := by simp [fin10, owE, by8_length]
     unfold Hid
     omega
    go_wp2_with fail
    refine (put_numE 87 (c 2) B 2 x2 a' g' N c' (zs ++ fin10 (owE x0 x1 x2 d) 2) _ (by have := uh HLN; omega) (uh HN) ((uh HR1).keep ((Kp.refl [] wr).alloc _) (by simp)) at_e2.1 at_e2.2 (((Kp.refl [] wr).alloc _).cell (uh HL1).c2 (by simp)) (((Kp.refl [] wr).alloc _).cell (cell_blk (uh HB1) rfl) (by simp))).mono ?_
    rintro x w2 ⟨q, rfl, hq, ho, hk2⟩
    have HR2 := hide (row_of_owns ho)
    have HK2 : Hid (Kp [] w1 w2) := ((uh HK).alloc _).trans hk2 (by simp)
    clear ho hk2
    go_wp2
    go_roundw
    case rel => exact ⟨3, some ⟨q, 0, none⟩, q, _, _, by omega, by go_num, rfl, by rw [fin_succ _ rfl, ← List.append_assoc, List.length_append, uh HN]; first | rfl | rw [by8_length] | (simp [ints, hd]), ⟨Nat.le_refl _, Nat.le_refl _⟩, uh HK2, by rw [fin_succ _ rfl, ← List.append_assoc]; exact uh HR2⟩
    case measure => simp [intOf] <;> omega
   | 3, _ =>
    have q0 : wr.cell? ⟨L, 6, none⟩ = some (.func (.func 126) #[] #[.pointer (some ⟨c 3, 0, none⟩)]) := cell_blk (uh HL1).blk rfl
    have q1 : wr.cell? ⟨L, 7, none⟩ = some (.func (.func 127) #[] #[.pointer (some ⟨c 3, 0, none⟩)]) := cell_blk (uh HL1).blk rfl
    have HLN : Hid (N ≤ 200) := by
     rw [← uh HN, List.length_append]
     have : (fin10 (owE x0 x1 x2 d) 3).length = 17 := by simp [fin10, owE, by8_length]
     unfold Hid
     omega
    go_wp2_with fail
    refine (put_sevqE 89 (c 3) B 3 16 d a' g' N c' (zs ++ fin10 (owE x0 x1 x2 d) 3) _ (by have := uh HLN; omega) (uh HN) hNc ((uh HR1).keep ((Kp.refl [] wr).alloc _) (by simp)) at_e3.1 at_e3.2 (by omega) hd hdb (((Kp.refl [] wr).alloc _).cell (uh HL1).c3 (by simp)) (fun j hj => ((Kp.refl [] wr).alloc _).cell (cell_blk (uh HB1) ((entA_d _ _ _ _ j).trans (datL_get (by omega)))) (by simp))).mono ?_
    rintro x w2 ⟨a2, g2, c2, rfl, hc2, hr2, hk2⟩
    have HR2 := hide hr2
    have HK2 : Hid (Kp [] w1 w2) := ((uh HK).alloc _).trans hk2 (by simp)
    clear hr2 hk2
    go_wp2
    go_roundw
    case rel => exact ⟨4, a2, g2, c2, _, by omega, by go_num, rfl, by rw [fin_succ _ rfl, ← List.append_assoc, List.length_append, uh HN]; first | rfl | rw [by8_length] | (simp [ints, hd]), hc2, uh HK2, by rw [fin_succ _ rfl, ← List.append_assoc]; exact uh HR2⟩
    case measure => simp [intOf] <;> omega
  have : k = 4 := by omega
  subst this
  go_wp2
  go_ret
  exact ⟨a', g', c', by rw [uh HN]; rfl, by rw [uh HN]; exact hNc, uh HR1, ((uh HK1).trans (uh HK) (by simp)).below⟩
set_option maxRecDepth 100000 in
set_option maxHeartbeats 8000000 in
theorem writeT_fit (L : Nat) (c : Nat → Nat) (d : List Nat) (hd : d.length = 4) (hdb : ∀ j, cf d j < 256) (a : Option Addr) (g n cc : Nat) (zs : List Int) (w : World) (hn : n ≤ 100) (hl : zs.length = n) (hnc : n ≤ cc ∧ cc ≤ n) (hr : Row w a g zs) (hL : LayT w L c) :
  Calls Tryz.prog 53 #[.slice (some ⟨L, 0, none⟩) 1 1, .slice a n cc, .agg (tailA d)] w fun e w' => ∃ a' g' c', e = .returned (.slice a' (zs ++ fin10 (owT d) 1).length c') ∧ ((zs ++ fin10 (owT d) 1).length ≤ c' ∧ c' ≤ (zs ++ fin10 (owT d) 1).length) ∧ Row w' a' g' (zs ++ fin10 (owT d) 1) ∧ Below w.heap.size w w' ∧ ∃ cur, w'.heap[g']? = some (.cells cur 5 (0, 0)) := by
 have HR := hide hr
 have HL := hide hL
 clear hr hL
 go_enter Tryz.func53, Tryz.ntmps53
 go_wp2_with fail
 obtain ⟨w1, hw1⟩ : ∃ w1, w.alloc (.cells (tailA d) 101) = w1 := ⟨_, rfl⟩
 have HK1 : Hid (Kp [] w w1) := by rw [← hw1]; exact (Kp.refl [] w).alloc _
 have HB : Hid (w1.heap[w.heap.size]? = some (.cells (tailA d) 101 (0, 0))) := by rw [← hw1]; exact World.alloc_heap_new w _
 obtain ⟨B, hB⟩ : ∃ B, w.heap.size = B := ⟨_, rfl⟩
 rw [hw1]
 rw [hB] at HB ⊢
 clear hw1
 subst hl
 go_loopw [1, 11] (fun b i wr => ∃ (k : Nat) (a' : Option Addr) (g' c' N : Nat), k ≤ 1 ∧ i = .int .i64 k ∧ b = .slice a' N c' ∧ (zs ++ fin10 (owT d) k).length = N ∧ (N ≤ c' ∧ c' ≤ N) ∧ Kp [] w1 wr ∧ Row wr a' g' (zs ++ fin10 (owT d) k) ∧ (0 < k → ∃ cur, wr.heap[g']? = some (.cells cur 5 (0, 0)))) (fun _ i _ => 1 - (intOf i).toNat)
 case atStart => exact ⟨0, a, g, cc, zs.length, by omega, rfl, rfl, by simp [fin10], hnc, Kp.refl _ _, by simpa [fin10] using (uh HR).keep (uh HK1) (by simp), fun h => absurd h (by omega)⟩
 case round =>
  obtain ⟨k, a', g', c', N, hk, rfl, rfl, hN, hNc, hK, hr, hty⟩ := hrel
  have HTY := hide hty
  clear hty
  have HN := hide hN
  clear hN
  have HK := hide hK
  have HR1 := hide hr
  have HB1 := hide (hK.heap (uh HB) (by simp))
  have HL1 := hide (((uh HL).keep (uh HK1).below).keep hK.below)
  clear hK hr
  by_cases hlt : k < 1
  ·match k, hlt with
   | 0, _ =>
    have q0 : wr.cell? ⟨L, 0, none⟩ = some (.func (.func 128) #[] #[.pointer (some ⟨c 0, 0, none⟩)]) := cell_blk (uh HL1).blk rfl
    have q1 : wr.cell? ⟨L, 1, none⟩ = some (.func (.func 129) #[] #[.pointer (some ⟨c 0, 0, none⟩)]) := cell_blk (uh HL1).blk rfl
    have HLN : Hid (N ≤ 200) := by
     rw [← uh HN, List.length_append]
     have : (fin10 (owT d) 0).length = 0 := by simp [fin10]
     unfold Hid
     omega
    go_wp2_with fail
    refine (put_sevqT 91 (c 0) B 0 4 d a' g' N c' (zs ++ fin10 (owT d) 0) _ (by have := uh HLN; omega) (uh HN) hNc ((uh HR1).keep ((Kp.refl [] wr).alloc _) (by simp)) at_t0.1 at_t0.2 (by omega) hd hdb (((Kp.refl [] wr).alloc _).cell (uh HL1).c0 (by simp)) (fun j hj => ((Kp.refl [] wr).alloc _).cell (cell_blk (uh HB1) ((by rw [tailA, Nat.zero_add, List.getElem?_toArray]; exact datL_get (by omega)))) (by simp))).mono ?_
    rintro x w2 ⟨a2, g2, c2, rfl, hc2, hr2, hk2, ht2⟩
    have HT2 := hide (ht2 (by omega))
    clear ht2
    have HR2 := hide hr2
    have HK2 : Hid (Kp [] w1 w2) := ((uh HK).alloc _).trans hk2 (by simp)
    clear hr2 hk2
    go_wp2
    go_roundw
    case rel => exact ⟨1, a2, g2, c2, _, by omega, by go_num, rfl, by rw [fin_succ _ rfl, ← List.append_assoc, List.length_append, uh HN]; first | rfl | rw [by8_length] | (simp [ints, hd]), hc2, uh HK2, by rw [fin_succ _ rfl, ← List.append_assoc]; exact uh HR2, fun _ => uh HT2⟩
    case measure => simp [intOf] <;> omega
  have : k = 1 := by omega
  subst this
  go_wp2
  go_ret
  exact ⟨a', g', c', by rw [uh HN]; rfl, by rw [uh HN]; exact hNc, uh HR1, ((uh HK1).trans (uh HK) (by simp)).below, uh HTY (by omega)⟩
set_option maxRecDepth 100000 in
set_option maxHeartbeats 8000000 in
theorem bytes_fit (x0 x1 x2 x3 k l s : Int) (d : List Nat) (hd : d.length = 16) (hdb : ∀ j, cf d j < 256) (w : World) : Calls Tryz.prog 26 #[.agg (headA x0 x1 x2 x3), .agg (entA k l s d)] w fun e w' =>
  ∃ a g c, e = .returned (.slice a 48 c) ∧ (48 ≤ c ∧ c ≤ 48) ∧ Row w' a g (byT x0 x1 x2 x3 k l s d) ∧ Below w.heap.size w w' ∧ ∃ cur, w'.heap[g]? = some (.cells cur 5 (0, 0)) := by
 obtain ⟨w1, hw1⟩ : ∃ w1, (w.alloc (.cells (headA x0 x1 x2 x3) 57)).alloc (.cells (entA k l s d) 44) = w1 := ⟨_, rfl⟩
 have HT : Hid (Below w.heap.size w w1) := by rw [← hw1]; exact ((Below.refl _ w).alloc (Nat.le_refl _) _).alloc (by simp) _
 have HBH : Hid (AtB w1 w.heap.size (headA x0 x1 x2 x3) 57) := ⟨by rw [← hw1]; exact (Below.heap_alloc _ _ _ (by simp)).trans (World.alloc_heap_new w _)⟩
 have HBE : Hid (AtB w1 (w.heap.size + 1) (entA k l s d) 44) := ⟨by
  rw [← hw1]
  have := World.alloc_heap_new (w.alloc (.cells (headA x0 x1 x2 x3) 57)) (.cells (entA k l s d) 44)
  rwa [World.size_alloc] at this⟩
 have HW := hide hw1
 clear hw1
 go_enter Tryz.func26, Tryz.ntmps26
 go_wp2_with fail
 rw [uh HW]
 replace HT := hide ((uh HT).drew)
 replace HBH := hide ((uh HBH).below (Below.refl _ _).drew)
 replace HBE := hide ((uh HBE).below (Below.refl _ _).drew)
 refine wp_region_noPanic ?_
 refine wp_region_held_drew (S := fun W => Below w1.drew.heap.size w1.drew W) (by kernel_rfl) (Below.refl _ _) (fun hHeld => ?_)
 have HH := hide hHeld
 clear hHeld
 generalize w1.drew = w11 at HT HBH HBE HH ⊢
 refine takeL (i := 1) (v := .agg (headA x0 x1 x2 x3)) rfl (by kernel_rfl) (by kernel_rfl) (by kernel_rfl) (fun _ _ _ h => h) (Or.inl ⟨by rfl, fun W1 hSW => run_load_agg9 rfl rfl (load_TH ((uh HBH).below hSW).blk rfl)⟩) (uh HH) ?_
 (try simp only [layB])
 refine wpAnyH_ready (rs := [0]) (by kernel_rfl) (by simp) ?_
 refine consL rfl (fun K hK => ?_) AllReadyH.nil
 go_simp
 refine (layH_any _).mono ?_
 rintro e w12 ⟨L12, c12, rfl, hly, -, -, hk⟩
 have HLY12 := hide hly
 clear hly
 replace HBH := hide ((uh HBH).below hk)
 replace HBE := hide ((uh HBE).below hk)
 replace HT := hide ((uh HT).trans (hk.mono (uh HT).size))
 refine hK.out _ _ hk (fun hHeld => ?_)
 clear hK K HH hHeld
 (try simp only [layB])
 refine stronger (S' := fun W => Below w12.heap.size w12 W) (fun W h => hk.trans (h.mono hk.size)) _ _ _ _ ?_
 have HH : Hid (Below w12.heap.size w12 w12) := Below.refl _ _
 clear hk
 refine wpAnyH_ready (rs := [2]) (by kernel_rfl) (by simp) ?_
 refine consL rfl (fun K hK => ?_) AllReadyH.nil
 go_simp
 refine (writeH_fit L12 c12 x0 x1 x2 x3 none 0 0 0 [] _ (by omega) rfl ⟨Nat.le_refl _, Nat.le_refl _⟩ (.inl rfl) (uh HLY12)).mono ?_
 rintro e w13 ⟨a13, g13, d13, rfl, hcp, hrw, hk⟩
 obtain ⟨N13, hN13⟩ : ∃ N, ([] ++ fin10 (owH x0 x1 x2 x3) 4).length = N := ⟨_, rfl⟩
 have HRW13 := hide hrw
 have HN13 := hide hN13
 have HCP13 := hide hcp
 rw [hN13] at HCP13
 clear hcp
 rw [hN13]
 clear hrw hN13
 replace HBH := hide ((uh HBH).below hk)
 replace HBE := hide ((uh HBE).below hk)
 replace HLY12 := hide ((uh HLY12).below hk)
 replace HT := hide ((uh HT).trans (hk.mono (uh HT).size))
 refine hK.out _ _ hk (fun hHeld => ?_)
 clear hK K HH hHeld
 (try simp only [layB])
 refine stronger (S' := fun W => Below w13.heap.size w13 W) (fun W h => hk.trans (h.mono hk.size)) _ _ _ _ ?_
 have HH : Hid (Below w13.heap.size w13 w13) := Below.refl _ _
 clear hk
 refine tkL 3 (uh HH) ?_
 (try simp only [layB])
 refine wpAnyH_done (by kernel_rfl) ?_ _
 refine NoPanic.normal ?_
 go_wp2_with fail
 replace HT := hide ((uh HT).drew)
 replace HBH := hide ((uh HBH).below (Below.refl _ _).drew)
 replace HBE := hide ((uh HBE).below (Below.refl _ _).drew)
 replace HLY12 := hide ((uh HLY12).below (Below.refl _ _).drew)
 replace HRW13 := hide ((uh HRW13).below (Below.refl _ _).drew)
 refine wp_region_noPanic ?_
 refine wp_region_held_drew (S := fun W => Below w13.drew.heap.size w13.drew W) (by kernel_rfl) (Below.refl _ _) (fun hHeld => ?_)
 have HH := hide hHeld
 clear hHeld
 generalize w13.drew = w14 at HT HBH HBE HLY12 HRW13 HH ⊢
 refine tkL 1 (uh HH) ?_
 (try simp only [layB])
 refine takeL (i := 2) (v := .agg (entA k l s d)) rfl (by kernel_rfl) (by kernel_rfl) (by kernel_rfl) (fun _ _ _ h => h) (Or.inl ⟨by rfl, fun W1 hSW => run_load_agg9 rfl rfl (load_TE ((uh HBE).below hSW).blk (entA_size hd))⟩) (uh HH) ?_
 (try simp only [layB])
 refine wpAnyH_ready (rs := [0]) (by kernel_rfl) (by simp) ?_
 refine consL rfl (fun K hK => ?_) AllReadyH.nil
 go_simp
 refine (layE_any _).mono ?_
 rintro e w15 ⟨L15, c15, rfl, hly, -, -, hk⟩
 have HLY15 := hide hly
 clear hly
 replace HBH := hide ((uh HBH).below hk)
 replace HBE := hide ((uh HBE).below hk)
 replace HLY12 := hide ((uh HLY12).below hk)
 replace HRW13 := hide ((uh HRW13).below hk)
 replace HT := hide ((uh HT).trans (hk.mono (uh HT).size))
 refine hK.out _ _ hk (fun hHeld => ?_)
 clear hK K HH hHeld
 (try simp only [layB])
 refine stronger (S' := fun W => Below w15.heap.size w15 W) (fun W h => hk.trans (h.mono hk.size)) _ _ _ _ ?_
 have HH : Hid (Below w15.heap.size w15 w15) := Below.refl _ _
 clear hk
 refine wpAnyH_ready (rs := [3]) (by kernel_rfl) (by simp) ?_
 refine consL rfl (fun K hK => ?_) AllReadyH.nil
 go_simp
 refine (writeE_fit L15 c15 k l s d hd hdb a13 g13 N13 d13 ([] ++ fin10 (owH x0 x1 x2 x3) 4) _ (by have := uh HN13; have := lenH10 x0 x1 x2 x3; omega) (uh HN13) (uh HCP13) (uh HRW13) (uh HLY15)).mono ?_
 rintro e w16 ⟨a16, g16, d16, rfl, hcp, hrw, hk⟩
 obtain ⟨N16, hN16⟩ : ∃ N, (([] ++ fin10 (owH x0 x1 x2 x3) 4) ++ fin10 (owE k l s d) 4).length = N := ⟨_, rfl⟩
 have HRW16 := hide hrw
 have HN16 := hide hN16
 have HCP16 := hide hcp
 rw [hN16] at HCP16
 clear hcp
 rw [hN16]
 clear hrw hN16
 replace HBH := hide ((uh HBH).below hk)
 replace HBE := hide ((uh HBE).below hk)
 replace HLY12 := hide ((uh HLY12).below hk)
 replace HRW13 := hide ((uh HRW13).below hk)
 replace HLY15 := hide ((uh HLY15).below hk)
 replace HT := hide ((uh HT).trans (hk.mono (uh HT).size))
 refine hK.out _ _ hk (fun hHeld => ?_)
 clear hK K HH hHeld
 (try simp only [layB])
 refine stronger (S' := fun W => Below w16.heap.size w16 W) (fun W h => hk.trans (h.mono hk.size)) _ _ _ _ ?_
 have HH : Hid (Below w16.heap.size w16 w16) := Below.refl _ _
 clear hk
 refine tkL 4 (uh HH) ?_
 (try simp only [layB])
 refine wpAnyH_done (by kernel_rfl) ?_ _
 refine NoPanic.normal ?_
 go_wp2_with fail
 refine (layT_any _).mono ?_
 rintro e w17 ⟨L17, c17, rfl, hly, -, -, hk⟩
 have HLY17 := hide hly
 clear hly
 replace HBH := hide ((uh HBH).below hk)
 replace HBE := hide ((uh HBE).below hk)
 replace HLY12 := hide ((uh HLY12).below hk)
 replace HRW13 := hide ((uh HRW13).below hk)
 replace HLY15 := hide ((uh HLY15).below hk)
 replace HRW16 := hide ((uh HRW16).below hk)
 replace HT := hide ((uh HT).trans (hk.mono (uh HT).size))
 clear hk
 go_wp2_with fail
 refine (writeT_fit L17 c17 [0, 0, 0, 0] rfl (by intro j; match j with | 0 => decide | 1 => decide | 2 => decide | 3 => decide | j + 4 => simp [cf]) a16 g16 N16 d16 (([] ++ fin10 (owH x0 x1 x2 x3) 4) ++ fin10 (owE k l s d) 4) _ (by have := uh HN16; have := lenE10 x0 x1 x2 x3 k l s d hd; omega) (uh HN16) (uh HCP16) (uh HRW16) (uh HLY17)).mono ?_
 rintro e w18 ⟨a18, g18, d18, rfl, hcp, hrw, hk, ht18⟩
 have HT18 := hide ht18
 clear ht18
 obtain ⟨N18, hN18⟩ : ∃ N, ((([] ++ fin10 (owH x0 x1 x2 x3) 4) ++ fin10 (owE k l s d) 4) ++ fin10 (owT [0, 0, 0, 0]) 1).length = N := ⟨_, rfl⟩
 have HRW18 := hide hrw
 have HN18 := hide hN18
 have HCP18 := hide hcp
 rw [hN18] at HCP18
 clear hcp
 rw [hN18]
 clear hrw hN18
 replace HBH := hide ((uh HBH).below hk)
 replace HBE := hide ((uh HBE).below hk)
 replace HLY12 := hide ((uh HLY12).below hk)
 replace HRW13 := hide ((uh HRW13).below hk)
 replace HLY15 := hide ((uh HLY15).below hk)
 replace HRW16 := hide ((uh HRW16).below hk)
 replace HLY17 := hide ((uh HLY17).below hk)
 replace HT := hide ((uh HT).trans (hk.mono (uh HT).size))
 clear hk
 go_wp2
 go_ret
 have hf := fin_all x0 x1 x2 x3 k l s d
 have hf' : (([] ++ fin10 (owH x0 x1 x2 x3) 4) ++ fin10 (owE k l s d) 4) ++ fin10 (owT [0, 0, 0, 0]) 1 = byT x0 x1 x2 x3 k l s d := hf
 have hr9 := uh HRW18
 have hn9 := uh HN18
 rw [hf'] at hr9 hn9
 have hN : N18 = 48 := by rw [← hn9]; exact byW_len hd rfl
 subst hN
 exact ⟨_, _, _, rfl, uh HCP18, hr9, uh HT, uh HT18⟩
end Go.Proofs.YtjdikhelabibnaaGreat

namespace Go.Proofs.YtjdikhelabibnaaGreat
open Go.RowKit Go.Shelf
theorem inBlock_mono {k : Nat} {Q Q' : Exit → Act → World → Prop} (h : ∀ e a w, Q e a w → Q' e a w) : ∀ e a w, Exit.inBlock k Q e a w → Exit.inBlock k Q' e a w := by
 intro e a w hq
 cases e <;> simp only [Exit.inBlock] at hq ⊢ <;> first | exact h _ _ _ hq | (split at hq <;> simp_all) | exact hq
end Go.Proofs.YtjdikhelabibnaaGreat

namespace Go.Proofs.YtjdikhelabibnaaGreat
open Go Go.RowKit Go.Shelf
theorem csets_get (vs : List Value) : ∀ (cs : Array Value) (o j : Nat), o + vs.length ≤ cs.size → (csets cs o vs)[j]? = if o ≤ j ∧ j < o + vs.length then vs[j - o]? else cs[j]? := by
 induction vs with
 | nil => intro cs o j _; rw [if_neg (by simp only [List.length_nil]; omega)]; rfl
 | cons v vs ih =>
  intro cs o j h
  simp only [List.length_cons] at h ⊢
  rw [csets, ih _ _ _ (by rw [Array.size_setIfInBounds]; omega)]
  by_cases h1 : o + 1 ≤ j ∧ j < o + 1 + vs.length
  ·rw [if_pos h1, if_pos (by omega), show j - o = (j - (o + 1)) + 1 from by omega, List.getElem?_cons_succ]
  rw [if_neg h1, Array.getElem?_setIfInBounds]
  by_cases h2 : o = j
  ·subst h2
   rw [if_pos rfl, if_pos (by omega), if_pos (by omega), Nat.sub_self]
   rfl
  rw [if_neg h2, if_neg (by omega)]
theorem setCells_row (g : Nat) (t : TypeId) (fr : Nat × Nat) (vs : List Value) : ∀ (cur : Array Value) (o : Nat) (w : World), w.heap[g]? = some (.cells cur t fr) → w.setCells g o vs = w.setRow g (csets cur o vs) := by
 induction vs with
 | nil => intro cur o w h; exact (setRow_self w g cur t fr h).symm
 | cons v vs ih =>
  intro cur o w h
  rw [World.setCells, setCell_eq_setRow w g o cur t fr v h, ih _ _ _ (setRow_heap w g cur _ t fr h), setRow_setRow]
  rfl
theorem flatMap_eq {α β : Type} {l : List α} {f g : α → List β} (h : ∀ x ∈ l, f x = g x) : l.flatMap f = l.flatMap g := by
 induction l with
 | nil => rfl
 | cons a l ih => rw [List.flatMap_cons, List.flatMap_cons, h a (List.mem_cons_self ..), ih (fun x hx => h x (List.mem_cons_of_mem _ hx))]
def RowM (w : World) (g : Nat) (e : TypeId) (m n : Nat) (f : Nat → List Value) : Prop := ∃ cur, w.heap[g]? = some (.cells cur e (0, 0)) ∧ n * m ≤ cur.size ∧ ∀ i, i < n → (f i).length = m ∧ ∀ j v, (f i)[j]? = some v → cur[i * m + j]? = some v
theorem RowM.of {w w' : World} {g m n : Nat} {e : TypeId} {f : Nat → List Value} (h : RowM w g e m n f) (k : w'.heap[g]? = w.heap[g]?) : RowM w' g e m n f := by
 obtain ⟨cur, h1, h2⟩ := h
 exact ⟨cur, k.trans h1, h2⟩
theorem RowM.lt {w : World} {g m n : Nat} {e : TypeId} {f : Nat → List Value} (h : RowM w g e m n f) : g < w.heap.size := by
 obtain ⟨cur, h1, h2⟩ := h
 exact (Array.getElem?_eq_some_iff.1 h1).1
theorem RowM.below {w w' : World} {g m n k : Nat} {e : TypeId} {f : Nat → List Value} (h : RowM w g e m n f) (b : Below k w w') (hg : g < k) : RowM w' g e m n f := h.of (b.block g hg)
theorem RowM.range {w : World} {g m n : Nat} {e : TypeId} {f : Nat → List Value} (h : RowM w g e m n f) {i : Nat} (hi : i < n) : w.rangeAt g (i * m) (f i) := by
 obtain ⟨cur, h1, h2, h3⟩ := h
 intro j v hv
 exact cell_blk h1 ((h3 i hi).2 j v hv)
theorem RowM.cell {w : World} {g m n : Nat} {e : TypeId} {f : Nat → List Value} (h : RowM w g e m n f) {i j : Nat} (hi : i < n) {v : Value} (hv : (f i)[j]? = some v) : w.cell? ⟨g, i * m + j, none⟩ = some v := h.range hi j v hv
theorem RowM.free {w : World} {g m n : Nat} {e : TypeId} {f : Nat → List Value} (h : RowM w g e m n f) (i : Nat) : w.frozen? ⟨g, i, none⟩ = false := by
 obtain ⟨cur, h1, _⟩ := h
 exact free_blk h1
theorem RowM.there {w : World} {g m n : Nat} {e : TypeId} {f : Nat → List Value} (h : RowM w g e m n f) {i : Nat} (hi : i < n) : w.there g (i * m) m := fun j hj => by
 refine ⟨?_, h.free _⟩
 obtain ⟨cur, h1, h2, h3⟩ := h
 obtain ⟨h4, h5⟩ := h3 i hi
 have := h5 j ((f i)[j]'(by omega)) (List.getElem?_eq_getElem (by omega))
 rw [cell_blk h1 this]
 rfl
theorem RowM.at_lt {m n i : Nat} (hi : i < n) {j : Nat} (hj : j < m) : i * m + j < n * m := by
 have := Nat.mul_le_mul_right m (show i + 1 ≤ n from hi)
 rw [Nat.add_mul, Nat.one_mul] at this
 omega
theorem RowM.ne_at {m i i' j j' : Nat} (hj : j < m) (hj' : j' < m) (h : i ≠ i') : i * m + j ≠ i' * m + j' := by
 intro e
 rcases Nat.lt_or_gt_of_ne h with h | h
 ·have := RowM.at_lt (n := i') h hj
  omega
 have := RowM.at_lt (n := i) h hj'
 omega
theorem RowM.put {w : World} {g m n : Nat} {e : TypeId} {f : Nat → List Value} (h : RowM w g e m n f) {i : Nat} (hi : i < n) (vs : List Value) (hv : vs.length = m) : RowM (w.setCells g (i * m) vs) g e m n (fun k => if k = i then vs else f k) := by
 obtain ⟨cur, h1, h2, h3⟩ := h
 have hsz : i * m + vs.length ≤ cur.size := by
  rcases Nat.eq_zero_or_pos m with h0 | h0
  ·subst h0; omega
  have := RowM.at_lt hi (show m - 1 < m from by omega); omega
 refine ⟨csets cur (i * m) vs, ?_, by rw [csets_size]; exact h2, fun k hk => ?_⟩
 ·rw [setCells_row g e (0, 0) vs cur (i * m) w h1]
  exact setRow_heap w g cur _ e (0, 0) h1
 by_cases e1 : k = i
 ·subst e1
  simp only [if_true]
  refine ⟨hv, fun j v hj => ?_⟩
  have hjl : j < m := by rw [← hv]; exact (List.getElem?_eq_some_iff.1 hj).1
  rw [csets_get vs cur _ _ hsz, if_pos (by omega), show k * m + j - k * m = j from by omega]
  exact hj
 simp only [if_neg e1]
 refine ⟨(h3 k hk).1, fun j v hj => ?_⟩
 have hjl : j < m := by rw [← (h3 k hk).1]; exact (List.getElem?_eq_some_iff.1 hj).1
 rw [csets_get vs cur _ _ hsz, if_neg ?_]
 ·exact (h3 k hk).2 j v hj
 rintro ⟨h4, h5⟩
 have := RowM.ne_at (m := m) (i := k) (i' := i) (j := j) (j' := k * m + j - i * m) hjl (by omega) e1
 omega
theorem RowM.congr {w : World} {g m n : Nat} {e : TypeId} {f f' : Nat → List Value} (h : RowM w g e m n f) (he : ∀ i, i < n → f' i = f i) : RowM w g e m n f' := by
 obtain ⟨cur, h1, h2, h3⟩ := h
 exact ⟨cur, h1, h2, fun i hi => by rw [he i hi]; exact h3 i hi⟩
theorem flatM_len {n m : Nat} {f : Nat → List Value} (h : ∀ i, i < n → (f i).length = m) : ((List.range n).flatMap f).length = n * m := by
 induction n with
 | zero => simp
 | succ n ih => rw [List.range_succ, List.flatMap_append, List.length_append, ih (fun i hi => h i (by omega))]; simp [h n (by omega), Nat.add_mul]
theorem flatM_get {n m : Nat} {f : Nat → List Value} (h : ∀ i, i < n → (f i).length = m) {i j : Nat} (hi : i < n) (hj : j < m) : ((List.range n).flatMap f)[i * m + j]? = (f i)[j]? := by
 induction n with
 | zero => omega
 | succ n ih =>
  have hl := flatM_len (f := f) (m := m) (n := n) (fun i hi => h i (by omega))
  rw [List.range_succ, List.flatMap_append]
  by_cases e : i < n
  ·rw [List.getElem?_append_left (by rw [hl]; exact RowM.at_lt e hj)]
   exact ih (fun i hi => h i (by omega)) e
  have : i = n := by omega
  subst this
  rw [List.getElem?_append_right (by rw [hl]; omega), hl, show i * m + j - i * m = j from by omega]
  simp
structure OwnM (base : Nat) (w : World) (e : TypeId) (m : Nat) (v : Value) (n : Nat) (f : Nat → List Value) : Prop where
 own : w.ownsRow base e m v n ((List.range n).flatMap f)
 len : ∀ i, i < n → (f i).length = m
theorem OwnM.nil (base : Nat) (w : World) (e : TypeId) (m : Nat) (f : Nat → List Value) : OwnM base w e m (.slice none 0 0) 0 f := ⟨⟨by simp, .inl ⟨rfl, rfl⟩⟩, fun i hi => by omega⟩
theorem OwnM.row {base : Nat} {w : World} {e : TypeId} {m : Nat} {v : Value} {n : Nat} {f : Nat → List Value} (h : OwnM base w e m v n f) (hn : 0 < n) : ∃ g c, v = .slice (some ⟨g, 0, none⟩) n c ∧ base ≤ g ∧ n ≤ c ∧ c ≤ maxLen ∧ RowM w g e m n f := by
 rcases h.own.2 with ⟨h', h0⟩ | ⟨g, cap, cur, h1, h2, h3, h4, h5, h6, h7⟩
 ·omega
 refine ⟨g, cap, h1, h2, h4, h5, cur, h3, by rw [h6]; exact Nat.mul_le_mul_right m h4, fun i hi => ⟨h.len i hi, fun j v hv => ?_⟩⟩
 have hj : j < m := by rw [← h.len i hi]; exact (List.getElem?_eq_some_iff.1 hv).1
 have e1 : (cur.toList.take (n * m))[i * m + j]? = some v := by rw [h7, flatM_get h.len hi hj]; exact hv
 rw [List.getElem?_take, if_pos (RowM.at_lt hi hj), Array.getElem?_toList] at e1
 exact e1
theorem OwnM.shape {base : Nat} {w : World} {e : TypeId} {m : Nat} {v : Value} {n : Nat} {f : Nat → List Value} (h : OwnM base w e m v n f) : ∃ a c, v = .slice a n c ∧ n ≤ c ∧ c ≤ maxLen := by
 rcases h.own.2 with ⟨h', h0⟩ | ⟨g, cap, cur, h1, h2, h3, h4, h5, h6, h7⟩
 ·exact ⟨_, 0, by rw [h', h0], by omega, by unfold maxLen; omega⟩
 exact ⟨_, cap, h1, h4, h5⟩
theorem OwnM.keep {base : Nat} {w w' : World} {e : TypeId} {m : Nat} {v : Value} {n : Nat} {f : Nat → List Value} (h : OwnM base w e m v n f) (k : ∀ (g : Nat) (cur : Array Value), base ≤ g → w.heap[g]? = some (.cells cur e (0, 0)) → w'.heap[g]? = w.heap[g]?) : OwnM base w' e m v n f := by
 refine ⟨⟨h.own.1, ?_⟩, h.len⟩
 rcases h.own.2 with ⟨h', h0⟩ | ⟨g, cap, cur, h1, h2, h3, h4, h5, h6, h7⟩
 ·exact .inl ⟨h', h0⟩
 exact .inr ⟨g, cap, cur, h1, h2, (k g cur h2 h3).trans h3, h4, h5, h6, h7⟩
theorem OwnM.below {base : Nat} {w w' : World} {e : TypeId} {m : Nat} {v : Value} {n : Nat} {f : Nat → List Value} (h : OwnM base w e m v n f) (k : Below w.heap.size w w') : OwnM base w' e m v n f :=
 h.keep (fun g _ _ hg => k.block g (Array.getElem?_eq_some_iff.1 hg).1)
theorem OwnM.ownBlock {base : Nat} {w : World} {e : TypeId} {m : Nat} {v : Value} {n : Nat} {f : Nat → List Value} (h : OwnM base w e m v n f) {g : Nat} (hg : v.ownBlock = some g) : base ≤ g ∧ ∃ cur, w.heap[g]? = some (.cells cur e (0, 0)) := by
 rcases h.own.2 with ⟨h', h0⟩ | ⟨g', cap, cur, h1, h2, h3, h4, h5, h6, h7⟩
 ·rw [h'] at hg; cases hg
 rw [h1] at hg; cases hg; exact ⟨h2, cur, h3⟩
theorem OwnM.congr {base : Nat} {w : World} {e : TypeId} {m : Nat} {v : Value} {n : Nat} {f f' : Nat → List Value} (h : OwnM base w e m v n f) (he : ∀ i, i < n → f' i = f i) : OwnM base w e m v n f' := by
 have : (List.range n).flatMap f' = (List.range n).flatMap f := flatMap_eq (fun i hi => he i (List.mem_range.1 hi))
 exact ⟨by rw [this]; exact h.own, fun i hi => by rw [he i hi]; exact h.len i hi⟩
set_option maxRecDepth 100000 in
theorem run_append_m (w : World) (base : Nat) (t ty e : TypeId) (i : TypeInfo) (z : Value) (m bytes : Nat) (ht : Tryz.prog.underlying t = some (.slice e)) (hi : Tryz.prog.info? e = some i) (hz : i.zero = some z) (hs : i.size = m) (hby : i.bytes = bytes) (hzs : z.cells.size = m) (hm : 0 < m) (hbb : bytes ≤ 1000)
  (v : Value) (n : Nat) (f : Nat → List Value) (hown : OwnM base w e m v n f) (g o : Nat) (vs : List Value) (hc : w.rangeAt g o vs) (hv : vs.length = m) (h1 : ∀ u ∈ vs, u.oneCell' = true) (hb : n ≤ 100000) (hbase : base ≤ w.heap.size) :
  ∃ v' w', (Builtin.append_ #[t, t] ty #[v, .slice (some ⟨g, o, none⟩) 1 1]).run Tryz.prog w = .ok v' w' ∧ OwnM base w' e m v' (n + 1) (fun k => if k = n then vs else f k) ∧ w.grownBy w' v.ownBlock := by
 obtain ⟨v', w', h1, h2, h3, _⟩ := run_append_own (P := Tryz.prog) w base t ty e i z m bytes ht hi hz hs hby hzs hm v _ _ hown.own ⟨g, o, none⟩ 1 1 vs (by rw [hv, Nat.one_mul]) (fun j u hu => by rw [Addr.add_lit]; exact hc j u hu) h1 (by unfold maxLen; omega) (by
  have := Nat.mul_le_mul (show n + 1 ≤ 100001 from by omega) hbb
  omega) hbase
 refine ⟨v', w', h1, ⟨?_, fun k hk => ?_⟩, h3⟩
 ·have : (List.range (n + 1)).flatMap (fun k => if k = n then vs else f k) = (List.range n).flatMap f ++ vs := by
   rw [List.range_succ, List.flatMap_append]
   congr 1
   ·exact flatMap_eq (fun i hi => by rw [if_neg (Nat.ne_of_lt (List.mem_range.1 hi))])
   simp
  rw [this]
  exact h2
 by_cases e : k = n
 ·simp only [if_pos e]; exact hv
 simp only [if_neg e]; exact hown.len k (by omega)
structure EV where
 k : Int
 l : Int
 s : Int
 d : List Nat
def EV.cs (e : EV) : List Value := (entA e.k e.l e.s e.d).toList
structure EV.Ok (e : EV) : Prop where
 len : e.d.length = 16
 bs : ∀ j, cf e.d j < 256
def zEV : EV := ⟨0, 0, 0, zer16⟩
theorem zEV_ok : zEV.Ok := ⟨rfl, fun j => by
 unfold zEV zer16
 rw [← cf_getD, List.getD_eq_getElem?_getD, List.getElem?_replicate]
 split <;> simp⟩
theorem EV.cs_len {e : EV} (h : e.Ok) : e.cs.length = 19 := by have := entA_size (k := e.k) (l := e.l) (s := e.s) h.len; simpa [EV.cs] using this
theorem EV.cs_one (e : EV) : ∀ u ∈ e.cs, u.oneCell' = true := fun u hu => (Array.all_eq_true_iff_forall_mem.1 (entA_one e.k e.l e.s e.d)) u (by simpa [EV.cs] using hu)
structure EArg (w : World) (v : Value) (g : Nat) (l : List EV) : Prop where
 ex : ∃ ao c, v = .slice ao l.length c ∧ l.length ≤ c ∧ c ≤ maxLen ∧ (ao = none → c = 0) ∧ (l ≠ [] → ∃ o, ao = some ⟨g, o, none⟩ ∧ ∀ i, i < l.length → w.rangeAt g (o + i * 19) (l.getD i zEV).cs)
 ok : ∀ e ∈ l, e.Ok
theorem EArg.nil (w : World) : EArg w (.slice none 0 0) 0 [] := ⟨⟨none, 0, rfl, by simp, by simp, fun _ => rfl, fun h => absurd rfl h⟩, by simp⟩
theorem EArg.get_ok {w : World} {v : Value} {g : Nat} {l : List EV} (h : EArg w v g l) (i : Nat) : (l.getD i zEV).Ok := by
 by_cases hi : i < l.length
 ·rw [List.getD_eq_getElem?_getD, List.getElem?_eq_getElem hi]; exact h.ok _ (List.getElem_mem hi)
 rw [List.getD_eq_getElem?_getD, List.getElem?_eq_none (by omega)]; exact zEV_ok
theorem EArg.lt {w : World} {v : Value} {g : Nat} {l : List EV} (h : EArg w v g l) (hne : l ≠ []) : g < w.heap.size := by
 obtain ⟨ao, c, -, -, -, -, hr⟩ := h.ex
 obtain ⟨o, -, h2⟩ := hr hne
 have hl : 0 < l.length := List.length_pos_iff.2 hne
 have := h2 0 hl 0 (.int .i64 (l.getD 0 zEV).k) (by unfold EV.cs; rw [Array.getElem?_toList]; exact entA_0 _ _ _ _)
 exact block_lt_of_cell this
theorem EArg.of {w w' : World} {v : Value} {g : Nat} {l : List EV} (h : EArg w v g l) (k : l ≠ [] → w'.heap[g]? = w.heap[g]?) : EArg w' v g l := by
 refine ⟨?_, h.ok⟩
 obtain ⟨ao, c, h1, h2, h3, h4, hr⟩ := h.ex
 refine ⟨ao, c, h1, h2, h3, h4, fun hne => ?_⟩
 obtain ⟨o, h5, h6⟩ := hr hne
 exact ⟨o, h5, fun i hi j v hv => (World.cell?_of_block (k hne)).trans (h6 i hi j v hv)⟩
theorem EArg.below {w w' : World} {v : Value} {g : Nat} {l : List EV} (h : EArg w v g l) (k : Below w.heap.size w w') : EArg w' v g l := h.of (fun hne => k.block g (h.lt hne))
theorem load_ev {w : World} {g o : Nat} {e : EV} (h : w.rangeAt g o e.cs) (ho : e.Ok) : (loadVar 44 ⟨g, o, none⟩).run Tryz.prog w = .ok (.agg (entA e.k e.l e.s e.d)) w := by
 have := run_loadVar_mid (P := Tryz.prog) w g o 44 e.cs _ h Tryz.underlying44 (by rfl) (by rw [sizeTE, EV.cs_len ho])
 simpa [EV.cs] using this
def OwnE (base : Nat) (w : World) (v : Value) (l : List EV) : Prop := OwnM base w 44 19 v l.length (fun i => (l.getD i zEV).cs) ∧ ∀ e ∈ l, e.Ok
theorem OwnE.nil (base : Nat) (w : World) : OwnE base w (.slice none 0 0) [] := ⟨OwnM.nil _ _ _ _ _, by simp⟩
theorem OwnE.below {base : Nat} {w w' : World} {v : Value} {l : List EV} (h : OwnE base w v l) (k : Below w.heap.size w w') : OwnE base w' v l := ⟨h.1.below k, h.2⟩
theorem OwnE.keep {base : Nat} {w w' : World} {v : Value} {l : List EV} (h : OwnE base w v l) (k : ∀ g, base ≤ g → g < w.heap.size → w'.heap[g]? = w.heap[g]?) : OwnE base w' v l := ⟨h.1.keep (fun g _ hg h1 => k g hg (Array.getElem?_eq_some_iff.1 h1).1), h.2⟩
theorem OwnE.arg {base : Nat} {w : World} {v : Value} {l : List EV} (h : OwnE base w v l) : ∃ g, EArg w v g l ∧ (l ≠ [] → base ≤ g) := by
 rcases Nat.eq_zero_or_pos l.length with h0 | h0
 ·have : l = [] := List.eq_nil_of_length_eq_zero h0
  subst this
  rcases h.1.own.2 with ⟨h', -⟩ | ⟨g, cap, cur, h1, h2, h3, h4, h5, -⟩
  ·rw [h']; exact ⟨0, EArg.nil w, fun h => absurd rfl h⟩
  rw [h1]; exact ⟨g, ⟨⟨_, cap, rfl, h4, h5, (fun h => by cases h), fun h => absurd rfl h⟩, by simp⟩, fun h => absurd rfl h⟩
 obtain ⟨g, c, h1, h2, h3, h4, h5⟩ := h.1.row h0
 rw [h1]
 exact ⟨g, ⟨⟨_, c, rfl, h3, h4, (fun h => by cases h), fun _ => ⟨0, rfl, fun i hi => by rw [Nat.zero_add]; exact h5.range hi⟩⟩, h.2⟩, fun _ => h2⟩
theorem infoTE : (Tryz.prog.info? 44).map (fun i => (i.zero, i.size, i.bytes)) = some (some (.agg (entA 0 0 0 zer16)), 19, 40) := by kernel_rfl
theorem getD_put {α : Type} (l : List α) (x z : α) (i : Nat) (hi : i < (l ++ [x]).length) : (l ++ [x]).getD i z = if i = l.length then x else l.getD i z := by
 simp only [List.length_append, List.length_cons, List.length_nil] at hi
 by_cases e : i = l.length
 ·subst e
  rw [if_pos rfl, List.getD_eq_getElem?_getD, List.getElem?_append_right (Nat.le_refl _)]
  simp
 rw [if_neg e, List.getD_eq_getElem?_getD, List.getElem?_append_left (by omega), List.getD_eq_getElem?_getD]
theorem run_append_ev (w : World) (base : Nat) (ty : TypeId) (v : Value) (l : List EV) (hown : OwnE base w v l) (g o : Nat) (x : EV) (hc : w.rangeAt g o x.cs) (hx : x.Ok) (hb : l.length ≤ 100000) (hbase : base ≤ w.heap.size) :
  ∃ v' w', (Builtin.append_ #[22, 22] ty #[v, .slice (some ⟨g, o, none⟩) 1 1]).run Tryz.prog w = .ok v' w' ∧ OwnE base w' v' (l ++ [x]) ∧ w.grownBy w' v.ownBlock := by
 obtain ⟨i0, hi0, hz0, hz1, hz2⟩ := info_parts infoTE
 obtain ⟨v', w', h1, h2, h3⟩ := run_append_m w base 22 ty 44 i0 _ 19 40 Tryz.underlying22 hi0 hz0 hz1 hz2 (entA_size zer16_len) (by omega) (by omega) v l.length _ hown.1 g o x.cs hc (EV.cs_len hx) x.cs_one hb hbase
 refine ⟨v', w', h1, ⟨?_, ?_⟩, h3⟩
 ·rw [List.length_append]
  refine h2.congr (fun i hi => ?_)
  rw [getD_put l x zEV i (by simpa using hi)]
  split <;> rfl
 intro e he
 rcases List.mem_append.1 he with h | h
 ·exact hown.2 e h
 rw [List.mem_singleton.1 h]; exact hx
structure PV where
 st : Int
 bo : Option Addr
 bc : Nat
 gb : Nat
 x : List Nat
def PV.b (p : PV) : Value := .slice p.bo p.x.length p.bc
def PV.cs (p : PV) : List Value := [.int .i64 p.st, p.b]
def zPV : PV := ⟨0, none, 0, 0, []⟩
theorem PV.cs_one (p : PV) : ∀ u ∈ p.cs, u.oneCell' = true := by
 intro u hu
 simp only [PV.cs, List.mem_cons, List.not_mem_nil, or_false] at hu
 rcases hu with rfl | rfl <;> rfl
def PV.Ok (w : World) (p : PV) : Prop := Arg w p.b p.gb p.x
theorem zPV_ok (w : World) : zPV.Ok w := ⟨⟨none, 0, rfl, by simp [zPV], by simp, fun _ => rfl, .inl rfl⟩, Bs.nil⟩
structure PgArg (w : World) (v : Value) (g : Nat) (l : List PV) : Prop where
 ex : ∃ ao c, v = .slice ao l.length c ∧ l.length ≤ c ∧ c ≤ maxLen ∧ (ao = none → c = 0) ∧ (l ≠ [] → ∃ o, ao = some ⟨g, o, none⟩ ∧ ∀ i, i < l.length → w.rangeAt g (o + i * 2) (l.getD i zPV).cs)
 ok : ∀ p ∈ l, p.Ok w
theorem PgArg.nil (w : World) : PgArg w (.slice none 0 0) 0 [] := ⟨⟨none, 0, rfl, by simp, by simp, fun _ => rfl, fun h => absurd rfl h⟩, by simp⟩
theorem PgArg.get_ok {w : World} {v : Value} {g : Nat} {l : List PV} (h : PgArg w v g l) (i : Nat) : (l.getD i zPV).Ok w := by
 by_cases hi : i < l.length
 ·rw [List.getD_eq_getElem?_getD, List.getElem?_eq_getElem hi]; exact h.ok _ (List.getElem_mem hi)
 rw [List.getD_eq_getElem?_getD, List.getElem?_eq_none (by omega)]; exact zPV_ok w
theorem PgArg.lt {w : World} {v : Value} {g : Nat} {l : List PV} (h : PgArg w v g l) (hne : l ≠ []) : g < w.heap.size := by
 obtain ⟨ao, c, -, -, -, -, hr⟩ := h.ex
 obtain ⟨o, -, h2⟩ := hr hne
 have := h2 0 (List.length_pos_iff.2 hne) 0 _ rfl
 exact block_lt_of_cell this
theorem PgArg.below {w w' : World} {v : Value} {g : Nat} {l : List PV} (h : PgArg w v g l) (k : Below w.heap.size w w') : PgArg w' v g l := by
 refine ⟨?_, fun p hp => (h.ok p hp).below k⟩
 obtain ⟨ao, c, h1, h2, h3, h4, hr⟩ := h.ex
 refine ⟨ao, c, h1, h2, h3, h4, fun hne => ?_⟩
 obtain ⟨o, h5, h6⟩ := hr hne
 exact ⟨o, h5, fun i hi j v hv => (World.cell?_of_block (k.block g (h.lt hne))).trans (h6 i hi j v hv)⟩
theorem sizeTP : (Tryz.prog.info? 49).map (·.size) = some 2 := by kernel_rfl
def OwnG (base : Nat) (w : World) (v : Value) (l : List PV) : Prop := OwnM base w 49 2 v l.length (fun i => (l.getD i zPV).cs) ∧ ∀ p ∈ l, p.Ok w
theorem OwnG.nil (base : Nat) (w : World) : OwnG base w (.slice none 0 0) [] := ⟨OwnM.nil _ _ _ _ _, by simp⟩
theorem OwnG.below {base : Nat} {w w' : World} {v : Value} {l : List PV} (h : OwnG base w v l) (k : Below w.heap.size w w') : OwnG base w' v l := ⟨h.1.below k, fun p hp => (h.2 p hp).below k⟩
theorem infoTP : (Tryz.prog.info? 49).map (fun i => (i.zero, i.size, i.bytes)) = some (some (.agg #[.int .i64 0, .slice none 0 0]), 2, 32) := by kernel_rfl
theorem run_append_pv (w : World) (base : Nat) (ty : TypeId) (v : Value) (l : List PV) (hown : OwnG base w v l) (g o : Nat) (x : PV) (hc : w.rangeAt g o x.cs) (hb : l.length ≤ 100000) (hbase : base ≤ w.heap.size) :
  ∃ v' w', (Builtin.append_ #[40, 40] ty #[v, .slice (some ⟨g, o, none⟩) 1 1]).run Tryz.prog w = .ok v' w' ∧ OwnM base w' 49 2 v' (l ++ [x]).length (fun i => ((l ++ [x]).getD i zPV).cs) ∧ w.grownBy w' v.ownBlock := by
 obtain ⟨i0, hi0, hz0, hz1, hz2⟩ := info_parts infoTP
 obtain ⟨v', w', h1, h2, h3⟩ := run_append_m w base 40 ty 49 i0 _ 2 32 Tryz.underlying40 hi0 hz0 hz1 hz2 (by rfl) (by omega) (by omega) v l.length _ hown.1 g o x.cs hc rfl x.cs_one hb hbase
 refine ⟨v', w', h1, ?_, h3⟩
 rw [List.length_append]
 refine h2.congr (fun i hi => ?_)
 rw [getD_put l x zPV i (by simpa using hi)]
 split <;> rfl
end Go.Proofs.YtjdikhelabibnaaGreat
