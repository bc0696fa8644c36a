/-
  The walk of CodeEnds.
-/
import Derived.Test.YtgjnmmekeaklpabRead
import Derived.Deep.RegionHeld3
import Derived.Deep.DrawnRows
namespace Go.Proofs.Ytgjnmmekeaklpab
open Go.RowKit
attribute [local go_sem ↓] Go.wp_at_zero Go.wp_at_succ

theorem rd_heap {T : TypeId} {w w' : World} {R g : Nat} {zs : List Int} {e : Int} (hr : Rd T w R g zs e) (h : w'.heap = w.heap) : Rd T w' R g zs e := by
  obtain ⟨hne, ao, cap, hb, hl, hm, hrow⟩ := hr
  refine ⟨hne, ao, cap, by rw [h]; exact hb, hl, hm, ?_⟩
  rcases hrow with h0 | ⟨o, rfl, hc⟩
  · exact .inl h0
  · exact .inr ⟨o, rfl, fun j hj => by rw [World.cell?_of_block (w := w) (by rw [h])]; exact hc j hj⟩

theorem rd_lt {T : TypeId} {w : World} {R g : Nat} {zs : List Int} {e : Int} (hr : Rd T w R g zs e) (h : 0 < zs.length) : R < w.heap.size ∧ g < w.heap.size := by
  obtain ⟨hne, ao, cap, hb, hl, hm, hrow⟩ := hr
  refine ⟨lt_of_block hb, ?_⟩
  rcases hrow with h0 | ⟨o, rfl, hc⟩
  · rw [h0] at h; simp at h
  · exact block_lt_of_cell (hc 0 h)

theorem rd_num (z : Int) (h1 : -9223372036854775808 ≤ z) (h2 : z ≤ 9223372036854775807) :
    rdV 8 (by8 8 (IntKind.u64.wrap z)) = z ∧ rdZ 8 (by8 8 (IntKind.u64.wrap z)) 0 = [] ∧ rdE 8 (by8 8 (IntKind.u64.wrap z)) 0 = 0 := by
  have hl : (by8 8 (IntKind.u64.wrap z)).length = 8 := by8_length _ _
  have h8 : 8 ≤ (by8 8 (IntKind.u64.wrap z)).length := by omega
  refine ⟨?_, by unfold rdZ; rw [if_pos h8]; exact List.drop_eq_nil_of_le (by omega), by unfold rdE; rw [if_pos h8]⟩
  unfold rdV
  rw [if_pos h8, List.take_of_length_le (by omega), le_by8, show (256 : Int) ^ 8 = 18446744073709551616 from by decide, IntKind.wrap_u64]
  unfold wrap64
  omega

theorem by8_getD (n j : Nat) (v : Int) (h : j < n) : (by8 n v).getD j 0 = v / 256 ^ j % 256 := by
  induction n generalizing v j with
  | zero => omega
  | succ n ih =>
    cases j with
    | zero => simp [by8]
    | succ j =>
      rw [by8]
      have := ih j (v / 256) (by omega)
      rw [List.getD_cons_succ, this, Int.ediv_ediv_of_nonneg (by omega), Int.pow_succ, Int.mul_comm]

theorem rd_at (u : Int) (j : Nat) (hj : j < 8) :
    rdV 1 ((by8 8 u).drop j) = u / 256 ^ j % 256 ∧ rdZ 1 ((by8 8 u).drop j) 0 = (by8 8 u).drop (j + 1) ∧ rdE 1 ((by8 8 u).drop j) 0 = 0 := by
  have hl : (by8 8 u).length = 8 := by8_length _ _
  have h1 : 1 ≤ ((by8 8 u).drop j).length := by rw [List.length_drop]; omega
  refine ⟨?_, by unfold rdZ; rw [if_pos h1, List.drop_drop], by unfold rdE; rw [if_pos h1]⟩
  unfold rdV
  have e1 : ((by8 8 u).drop j).take 1 = [(by8 8 u).getD j 0] := by
    rw [List.drop_eq_getElem_cons (by omega), List.getD_eq_getElem?_getD, List.getElem?_eq_getElem (by omega)]
    rfl
  rw [if_pos h1, e1, le, le, Int.mul_zero, Int.add_zero, by8_getD 8 j u hj, IntWalk.wrap64_in _ ⟨by omega, by omega⟩]

theorem shifted (u : Int) (j : Nat) (hj : j < 8) (h0 : 0 ≤ u) (h1 : u < 18446744073709551616) :
    IntKind.i64.wrap (bits BinOp.and IntKind.u64 (u / 2 ^ min (IntKind.u64.wrap (IntKind.i64.wrap (8 * (j : Int)))).toNat 64) 255) = u / 256 ^ j % 256 := by
  have e1 : (IntKind.u64.wrap (IntKind.i64.wrap (8 * (j : Int)))).toNat = 8 * j := by
    rw [IntWalk.i64_in _ ⟨by omega, by omega⟩, IntWalk.u64_in _ ⟨by omega, by omega⟩]; omega
  have e2 : (2 : Int) ^ (8 * j) = 256 ^ j := by rw [Int.pow_mul]; rfl
  have hp : (0 : Int) < 256 ^ j := Int.pow_pos (by omega)
  have hx0 : 0 ≤ u / 256 ^ j := Int.ediv_nonneg h0 (Int.le_of_lt hp)
  have hx1 : u / 256 ^ j ≤ u := Int.ediv_le_self _ h0
  have h64 : (2 : Int) ^ 64 = 18446744073709551616 := by decide
  have hm := bits_mask .u64 64 (by decide) (fun n hn0 hn1 => IntWalk.u64_in _ ⟨hn0, by omega⟩) 8 (by omega) (u / 256 ^ j) hx0 (by omega)
  rw [e1, show min (8 * j) 64 = 8 * j from by omega, e2]
  rw [show ((2 : Int) ^ 8 - 1) = 255 from by decide, show ((2 : Int) ^ 8) = 256 from by decide] at hm
  rw [hm, IntWalk.i64_in _ ⟨by omega, by omega⟩]

theorem ends_pow (t : Nat) : -9223372036854775808 ≤ wrap64 (2 ^ t) ∧ wrap64 (2 ^ t) ≤ 9223372036854775807 := by unfold wrap64; omega
theorem ends_cells (p n : Int) (w' : World) (hp : -9223372036854775808 ≤ p ∧ p ≤ 9223372036854775807) (hn : -9223372036854775808 ≤ n ∧ n ≤ 9223372036854775807) :
   ∃ f : Nat → Int, (∀ j, j < 9 → (w'.alloc (Obj.cells #[Value.int IntKind.i64 0, Value.int IntKind.i64 1, Value.int IntKind.i64 (-1), Value.int IntKind.i64 255, Value.int IntKind.i64 256, Value.int IntKind.i64 9223372036854775807, Value.int IntKind.i64 (-9223372036854775808), Value.int IntKind.i64 p, Value.int IntKind.i64 n] 3)).cell? ⟨w'.heap.size, j, none⟩ = some (.int .i64 (f j))) ∧ ∀ j, -9223372036854775808 ≤ f j ∧ f j ≤ 9223372036854775807 := by
    refine ⟨fun j => [0, 1, -1, 255, 256, 9223372036854775807, -9223372036854775808, p].getD j n, ?_, ?_⟩
    · intro j hj
      rw [cell_of_row _ _ j _ 3 (0, 0) (heap_alloc_new _ _)]
      match j, hj with
      | 0, _ => rfl
      | 1, _ => rfl
      | 2, _ => rfl
      | 3, _ => rfl
      | 4, _ => rfl
      | 5, _ => rfl
      | 6, _ => rfl
      | 7, _ => rfl
      | 8, _ => rfl
    · intro j
      match j with
      | 0 => exact (show (-9223372036854775808 : Int) ≤ 0 ∧ (0 : Int) ≤ 9223372036854775807 from by omega)
      | 1 => exact (show (-9223372036854775808 : Int) ≤ 1 ∧ (1 : Int) ≤ 9223372036854775807 from by omega)
      | 2 => exact (show (-9223372036854775808 : Int) ≤ -1 ∧ (-1 : Int) ≤ 9223372036854775807 from by omega)
      | 3 => exact (show (-9223372036854775808 : Int) ≤ 255 ∧ (255 : Int) ≤ 9223372036854775807 from by omega)
      | 4 => exact (show (-9223372036854775808 : Int) ≤ 256 ∧ (256 : Int) ≤ 9223372036854775807 from by omega)
      | 5 => exact (show (-9223372036854775808 : Int) ≤ 9223372036854775807 ∧ (9223372036854775807 : Int) ≤ 9223372036854775807 from by omega)
      | 6 => exact (show (-9223372036854775808 : Int) ≤ -9223372036854775808 ∧ (-9223372036854775808 : Int) ≤ 9223372036854775807 from by omega)
      | 7 => exact hp
      | j + 8 => exact hn
set_option maxRecDepth 100000 in
set_option maxHeartbeats 4000000 in
theorem ends_walk (n k : Int) (w : World) (hn : -9223372036854775808 ≤ n ∧ n ≤ 9223372036854775807) :
    Calls Try.prog 3 #[.int .i64 n, .int .i64 k] w fun x w' => x = .returned (.bool true) ∧ Below w.heap.size w w' := by
  have ht0 := Int.emod_nonneg k (show (63 : Int) ≠ 0 by omega)
  have ht1 := Int.emod_lt_of_pos k (show (0 : Int) < 63 by omega)
  go_enter Try.func3, Try.ntmps3
  go_wp2_with fail
  refine (known_any w).mono ?_
  rintro x w1 ⟨rfl, hk1⟩
  have HK1 := hide hk1
  clear hk1
  go_wp2_with fail
  refine (within_any k 63 w1 (by omega) (by omega)).mono ?_
  rintro x w' ⟨rfl, rfl⟩
  obtain ⟨t, ht⟩ := Int.eq_ofNat_of_zero_le ht0
  rw [ht] at ht1 ⊢
  clear ht ht0
  go_wp2_with fail
  have hpw := ends_pow t
  generalize wrap64 (2 ^ t) = p at *
  obtain ⟨f, hf, hfr⟩ := ends_cells p n w' hpw hn
  generalize hW0 : w'.alloc (Obj.cells #[Value.int IntKind.i64 0, Value.int IntKind.i64 1, Value.int IntKind.i64 (-1), Value.int IntKind.i64 255, Value.int IntKind.i64 256, Value.int IntKind.i64 9223372036854775807, Value.int IntKind.i64 (-9223372036854775808), Value.int IntKind.i64 p, Value.int IntKind.i64 n] 3) = W0 at *
  generalize hL : w'.heap.size = L at *
  have HK0 : Hid (Kp [] w W0) := by rw [← hW0]; exact (unhide HK1).alloc _
  have hLW : L < W0.heap.size := block_lt_of_cell (hf 0 (by omega))
  have hwW := (unhide HK0).size
  have HF := hide hf
  have HFR := hide hfr
  clear hf hfr hW0 hL HK1 hpw ht1
  go_loopw [6] (fun i wr => ∃ k : Nat, k ≤ 9 ∧ i = .int .i64 k ∧ Kp [] W0 wr) (fun i _ => 9 - (intOf i).toNat)
  case atStart => exact ⟨0, by omega, rfl, Kp.refl _ _⟩
  case round =>
    obtain ⟨k, hk, rfl, hkp⟩ := hrel
    have HKP := hide hkp
    clear hkp
    by_cases hlt : k < 9
    · have hck := (unhide HKP).cell (unhide HF k hlt) (by simp)
      obtain ⟨hz1, hz2⟩ := unhide HFR k
      generalize hfz : f k = z at *
      have HFZ := hide hfz
      clear hfz
      have hwr := (unhide HKP).size
      have hj0 : (0 : Int) ≤ (k : Int) := by omega
      have hj1 : (k : Int) < 9 := by omega
      go_wp2_with fail
      go_region_held3 (fun w' => w'.cell? ⟨L, k, none⟩ = some (.int .i64 z)) (first | assumption | go_keep)
        (first | (go_at_call 7; refine (int_any none 0 0 0 z [] _ (by omega) rfl (.inl rfl)).mono ?_; rintro e w6 ⟨q6, rfl, hq6, ho6, hk6⟩; have hc6 : w6.cell? ⟨L, k, none⟩ = some (.int .i64 z) := hk6.cell (by assumption) (by simp); have hr6 := row_of_owns ho6; rw [List.nil_append] at hr6; clear ho6) | (go_at_call 6; refine (new_any (some ⟨q6, 0, none⟩) q6 8 8 (by8 8 (IntKind.u64.wrap z)) _ (by omega) (by8_length _ _) ?_).mono ?_; (exact hr6); rintro e w6 ⟨R6, q7, rfl, hR6, hq6, hd6, hk6⟩; have hc6 : w6.cell? ⟨L, k, none⟩ = some (.int .i64 z) := hk6.cell (by assumption) (by simp)))
      rename_i wa qa hqa hka hca hra wb Ra q7a hRa hqb hda hkb hcb wc hqc hkc hcc held
      have hl8 : (by8 8 (IntKind.u64.wrap z)).length = 8 := by8_length _ _
      have hlt1 := rd_lt hda (by omega)
      have hkk : Kp [] W0 w6 := ((((unhide HKP).drew).trans hka (by simp)).trans hkb (by simp)).trans (hkc.trans hk6 (by simp)) (by simp)
      have hs1 := hkc.size
      have hs2 := hka.size
      have hs3 := hkb.size
      have hs4 : wr.drew.heap.size = wr.heap.size := rfl
      have hd1 := (hda.keep hkc (by simp) (by simp)).keep hk6 (by simp) (by simp)
      have HD1 := hide (show ∀ W : World, W.heap = w6.heap → Rd 39 W Ra q7a (by8 8 (IntKind.u64.wrap z)) 0 from fun W hW => rd_heap hd1 hW)
      have HD2 := hide hd6
      have HKK := hide hkk
      have hRR : R6 ≠ Ra := by omega
      have hqR : q7 ≠ Ra := by omega
      have hLR : L ≠ Ra := by omega
      have hLR2 : L ≠ R6 := by omega
      have hRW : W0.heap.size ≤ Ra := by omega
      have hRW2 : W0.heap.size ≤ R6 := by omega
      have HV := hide (rd_num z hz1 hz2)
      have HN : Hid (Byt (by8 8 (IntKind.u64.wrap z))) := by8_byt _ _
      clear hda hkb hcb hkc hcc hka hca hra hr6 hd6 hk6 hc6 hd1 hkk hl8 hlt1 hs1 hs2 hs3 hs4 hck hqa hqb hqc hRa hR6 hq6 hwr HKP
      generalize hNM : by8 8 (IntKind.u64.wrap z) = N at *
      have HNM := hide hNM
      clear hNM
      go_wp2_with fail
      go_region_held3 (fun w' => w'.cell? ⟨L, k, none⟩ = some (.int .i64 z)) (first | assumption | go_keep) (first | (go_at_call 8; refine (rint_any Ra q7a N 0 _ ?_ ?_).mono ?_; (exact unhide HN); (exact unhide HD1 _ rfl); rintro e w7 ⟨rfl, hd7, hk7⟩; rw [(unhide HV).1]; rw [(unhide HV).2.1, (unhide HV).2.2] at hd7; have hc7 : w7.cell? ⟨L, k, none⟩ = some (.int .i64 z) := hk7.cell (by assumption) (by simpa using hLR)) | (go_at_call 9; refine (end_any Ra q7a [] 0 _ ?_).mono ?_; (exact hd7); rintro e w8 ⟨rfl, rfl⟩; rw [if_neg (by simp)]))
      have HD8 := hide ((unhide HD2).keep (show Kp [Ra] w6 w8 from (Kp.refl _ _).drew.trans hk7 (by simp)) (by simpa using hRR) (by simpa using hqR))
      have HK8 := hide ((unhide HKK).trans (show Kp [Ra] w6 w8 from (Kp.refl _ _).drew.trans hk7 (by simp)) (by simpa using hRW))
      clear hd7 hk7 hc7 HD2 HKK HD1 HV held
      go_wp2_with fail
      go_loopw [9] (fun i wr => ∃ j : Nat, j ≤ 8 ∧ i = .int .i64 j ∧ Kp [] W0 wr ∧ Rd 39 wr R6 q7 (N.drop j) 0) (fun i _ => 8 - (intOf i).toNat)
      case atStart => exact ⟨0, by omega, rfl, unhide HK8, by rw [List.drop_zero]; exact unhide HD8⟩
      case round =>
        obtain ⟨j, hj, rfl, hkp, hrd⟩ := hrel
        have HKP := hide hkp
        have HRD := hide (show ∀ W : World, W.heap = wr.heap → Rd 39 W R6 q7 (N.drop j) 0 from fun W hW => rd_heap hrd hW)
        clear hkp hrd HD8 HK8
        by_cases hlt8 : j < 8
        · have hck := (unhide HKP).cell (unhide HF k hlt) (by simp)
          rw [unhide HFZ] at hck
          have HV := hide (rd_at (IntKind.u64.wrap z) j hlt8)
          have hu : 0 ≤ IntKind.u64.wrap z ∧ IntKind.u64.wrap z < 18446744073709551616 := by rw [IntKind.wrap_u64]; omega
          rw [unhide HNM] at HV
          have HN2 : Hid (Byt (N.drop j)) := fun y hy => unhide HN y (List.mem_of_mem_drop hy)
          have hj2 : (0 : Int) ≤ (j : Int) := by omega
          have hj3 : (j : Int) < 8 := by omega
          go_wp2_with fail
          go_region_held3 (fun w' => w'.cell? ⟨L, k, none⟩ = some (.int .i64 z)) (first | assumption | go_keep) (first | (go_at_call 10; refine (rbyte_any R6 q7 (N.drop j) 0 _ ?_ ?_).mono ?_; (exact unhide HN2); (exact unhide HRD _ rfl); rintro e w9 ⟨rfl, hd9, hk9⟩; have hc9 : w9.cell? ⟨L, k, none⟩ = some (.int .i64 z) := hk9.cell (by assumption) (by simpa using hLR2)))
          have e0 : (rdV 1 (List.drop j N) != IntKind.i64.wrap (bits BinOp.and IntKind.u64 (IntKind.u64.wrap z / 2 ^ min (IntKind.u64.wrap (IntKind.i64.wrap (8 * (j : Int)))).toNat 64) 255)) = false := by
            rw [(unhide HV).1, shifted _ j hlt8 hu.1 hu.2]
            simp
          rw [e0]
          rw [(unhide HV).2.1, (unhide HV).2.2] at hd9
          have HD9 := hide hd9
          have HK9 := hide ((unhide HKP).trans (show Kp [R6] wr w9 from (Kp.refl _ _).drew.trans hk9 (by simp)) (by simpa using hRW2))
          clear hd9 hk9 hc9 e0 hck
          go_wp2
          go_roundw
          case rel => exact ⟨j + 1, by omega, by go_num, unhide HK9, unhide HD9⟩
          case measure => simp [intOf]; omega
        · go_wp2
          go_roundw
          case rel => exact ⟨k + 1, by omega, by go_num, unhide HKP⟩
          case measure => simp [intOf]; omega
    · go_wp2
      go_ret
      exact ⟨rfl, ((unhide HK0).trans (unhide HKP) (by simp)).below⟩

end Go.Proofs.Ytgjnmmekeaklpab
