/-
  The walk of CodeLess.
-/
import Derived.Test.YtgjnmmekeaklpaaRead
import Derived.Test.YtgjnmmekeaklpaaZero
import Derived.Deep.RegionHeld3
import Derived.Deep.DrawnRows
namespace Go.Proofs.Ytgjnmmekeaklpaa
open Go.RowKit
attribute [local go_sem ↓] Go.wp_at_zero Go.wp_at_succ

theorem rd_keep' {T : TypeId} {w w' : World} {R g : Nat} {zs : List Int} {e : Int} (hr : Rd T w R g zs e) (h : w'.heap = w.heap) : Rd T w' R g zs e := by
  obtain ⟨hne, ao, cap, hb, hl, hm, hrow⟩ := hr
  refine ⟨hne, ao, cap, by rw [h]; exact hb, hl, hm, ?_⟩
  rcases hrow with h0 | ⟨o, rfl, hc⟩
  · exact .inl h0
  · exact .inr ⟨o, rfl, fun j hj => by rw [World.cell?_of_block (w := w) (by rw [h])]; exact hc j hj⟩

set_option maxRecDepth 100000 in
set_option maxHeartbeats 4000000 in
theorem less_walk (a : Option Addr) (g len cap : Nat) (zs : List Int) (n : Int) (w : World) (hl : zs.length = len) (hr : Row w a g zs) (hb : Byt zs) (hnil : a = none → len = 0 ∧ cap = 0) :
    Calls Try.prog 7 #[.slice a len cap, .int .i64 n] w fun x w' => x = .returned (.bool true) ∧ Below w.heap.size w w' := by
  have HR := hide hr
  have HL := hide hl
  have HB := hide hb
  have HNL := hide hnil
  clear hr hl hb hnil
  by_cases h40 : 40 < len
  · go_enter Try.func7, Try.ntmps7
    go_wp2_with fail
    refine (known_any w).mono ?_
    rintro x w1 ⟨rfl, hk1⟩
    have HK1 := hide hk1
    clear hk1
    go_wp2
    go_ret
    exact ⟨rfl, (unhide HK1).below⟩
  · have ht0 := Int.emod_nonneg n (show (8 : Int) ≠ 0 by omega)
    have ht1 := Int.emod_lt_of_pos n (show (0 : Int) < 8 by omega)
    obtain ⟨i0, hi0, hz0, hz1, hz2⟩ := info_parts infoE
    go_enter Try.func7, Try.ntmps7
    go_wp2_with fail
    refine (known_any w).mono ?_
    rintro x w1 ⟨rfl, hk1⟩
    have HR1 := hide ((unhide HR).keep hk1 (by simp))
    have HK1 := hide hk1
    clear hk1
    go_wp2_with fail
    refine (within_any n 8 w1 (by omega) (by omega)).mono ?_
    rintro x w' ⟨rfl, rfl⟩
    obtain ⟨m, hm⟩ := Int.eq_ofNat_of_zero_le ht0
    rw [hm] at ht1 ⊢
    clear hm ht0
    have hw1 := (unhide HK1).size
    have HR2 := hide (show Row (w'.alloc (.cells #[] 5)) a g zs from (unhide HR1).keep ((Kp.refl [] _).alloc _) (by simp))
    have HO2 := hide (World.ownsRow_lit (base := w'.heap.size) (e := 5) (size := 1) w' #[] 0 (Nat.le_refl _) (by unfold maxLen; omega) rfl)
    go_wp2_with (at_builtin; refine wpList_append_row _ rfl (.tmp 14) (.tmp 15) 22 rfl w'.heap.size 5 i0 Try.underlying22 hi0 hz0 hz1 hz2 (.slice (some ⟨w'.heap.size, 0, none⟩) 0 0) 0 [] rfl (unhide HO2) a g len cap zs rfl (unhide HL) (unhide HR2) (unhide HNL) (by omega) (by simp) ?_)
    intro v3 w3 ho3 hg3 hv3
    obtain ⟨q3, c3, rfl, hq3, hq3'⟩ := owns_shape ho3 hv3
    have hk3 : Kp [] w w3 := ((unhide HK1).alloc _).grown hg3 (by intro k hk; cases hk; exact .inr hw1)
    have HO3 := hide ho3
    have HK3 := hide hk3
    clear ho3 hg3 hv3 hk3 HO2 HR2
    go_wp2_with (at_builtin; refine wpList_append_zeros _ rfl (.tmp 16) (.tmp 17) 22 3 rfl w'.heap.size 5 i0 Try.underlying22 Try.underlying3 hi0 hz0 hz1 hz2 q3 len c3 zs rfl (unhide HO3) m rfl (by omega) (by omega) (by omega) ?_)
    intro q4 c4 w4 ys HYS ho4 hg4
    have hk4 : Kp [] w w4 := (unhide HK3).grown hg4 (by intro k hk; cases hk; exact .inr (by omega))
    have HR4 := hide (row_of_owns ho4)
    have HL4 := hide (len_of_owns ho4)
    have HK4 := hide hk4
    have hz4 := hk4.size
    clear ho4 hg4 hk4 HO3 HK3
    go_wp2_with fail
    refine (new_any (some ⟨q4, 0, none⟩) q4 (len + m) c4 ys w4 (by omega) (unhide HL4) (unhide HR4)).mono ?_
    rintro x w5 ⟨R, q, rfl, hR, hq, hd5, hk5⟩
    have HK5 := hide ((unhide HK4).trans hk5 (by simp))
    have HD5 := hide hd5
    clear hd5 hk5
    have HBY : Hid (Byt (zs ++ List.replicate m 0)) := by
      intro z hz
      rcases List.mem_append.1 hz with h1 | h1
      · exact unhide HB z h1
      · rw [List.eq_of_mem_replicate h1]; omega
    have HGET : Hid (∀ k, k < len → (zs ++ List.replicate m 0).getD k 0 = zs.getD k 0) := by
      intro k hk
      rw [List.getD_eq_getElem?_getD, List.getD_eq_getElem?_getD, List.getElem?_append_left (by rw [unhide HL]; exact hk)]
    have HDR : Hid ((zs ++ List.replicate m 0).drop len = List.replicate m 0) := by
      show _ = _
      rw [← unhide HL, List.drop_left]
    rw [unhide HYS] at HBY HGET HDR
    clear HYS HR4
    go_wp2_with fail
    go_loopw [6] (fun i wr => ∃ k : Nat, k ≤ len ∧ i = .int .i64 k ∧ Kp [] w wr ∧ Rd 49 wr R q (ys.drop k) 0) (fun i _ => len - (intOf i).toNat)
    case atStart => exact ⟨0, by omega, rfl, unhide HK5, by rw [List.drop_zero]; exact unhide HD5⟩
    case round =>
      obtain ⟨k, hk, rfl, hkp, hrd⟩ := hrel
      clear HD5 HK5
      have HKP := hide hkp
      have HRD := hide (show ∀ W : World, W.heap = wr.heap → Rd 49 W R q (ys.drop k) 0 from fun W hW => by
        refine rd_keep' hrd ?_
        exact hW)
      clear hkp hrd
      by_cases hlt : k < len
      · obtain ⟨o, rfl, hcs⟩ : ∃ o, a = some ⟨g, o, none⟩ ∧ ∀ j, j < zs.length → w.cell? ⟨g, o + j, none⟩ = some (.int .u8 (zs.getD j 0)) := by
          rcases unhide HR with h0 | h0
          · have := unhide HL; rw [h0] at this; simp at this; omega
          · exact h0
        have hg : g < w.heap.size := block_lt_of_cell (hcs k (by rw [unhide HL]; exact hlt))
        have hck := (unhide HKP).cell (hcs k (by rw [unhide HL]; exact hlt)) (by simp)
        have hbb := (unhide HB).getD k
        have HV : Hid (rdV 1 (ys.drop k) = zs.getD k 0 ∧ rdZ 1 (ys.drop k) 0 = ys.drop (k + 1) ∧ rdE 1 (ys.drop k) 0 = 0) := by
          have h1 : 1 ≤ (ys.drop k).length := by rw [List.length_drop, unhide HL4]; omega
          refine ⟨?_, by simp only [rdZ, if_pos h1, List.drop_drop], by simp only [rdE, if_pos h1]⟩
          rw [← unhide HGET k hlt]
          rw [← unhide HGET k hlt] at hbb
          simp only [rdV, if_pos h1]
          have e1 : (ys.drop k).take 1 = [ys.getD k 0] := by
            rw [List.drop_eq_getElem_cons (by rw [unhide HL4]; omega), List.getD_eq_getElem?_getD, List.getElem?_eq_getElem (by rw [unhide HL4]; omega)]
            rfl
          rw [e1, le, le, Int.mul_zero, Int.add_zero, IntWalk.wrap64_in _ ⟨by omega, by omega⟩]
        generalize zs.getD k 0 = z at *
        obtain ⟨hz0, hz1⟩ := hbb
        have HCS := hide hcs
        clear hcs
        have hk0 : (0 : Int) ≤ (k : Int) := by omega
        have hk1 : (k : Int) < (len : Int) := by omega
        have hgR : g ≠ R := by omega
        go_wp2_with fail
        go_region_held3 (fun w' => w'.cell? ⟨g, o + k, none⟩ = some (.int .u8 z)) (first | assumption | go_keep)
          (first | (go_at_call 19; refine (rbyte_any R q (ys.drop k) 0 _ ?_ ?_).mono ?_; (exact fun z hz => unhide HBY z (List.mem_of_mem_drop hz)); (exact unhide HRD _ rfl); rintro e w6 ⟨rfl, hd6, hk6⟩; have hc6 : w6.cell? ⟨g, o + k, none⟩ = some (.int .u8 z) := hk6.cell (by assumption) (by simpa using hgR)))
        have e0 : (rdV 1 (List.drop k ys) != IntKind.i64.wrap z) = false := by
          rw [(unhide HV).1, IntWalk.i64_in _ ⟨by omega, by omega⟩]
          simp
        rw [e0]
        rw [(unhide HV).2.1, (unhide HV).2.2] at hd6
        have HD6 := hide hd6
        have HK6 : Hid (Kp [] w w6) := ((unhide HKP).drew).trans hk6 (by simpa using (show w.heap.size ≤ R from by omega))
        clear hd6 hk6 hc6 e0 HCS hck
        go_wp2
        go_roundw
        case rel => exact ⟨k + 1, by omega, by go_num, unhide HK6, unhide HD6⟩
        case measure => simp [intOf]; omega
      · have hkl : k = len := by omega
        subst hkl
        have HRD' := hide (unhide HRD wr rfl)
        rw [unhide HDR] at HRD'
        have hbz : Byt (List.replicate m 0) := fun z hz => by rw [List.eq_of_mem_replicate hz]; omega
        have HBZ := hide hbz
        clear hbz HRD
        go_wp2_with fail
        refine (rint_any R q (List.replicate m 0) 0 _ (unhide HBZ) (unhide HRD')).mono ?_
        rintro x w7 ⟨rfl, hr7, hk7⟩
        simp only [rdV, rdZ, rdE, List.length_replicate, show ¬ (8 ≤ m) from by omega, if_false, if_true] at hr7 ⊢
        have HK7 := hide ((unhide HKP).trans hk7 (by simpa using (show w.heap.size ≤ R from by omega)))
        have HD7 := hide hr7
        clear hr7 hk7
        go_wp2_with fail
        refine (rbyte_any R q [] 3 _ (by simp [Byt]) (unhide HD7)).mono ?_
        rintro x w8 ⟨rfl, hr8, hk8⟩
        simp only [rdV, rdZ, rdE, List.length_nil, show ¬ (1 ≤ 0) from by omega, if_false, show ¬ ((3 : Int) = 0) from by omega] at hr8 ⊢
        have HK8 := hide ((unhide HK7).trans hk8 (by simpa using (show w.heap.size ≤ R from by omega)))
        have HD8 := hide hr8
        clear hr8 hk8
        go_wp2_with fail
        refine (end_any R q [] 3 _ (unhide HD8)).mono ?_
        rintro x w9 ⟨rfl, rfl⟩
        rw [if_neg (by simp)]
        go_wp2
        go_ret
        exact ⟨rfl, (unhide HK8).below⟩

end Go.Proofs.Ytgjnmmekeaklpaa
