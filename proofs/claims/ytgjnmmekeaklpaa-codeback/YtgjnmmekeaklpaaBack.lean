/-
  The walk of CodeBack.
-/
import Derived.Test.YtgjnmmekeaklpaaByte
import Derived.Deep.RegionHeld3
import Derived.Deep.DrawnRows
namespace Go.Proofs.Ytgjnmmekeaklpaa
open Go.RowKit
attribute [local go_sem ↓] Go.wp_at_zero Go.wp_at_succ

theorem rd_heap {T : TypeId} {w w' : World} {R g : Nat} {zs : List Int} {e : Int} (hr : Rd T w R g zs e) (h : w'.heap = w.heap) : Rd T w' R g zs e := by
  obtain ⟨hne, ao, cap, hb, hl, hm, hrow⟩ := hr
  refine ⟨hne, ao, cap, by rw [h]; exact hb, hl, hm, ?_⟩
  rcases hrow with h0 | ⟨o, rfl, hc⟩
  · exact .inl h0
  · exact .inr ⟨o, rfl, fun j hj => by rw [World.cell?_of_block (w := w) (by rw [h])]; exact hc j hj⟩

/-- Bools in memory. -/
def BRow (w : World) (ao : Option Addr) (g len : Nat) (B : Nat → Bool) : Prop := len = 0 ∨ ∃ o, ao = some ⟨g, o, none⟩ ∧ ∀ j, j < len → w.cell? ⟨g, o + j, none⟩ = some (.bool (B j))

theorem brow_in {w : World} {x : Addr} {len cap : Nat} {B : Nat → Bool} (h1 : len ≤ cap) (h4 : ∀ i, i < cap → w.cell? (x.add i) = some (.bool (B i))) : ∃ g, BRow w (some x) g len B := by
  by_cases h0 : 0 < len
  · obtain ⟨b, off, spot⟩ := x
    have hspot : spot = none := by simpa [Addr.add] using World.cell?_spot (h4 0 (by omega))
    subst hspot
    exact ⟨b, .inr ⟨off, rfl, fun j hj => by rw [← Go.WideShapes.add_plain]; exact h4 j (by omega)⟩⟩
  · exact ⟨0, .inl (by omega)⟩

/-- The bytes of one number, by its kind; of the first k numbers. -/
def one (z : Int) (b : Bool) : List Int := by8 (if b then 1 else 8) (IntKind.u64.wrap z)
def enc (ns : List Int) (K : Nat → Bool) : Nat → List Int
  | 0 => []
  | k + 1 => enc ns K k ++ one (ns.getD k 0) (K k)

theorem one_length (z : Int) (b : Bool) : (one z b).length = if b then 1 else 8 := by8_length _ _
theorem enc_length (ns : List Int) (K : Nat → Bool) (k : Nat) : (enc ns K k).length ≤ 8 * k := by
  induction k with
  | zero => simp [enc]
  | succ k ih =>
    rw [enc, List.length_append, one_length]
    split <;> omega
theorem enc_byt (ns : List Int) (K : Nat → Bool) (k : Nat) : Byt (enc ns K k) := by
  induction k with
  | zero => simp [enc, Byt]
  | succ k ih =>
    intro z hz
    rw [enc] at hz
    rcases List.mem_append.1 hz with h | h
    · exact ih z h
    · exact by8_byt _ _ z h
theorem enc_more (ns : List Int) (K : Nat → Bool) (k j : Nat) : ∃ zz, enc ns K (k + j) = enc ns K k ++ zz := by
  induction j with
  | zero => exact ⟨[], by simp⟩
  | succ j ih =>
    obtain ⟨zz, h⟩ := ih
    exact ⟨zz ++ one (ns.getD (k + j) 0) (K (k + j)), by rw [← Nat.add_assoc, enc, h, List.append_assoc]⟩
theorem enc_next (ns : List Int) (K : Nat → Bool) (k n : Nat) (zz : List Int) (hk : k < n) (h : enc ns K n = enc ns K k ++ zz) :
    ∃ zz', zz = one (ns.getD k 0) (K k) ++ zz' ∧ enc ns K n = enc ns K (k + 1) ++ zz' := by
  obtain ⟨z2, h2⟩ := enc_more ns K (k + 1) (n - (k + 1))
  rw [show k + 1 + (n - (k + 1)) = n from by omega] at h2
  refine ⟨z2, ?_, h2⟩
  rw [h, enc, List.append_assoc] at h2
  exact List.append_cancel_left h2

theorem rd_one8 (z : Int) (zz : List Int) (h1 : -9223372036854775808 ≤ z) (h2 : z ≤ 9223372036854775807) :
    rdV 8 (one z false ++ zz) = z ∧ rdZ 8 (one z false ++ zz) 0 = zz ∧ rdE 8 (one z false ++ zz) 0 = 0 := by
  have hl : (one z false).length = 8 := by rw [one_length]; rfl
  have h8 : 8 ≤ (one z false ++ zz).length := by rw [List.length_append, hl]; omega
  refine ⟨?_, by unfold rdZ; rw [if_pos h8, ← hl, List.drop_left], by unfold rdE; rw [if_pos h8]⟩
  unfold rdV
  rw [if_pos h8, show (one z false ++ zz).take 8 = one z false from by rw [← hl, List.take_left]]
  unfold one
  rw [if_neg (by simp), le_by8, show (256 : Int) ^ 8 = 18446744073709551616 from by decide, IntKind.wrap_u64]
  unfold wrap64
  omega

theorem rd_one1 (z : Int) (zz : List Int) : rdV 1 (one z true ++ zz) = z % 256 ∧ rdZ 1 (one z true ++ zz) 0 = zz ∧ rdE 1 (one z true ++ zz) 0 = 0 := by
  have hl : (one z true).length = 1 := by rw [one_length]; rfl
  have h8 : 1 ≤ (one z true ++ zz).length := by rw [List.length_append, hl]; omega
  refine ⟨?_, by unfold rdZ; rw [if_pos h8, ← hl, List.drop_left], by unfold rdE; rw [if_pos h8]⟩
  unfold rdV
  rw [if_pos h8, show (one z true ++ zz).take 1 = one z true from by rw [← hl, List.take_left]]
  unfold one
  rw [if_pos rfl, le_by8, show (256 : Int) ^ 1 = 256 from by decide, IntKind.wrap_u64]
  unfold wrap64
  omega

set_option maxRecDepth 100000 in
set_option maxHeartbeats 4000000 in
theorem back_walk (a : Option Addr) (g len cap : Nat) (ns : List Int) (b : Option Addr) (h m c : Nat) (B : Nat → Bool) (w : World) (hl : ns.length = len) (hlm : len ≤ maxLen) (hr : IRow w a g ns)
    (hw : ∀ z ∈ ns, -9223372036854775808 ≤ z ∧ z ≤ 9223372036854775807) (hb : BRow w b h m B) :
    Calls Try.prog 5 #[.slice a len cap, .slice b m c] w fun x w' => x = .returned (.bool true) ∧ Below w.heap.size w w' := by
  have HR := hide hr
  have HL := hide hl
  have HB := hide hb
  have HW := hide hw
  unfold maxLen at hlm
  obtain ⟨n, hn1, hn2, hn3⟩ : ∃ n : Nat, n ≤ len ∧ n ≤ 30 ∧ (len ≤ n ∨ 30 ≤ n) := ⟨min len 30, by omega, by omega, by omega⟩
  obtain ⟨K, hK⟩ : ∃ K : Nat → Bool, ∀ k, (decide (k < m) && B k) = K k := ⟨_, fun _ => rfl⟩
  have HKD := hide hK
  clear hr hl hb hw hK
  by_cases h30 : 30 < len
  all_goals
    go_enter Try.func5, Try.ntmps5
    go_wp2_with fail
    refine (known_any w).mono ?_
    rintro x w1 ⟨rfl, hk1⟩
    have HK1 := hide hk1
    clear hk1
    go_wp2_with fail
    go_loopw [5, 7] (fun v i wr => ∃ k q L C : Nat, ∃ ao : Option Addr, k ≤ n ∧ i = .int .i64 k ∧ v = .slice ao L C ∧ (enc ns K k).length = L ∧ Row wr ao q (enc ns K k) ∧ Kp [] w wr) (fun _ i _ => n - (intOf i).toNat)
    case atStart => exact ⟨0, 0, 0, 0, none, by omega, rfl, rfl, rfl, .inl rfl, unhide HK1⟩
    case round =>
      obtain ⟨k, q, L, C, ao, hkn, rfl, rfl, hL, hrow, hkp⟩ := hrel
      have HLL := hide hL
      have HRW := hide hrow
      have HKP := hide hkp
      have hL8 : L ≤ 240 := by have := enc_length ns K k; omega
      clear hL hrow hkp
      by_cases hlt : k < n
      · have hlt1 : k < len := by omega
        have hlt2 : k < 30 := by omega
        obtain ⟨o, rfl, hcs⟩ : ∃ o, a = some ⟨g, o, none⟩ ∧ ∀ j, j < ns.length → w.cell? ⟨g, o + j, none⟩ = some (.int .i64 (ns.getD j 0)) := by
          rcases unhide HR with h0 | h0
          · have := unhide HL; rw [h0] at this; simp at this; omega
          · exact h0
        have hck := (unhide HKP).cell (hcs k (by rw [unhide HL]; exact hlt1)) (by simp)
        clear hcs
        have HEN : Hid (enc ns K (k + 1) = enc ns K k ++ one (ns.getD k 0) (K k)) := rfl
        generalize ns.getD k 0 = z at *
        have hcase : (k < m ∧ K k = B k) ∨ (m ≤ k ∧ K k = false) := by
          by_cases hkm : k < m
          · exact .inl ⟨hkm, by rw [← unhide HKD k]; simp [hkm]⟩
          · exact .inr ⟨by omega, by rw [← unhide HKD k]; simp [hkm]⟩
        rcases hcase with ⟨hkm, hKB⟩ | ⟨hkm, hKB⟩
        · obtain ⟨o2, rfl, hbs⟩ : ∃ o, b = some ⟨h, o, none⟩ ∧ ∀ j, j < m → w.cell? ⟨h, o + j, none⟩ = some (.bool (B j)) := by
            rcases unhide HB with h0 | h0
            · omega
            · exact h0
          have hcb := (unhide HKP).cell (hbs k hkm) (by simp)
          clear hbs
          rw [hKB] at HEN
          clear hKB
          cases hBk : B k
          · rw [hBk] at hcb HEN
            clear hBk
            go_wp2_with fail
            refine (int_any ao q L C z (enc ns K k) wr (by omega) (unhide HLL) (unhide HRW)).mono ?_
            rintro x w2 ⟨q2, rfl, hq2, ho2, hk2⟩
            have HO2 := hide ho2
            have HK2 := hide ((unhide HKP).trans hk2 (by simp))
            clear ho2 hk2
            go_wp2
            go_roundw
            case rel =>
              have e1 : enc ns K k ++ by8 8 (IntKind.u64.wrap z) = enc ns K (k + 1) := (unhide HEN).symm
              have := unhide HO2
              rw [e1] at this
              exact ⟨k + 1, q2, _, _, _, by omega, by go_num, rfl, len_of_owns this, row_of_owns this, unhide HK2⟩
            case measure => simp [intOf]; omega
          · rw [hBk] at hcb HEN
            clear hBk
            go_wp2_with fail
            refine (byte_any ao q L C z (enc ns K k) wr (by omega) (unhide HLL) (unhide HRW)).mono ?_
            rintro x w2 ⟨q2, rfl, hq2, ho2, hk2⟩
            have HO2 := hide ho2
            have HK2 := hide ((unhide HKP).trans hk2 (by simp))
            clear ho2 hk2
            go_wp2
            go_roundw
            case rel =>
              have e1 : enc ns K k ++ by8 1 (IntKind.u64.wrap z) = enc ns K (k + 1) := (unhide HEN).symm
              have := unhide HO2
              rw [e1] at this
              exact ⟨k + 1, q2, _, _, _, by omega, by go_num, rfl, len_of_owns this, row_of_owns this, unhide HK2⟩
            case measure => simp [intOf]; omega
        · rw [hKB] at HEN
          clear hKB
          go_wp2_with fail
          refine (int_any ao q L C z (enc ns K k) wr (by omega) (unhide HLL) (unhide HRW)).mono ?_
          rintro x w2 ⟨q2, rfl, hq2, ho2, hk2⟩
          have HO2 := hide ho2
          have HK2 := hide ((unhide HKP).trans hk2 (by simp))
          clear ho2 hk2
          go_wp2
          go_roundw
          case rel =>
            have e1 : enc ns K k ++ by8 8 (IntKind.u64.wrap z) = enc ns K (k + 1) := (unhide HEN).symm
            have := unhide HO2
            rw [e1] at this
            exact ⟨k + 1, q2, _, _, _, by omega, by go_num, rfl, len_of_owns this, row_of_owns this, unhide HK2⟩
          case measure => simp [intOf]; omega
      · have hkn' : n = k := by omega
        subst hkn'
        go_wp2_with fail
        refine (new_any ao q L C (enc ns K n) wr (by omega) (unhide HLL) (unhide HRW)).mono ?_
        rintro x w5 ⟨R, q5, rfl, hR, hq, hd5, hk5⟩
        have HK5 := hide ((unhide HKP).trans hk5 (by simp))
        have HD5 := hide hd5
        have hRw : w.heap.size ≤ R := by have := (unhide HKP).size; omega
        clear hd5 hk5
        go_wp2_with fail
        go_loopw [9] (fun i wr => ∃ j : Nat, ∃ zz : List Int, j ≤ n ∧ i = .int .i64 j ∧ enc ns K n = enc ns K j ++ zz ∧ Rd 49 wr R q5 zz 0 ∧ Kp [] w wr) (fun i _ => n - (intOf i).toNat)
        case atStart => exact ⟨0, enc ns K n, by omega, rfl, rfl, unhide HD5, unhide HK5⟩
        case round =>
          obtain ⟨j, zz, hjn, rfl, henc, hrd, hkp2⟩ := hrel
          have HKP2 := hide hkp2
          have HRD := hide (show ∀ W : World, W.heap = wr.heap → Rd 49 W R q5 zz 0 from fun W hW => rd_heap hrd hW)
          have HENC := hide henc
          have HBY : Hid (Byt zz) := fun y hy => enc_byt ns K n y (by rw [henc]; exact List.mem_append_right _ hy)
          clear hrd hkp2 henc HD5 HK5
          by_cases hlt : j < n
          · have hlt1 : j < len := by omega
            have hlt2 : j < 30 := by omega
            obtain ⟨o, rfl, hcs⟩ : ∃ o, a = some ⟨g, o, none⟩ ∧ ∀ j, j < ns.length → w.cell? ⟨g, o + j, none⟩ = some (.int .i64 (ns.getD j 0)) := by
              rcases unhide HR with h0 | h0
              · have := unhide HL; rw [h0] at this; simp at this; omega
              · exact h0
            have hck := (unhide HKP2).cell (hcs j (by rw [unhide HL]; exact hlt1)) (by simp)
            have hg : g < w.heap.size := block_lt_of_cell (hcs j (by rw [unhide HL]; exact hlt1))
            have hgR : g ≠ R := by omega
            clear hcs
            have hzz : -9223372036854775808 ≤ ns.getD j 0 ∧ ns.getD j 0 ≤ 9223372036854775807 := by
              rw [List.getD_eq_getElem?_getD, List.getElem?_eq_getElem (by rw [unhide HL]; exact hlt1)]
              exact unhide HW _ (List.getElem_mem _)
            obtain ⟨zz2, hzz2, henc2⟩ := enc_next ns K j n zz hlt (unhide HENC)
            have HEN2 := hide henc2
            have HZ2 := hide hzz2
            clear hzz2 henc2 HENC
            generalize ns.getD j 0 = z at *
            obtain ⟨hz1, hz2⟩ := hzz
            have hj0 : (0 : Int) ≤ (j : Int) := by omega
            have hj1 : (j : Int) < (len : Int) := by omega
            have hcase : (j < m ∧ K j = B j) ∨ (m ≤ j ∧ K j = false) := by
              by_cases hkm : j < m
              · exact .inl ⟨hkm, by rw [← unhide HKD j]; simp [hkm]⟩
              · exact .inr ⟨by omega, by rw [← unhide HKD j]; simp [hkm]⟩
            rcases hcase with ⟨hkm, hKB⟩ | ⟨hkm, hKB⟩
            · obtain ⟨o2, rfl, hbs⟩ : ∃ o, b = some ⟨h, o, none⟩ ∧ ∀ j, j < m → w.cell? ⟨h, o + j, none⟩ = some (.bool (B j)) := by
                rcases unhide HB with h0 | h0
                · omega
                · exact h0
              have hcb := (unhide HKP2).cell (hbs j hkm) (by simp)
              clear hbs
              rw [hKB] at HZ2
              clear hKB
              cases hBk : B j
              · rw [hBk] at hcb HZ2
                clear hBk
                have HV : Hid (rdV 8 zz = z ∧ rdZ 8 zz 0 = zz2 ∧ rdE 8 zz 0 = 0) := by rw [unhide HZ2]; exact rd_one8 z zz2 hz1 hz2
                go_wp2_with fail
                go_region_held3 (fun w' => w'.cell? ⟨g, o + j, none⟩ = some (.int .i64 z)) (first | assumption | go_keep)
                  (first | (go_at_call 17; refine (rint_any R q5 zz 0 _ ?_ ?_).mono ?_; (exact unhide HBY); (exact unhide HRD _ rfl); rintro e w6 ⟨rfl, hd6, hk6⟩; have hc6 : w6.cell? ⟨g, o + j, none⟩ = some (.int .i64 z) := hk6.cell (by assumption) (by simpa using hgR)))
                have e0 : (rdV 8 zz != z) = false := by rw [(unhide HV).1]; simp
                rw [e0]
                rw [(unhide HV).2.1, (unhide HV).2.2] at hd6
                have HD6 := hide hd6
                have HK6 : Hid (Kp [] w _) := hide (((unhide HKP2).drew).trans hk6 (by simpa using hRw))
                clear hd6 hk6 hc6 e0 hck
                go_wp2
                go_roundw
                case rel => exact ⟨j + 1, zz2, by omega, by go_num, unhide HEN2, unhide HD6, unhide HK6⟩
                case measure => simp [intOf]; omega
              · rw [hBk] at hcb HZ2
                clear hBk
                have HV : Hid (rdV 1 zz = z % 256 ∧ rdZ 1 zz 0 = zz2 ∧ rdE 1 zz 0 = 0) := by rw [unhide HZ2]; exact rd_one1 z zz2
                go_wp2_with fail
                go_region_held3 (fun w' => w'.cell? ⟨g, o + j, none⟩ = some (.int .i64 z)) (first | assumption | go_keep)
                  (first | (go_at_call 19; refine (rbyte_any R q5 zz 0 _ ?_ ?_).mono ?_; (exact unhide HBY); (exact unhide HRD _ rfl); rintro e w6 ⟨rfl, hd6, hk6⟩; have hc6 : w6.cell? ⟨g, o + j, none⟩ = some (.int .i64 z) := hk6.cell (by assumption) (by simpa using hgR)) | (go_at_call 16; refine (within_any _ 256 _ ?_ ?_).mono ?_; omega; omega; rintro e w7 ⟨rfl, rfl⟩))
                have e0 : (rdV 1 zz != z % 256) = false := by rw [(unhide HV).1]; simp
                rw [e0]
                rw [(unhide HV).2.1, (unhide HV).2.2] at hd6
                have HD6 := hide hd6
                have HK6 : Hid (Kp [] w _) := hide (((unhide HKP2).drew).trans hk6 (by simpa using hRw))
                clear hd6 hk6 hc6 e0 hck
                go_wp2
                go_roundw
                case rel => exact ⟨j + 1, zz2, by omega, by go_num, unhide HEN2, unhide HD6, unhide HK6⟩
                case measure => simp [intOf]; omega
            · rw [hKB] at HZ2
              clear hKB
              have HV : Hid (rdV 8 zz = z ∧ rdZ 8 zz 0 = zz2 ∧ rdE 8 zz 0 = 0) := by rw [unhide HZ2]; exact rd_one8 z zz2 hz1 hz2
              go_wp2_with fail
              go_region_held3 (fun w' => w'.cell? ⟨g, o + j, none⟩ = some (.int .i64 z)) (first | assumption | go_keep)
                (first | (go_at_call 17; refine (rint_any R q5 zz 0 _ ?_ ?_).mono ?_; (exact unhide HBY); (exact unhide HRD _ rfl); rintro e w6 ⟨rfl, hd6, hk6⟩; have hc6 : w6.cell? ⟨g, o + j, none⟩ = some (.int .i64 z) := hk6.cell (by assumption) (by simpa using hgR)))
              have e0 : (rdV 8 zz != z) = false := by rw [(unhide HV).1]; simp
              rw [e0]
              rw [(unhide HV).2.1, (unhide HV).2.2] at hd6
              have HD6 := hide hd6
              have HK6 : Hid (Kp [] w _) := hide (((unhide HKP2).drew).trans hk6 (by simpa using hRw))
              clear hd6 hk6 hc6 e0 hck
              go_wp2
              go_roundw
              case rel => exact ⟨j + 1, zz2, by omega, by go_num, unhide HEN2, unhide HD6, unhide HK6⟩
              case measure => simp [intOf]; omega
          · have hjn' : n = j := by omega
            subst hjn'
            have hzz0 : zz = [] := by
              have := unhide HENC
              have h2 := congrArg List.length this
              rw [List.length_append] at h2
              exact List.eq_nil_of_length_eq_zero (by omega)
            subst hzz0
            have HRD' := hide (unhide HRD wr rfl)
            clear HRD
            go_wp2_with fail
            refine (end_any R q5 [] 0 _ (unhide HRD')).mono ?_
            rintro x w9 ⟨rfl, rfl⟩
            rw [if_neg (by simp)]
            go_wp2
            go_ret
            exact ⟨rfl, (unhide HKP2).below⟩

end Go.Proofs.Ytgjnmmekeaklpaa
