/-
  The second telling's generator and bit (ramekinref4).
-/
import Derived.Test.YtahjcahmlangiaaBe
import Derived.Test.YtahjcahmlangiaaRe
namespace Go.Proofs.Ytahjcahmlangiaa
open Go.RowKit

set_option maxRecDepth 100000 in
set_option maxHeartbeats 4000000 in
theorem rgen_any (w : World) : Calls Try.prog 14 #[] w fun e w' => ∃ v, e = .returned v ∧ Fr w.heap.size w' v genP ∧ Below w.heap.size w w' := by
  have HF1 := hide (one_fr w)
  have HK1 : Hid (Below w.heap.size w (w.alloc (.cells #[.int .u8 1] 5))) := (Below.refl _ w).alloc (Nat.le_refl _) _
  go_enter Try.func14, Try.ntmps14
  go_wp2_with fail
  go_loopw [1, 2] (fun v p wr => ∃ (k : Nat), k ≤ 4 ∧ p = .int .i64 (2 * (k : Int) + 1) ∧ Fr w.heap.size wr v (genK k) ∧ Below w.heap.size w wr) (fun _ p _ => 9 - (intOf p).toNat)
  case atStart => exact ⟨0, by omega, rfl, unhide HF1, unhide HK1⟩
  case round =>
    obtain ⟨k, hk, rfl, hF, hK⟩ := hrel
    have HF := hide hF
    have HK := hide hK
    clear hF hK
    by_cases hlt : k < 4
    · have hsz := (unhide HK).size
      obtain ⟨m, hm⟩ : ∃ m : Int, 2 * (k : Int) + 1 = m := ⟨_, rfl⟩
      have hm8 : m < 8 := by omega
      have hm0 : 1 ≤ m := by omega
      have HM := hide hm
      rw [hm]
      clear hm
      go_wp2_with fail
      refine (rminimal_any m wr).mono ?_
      rintro e w2 ⟨v2, rfl, hF2, hk2⟩
      rw [show (m % 255).toNat = 2 * k + 1 from by have := unhide HM; omega] at hF2
      obtain ⟨g1, hA1, hg1⟩ := (unhide HF).arg (genK_bs k)
      have HA1 := hide (hA1.below hk2)
      obtain ⟨g2, hA2, hg2⟩ := hF2.arg (minP_bs _)
      have HA2 := hide hA2
      have HK2 := hide ((unhide HK).trans (hk2.mono hsz))
      clear hA1 hA2 hF2 hk2
      go_wp2_with fail
      refine (rpmul_any _ _ _ _ _ _ _ (unhide HA1) (unhide HA2) (by have := genK_len k; omega) (by have := minP_len (2 * k + 1); omega)).mono ?_
      rintro e w3 ⟨v3, rfl, hF3, hk3⟩
      rw [genK_next hlt] at hF3
      have hsz2 := (unhide HK2).size
      have HF3 := hide (hF3.below (Below.refl _ _) hsz2)
      have HK3 := hide ((unhide HK2).trans (hk3.mono hsz2))
      clear hF3 hk3
      go_wp2_with fail
      go_roundw
      case rel => exact ⟨k + 1, by omega, by have := unhide HM; go_num, unhide HF3, unhide HK3⟩
      case measure => simp [intOf]; omega
    · have hk4 : k = 4 := by omega
      subst hk4
      go_wp2
      go_ret
      exact ⟨_, rfl, unhide HF, unhide HK⟩

set_option maxRecDepth 100000 in
set_option maxHeartbeats 2000000 in
theorem rbit_any (v : Value) (g : Nat) (s : List Nat) (k : Nat) (w : World) (hA : Arg w v g s) (hs : s.length ≤ 1000) (hk : k < 8 * s.length) :
    Calls Try.prog 27 #[v, .int .i64 (k : Int)] w fun e w' => e = .returned (.int .u8 ((cf (wb s) k : Nat) : Int)) ∧ w' = w := by
  obtain ⟨⟨ao, c, rfl, hc1, hc2, hnil, hr⟩, hbs⟩ := hA
  obtain ⟨o, rfl⟩ := row_some hr (by omega)
  have hc := row_cell hr (j := k / 8) (by omega)
  have hk1 : (k : Int) / 8 < (s.length : Int) := by omega
  have hk8 : k / 8 < s.length := by omega
  have q1 := bit_u8 (k % 8) (hbs (k / 8))
  have HW := hide (cf_wb s k)
  clear hr hnil
  go_enter Try.func27, Try.ntmps27
  go_wp2
  go_ret
  rw [unhide HW]
  exact ⟨rfl, rfl⟩

end Go.Proofs.Ytahjcahmlangiaa
