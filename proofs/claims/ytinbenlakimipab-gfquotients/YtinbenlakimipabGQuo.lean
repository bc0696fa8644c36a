/-
  The walk of GfQuotients.
-/
import Derived.Test.YtinbenlakimipabGlemB
namespace Go.Proofs.Ytinbenlakimipab
open Go.RowKit

set_option maxRecDepth 100000 in
set_option maxHeartbeats 4000000 in
theorem quot_walk (a : Nat) (n : Int) (ha : a < 256) (w : World) :
    Calls Try.prog 5 #[.int .u8 a, .int .i64 n] w fun x w' => x = .returned (.bool true) ∧ Below w.heap.size w w' := by
  have hn0 := Int.emod_nonneg n (show (600 : Int) ≠ 0 by omega)
  have hn1 := Int.emod_lt_of_pos n (show (0 : Int) < 600 by omega)
  by_cases h0 : a = 0
  · have h0' : ((a : Int) == 0) = true := by rw [beq_iff_eq]; omega
    clear h0
    go_enter Try.func5, Try.ntmps5
    go_wp2_with fail
    refine (known_any w).mono ?_
    rintro x w1 ⟨rfl, hk1⟩
    have HK1 := hide (hk1)
    clear hk1
    go_wp2_with fail
    refine (within_any n 600 _ (by omega) (by omega)).mono ?_
    rintro x w2 ⟨rfl, rfl⟩
    go_wp2_with fail
    obtain ⟨N, hN⟩ : ∃ N, 1 + n % 600 = N := ⟨_, rfl⟩
    rw [hN]
    have n0 : 1 ≤ N := by omega
    have n1 : N ≤ 600 := by omega
    clear hN hn0 hn1
    refine (pow_any a (-N) ha _).mono ?_
    rintro x v1 ⟨rfl, hv1⟩
    have HV1 := hide (Below.on (unhide HK1) hv1)
    clear hv1
    go_wp2_with fail
    refine (inv_any a ha _).mono ?_
    rintro x v2 ⟨rfl, hv2⟩
    have HV2 := hide (Below.on (unhide HV1) hv2)
    clear hv2
    go_wp2_with fail
    refine (pow_any (pw a (-1)) N (pw_lt _ _) _).mono ?_
    rintro x v3 ⟨rfl, hv3⟩
    have HV3 := hide (Below.on (unhide HV2) hv3)
    clear hv3
    rw [pw_quot ha (by omega)]
    go_wp2_with fail
    refine (inv_any a ha _).mono ?_
    rintro x v4 ⟨rfl, hv4⟩
    have HV4 := hide (Below.on (unhide HV3) hv4)
    clear hv4
    go_wp2_with fail
    refine (inv_any (pw a (-1)) (pw_lt _ _) _).mono ?_
    rintro x v5 ⟨rfl, hv5⟩
    have HV5 := hide (Below.on (unhide HV4) hv5)
    clear hv5
    rw [inv_inv ha]
    go_wp2
    go_ret
    exact ⟨by simp, unhide HV5⟩
  · have h0' : ((a : Int) == 0) = false := by rw [beq_eq_false_iff_ne]; omega
    go_enter Try.func5, Try.ntmps5
    go_wp2_with fail
    refine (known_any w).mono ?_
    rintro x w1 ⟨rfl, hk1⟩
    have HK1 := hide (hk1)
    clear hk1
    go_wp2_with fail
    refine (within_any n 600 _ (by omega) (by omega)).mono ?_
    rintro x w2 ⟨rfl, rfl⟩
    go_wp2_with fail
    obtain ⟨N, hN⟩ : ∃ N, 1 + n % 600 = N := ⟨_, rfl⟩
    rw [hN]
    have n0 : 1 ≤ N := by omega
    have n1 : N ≤ 600 := by omega
    clear hN hn0 hn1
    refine (pow_any a (-N) ha _).mono ?_
    rintro x v1 ⟨rfl, hv1⟩
    have HV1 := hide (Below.on (unhide HK1) hv1)
    clear hv1
    go_wp2_with fail
    refine (inv_any a ha _).mono ?_
    rintro x v2 ⟨rfl, hv2⟩
    have HV2 := hide (Below.on (unhide HV1) hv2)
    clear hv2
    go_wp2_with fail
    refine (pow_any (pw a (-1)) N (pw_lt _ _) _).mono ?_
    rintro x v3 ⟨rfl, hv3⟩
    have HV3 := hide (Below.on (unhide HV2) hv3)
    clear hv3
    rw [pw_quot ha (by omega)]
    go_wp2_with fail
    refine (pow_any a N ha _).mono ?_
    rintro x v4 ⟨rfl, hv4⟩
    have HV4 := hide (Below.on (unhide HV3) hv4)
    clear hv4
    go_wp2_with fail
    refine (pow_any a (-N) ha _).mono ?_
    rintro x v5 ⟨rfl, hv5⟩
    have HV5 := hide (Below.on (unhide HV4) hv5)
    clear hv5
    go_wp2_with fail
    refine (mul_any (pw a N) (pw a (-N)) (pw_lt _ _) (pw_lt _ _) _).mono ?_
    rintro x v6 ⟨rfl, hv6⟩
    have HV6 := hide (Below.on (unhide HV5) hv6)
    clear hv6
    rw [mul_quot (by omega) ha]
    go_wp2_with fail
    refine (inv_any a ha _).mono ?_
    rintro x v7 ⟨rfl, hv7⟩
    have HV7 := hide (Below.on (unhide HV6) hv7)
    clear hv7
    go_wp2_with fail
    refine (inv_any (pw a (-1)) (pw_lt _ _) _).mono ?_
    rintro x v8 ⟨rfl, hv8⟩
    have HV8 := hide (Below.on (unhide HV7) hv8)
    clear hv8
    rw [inv_inv ha]
    go_wp2
    go_ret
    exact ⟨by simp, unhide HV8⟩

theorem quot_walk' (a : Int) (n : Int) (ha : 0 ≤ a ∧ a ≤ 255) (w : World) :
    Calls Try.prog 5 #[.int .u8 a, .int .i64 n] w fun x w' => x = .returned (.bool true) ∧ Below w.heap.size w w' := by
  obtain ⟨a, rfl⟩ := Int.eq_ofNat_of_zero_le ha.1
  exact quot_walk a n (by omega) w

end Go.Proofs.Ytinbenlakimipab
