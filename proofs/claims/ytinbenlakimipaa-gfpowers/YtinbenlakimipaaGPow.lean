/-
  The walk of GfPowers.
-/
import Derived.Test.YtinbenlakimipaaGlem
namespace Go.Proofs.Ytinbenlakimipaa
open Go.RowKit

set_option maxRecDepth 100000 in
set_option maxHeartbeats 4000000 in
theorem powers_walk (a : Nat) (n : Int) (ha : a < 256) (w : World) :
    Calls Try.prog 4 #[.int .u8 a, .int .i64 n] w fun x w' => x = .returned (.bool true) ∧ Below w.heap.size w w' := by
  have hn0 := Int.emod_nonneg n (show (9 : Int) ≠ 0 by omega)
  have hn1 := Int.emod_lt_of_pos n (show (0 : Int) < 9 by omega)
  go_enter Try.func4, Try.ntmps4
  go_wp2_with fail
  refine (known_any w).mono ?_
  rintro x w1 ⟨rfl, hk1⟩
  have HK1 := hide (hk1)
  clear hk1
  go_wp2_with fail
  refine (exp_any n _).mono ?_
  rintro x w2 ⟨rfl, hk2⟩
  have HK2 := hide (Below.on (unhide HK1) hk2)
  clear hk2
  go_wp2_with fail
  refine (rexp_any n _).mono ?_
  rintro x w3 ⟨rfl, rfl⟩
  go_wp2_with fail
  refine (log_any a ha _).mono ?_
  rintro x w4 ⟨rfl, hk4⟩
  have HK4 := hide (Below.on (unhide HK2) hk4)
  clear hk4
  go_wp2_with fail
  refine (rlog_any a ha _).mono ?_
  rintro x w5 ⟨rfl, rfl⟩
  go_wp2_with fail
  refine (inv_any a ha _).mono ?_
  rintro x w6 ⟨rfl, hk6⟩
  have HK6 := hide (Below.on (unhide HK4) hk6)
  clear hk6
  go_wp2_with fail
  refine (rinv_any a ha _).mono ?_
  rintro x w7 ⟨rfl, rfl⟩
  go_wp2_with fail
  refine (pow_any a n ha _).mono ?_
  rintro x w8 ⟨rfl, hk8⟩
  have HK8 := hide (Below.on (unhide HK6) hk8)
  clear hk8
  go_wp2_with fail
  refine (rpow_any a n ha _).mono ?_
  rintro x w9 ⟨rfl, rfl⟩
  go_wp2_with fail
  refine (within_any n 9 _ (by omega) (by omega)).mono ?_
  rintro x w10 ⟨rfl, rfl⟩
  go_wp2_with fail
  refine (pow_any a (n % 9 - 4) ha _).mono ?_
  rintro x w11 ⟨rfl, hk11⟩
  have HK11 := hide (Below.on (unhide HK8) hk11)
  clear hk11
  go_wp2_with fail
  refine (within_any n 9 _ (by omega) (by omega)).mono ?_
  rintro x w12 ⟨rfl, rfl⟩
  go_wp2_with fail
  refine (rpow_any a (n % 9 - 4) ha _).mono ?_
  rintro x w13 ⟨rfl, rfl⟩
  go_wp2
  go_ret
  exact ⟨by simp, unhide HK11⟩

theorem powers_walk' (a : Int) (n : Int) (ha : 0 ≤ a ∧ a ≤ 255) (w : World) :
    Calls Try.prog 4 #[.int .u8 a, .int .i64 n] w fun x w' => x = .returned (.bool true) ∧ Below w.heap.size w w' := by
  obtain ⟨a, rfl⟩ := Int.eq_ofNat_of_zero_le ha.1
  exact powers_walk a n (by omega) w

end Go.Proofs.Ytinbenlakimipaa
