/-
  The walk of GfRound.
-/
import Derived.Test.YtinbenlakimipaaGlem
namespace Go.Proofs.Ytinbenlakimipaa
open Go.RowKit

set_option maxRecDepth 100000 in
set_option maxHeartbeats 4000000 in
theorem round_walk (n m k : Int) (w : World) :
    Calls Try.prog 6 #[.int .i64 n, .int .i64 m, .int .i64 k] w fun x w' => x = .returned (.bool true) ∧ Below w.heap.size w w' := by
  have hn0 := Int.emod_nonneg n (show (1000 : Int) ≠ 0 by omega)
  have hn1 := Int.emod_lt_of_pos n (show (0 : Int) < 1000 by omega)
  have hm0 := Int.emod_nonneg m (show (1000 : Int) ≠ 0 by omega)
  have hm1 := Int.emod_lt_of_pos m (show (0 : Int) < 1000 by omega)
  have hk0 := Int.emod_nonneg k (show (9 : Int) ≠ 0 by omega)
  have hk1 := Int.emod_lt_of_pos k (show (0 : Int) < 9 by omega)
  go_enter Try.func6, Try.ntmps6
  go_wp2_with fail
  refine (known_any w).mono ?_
  rintro x w1 ⟨rfl, hk1⟩
  have HK1 := hide (hk1)
  clear hk1
  go_wp2_with fail
  refine (within_any n 1000 _ (by omega) (by omega)).mono ?_
  rintro x w2 ⟨rfl, rfl⟩
  go_wp2_with fail
  refine (within_any m 1000 _ (by omega) (by omega)).mono ?_
  rintro x w3 ⟨rfl, rfl⟩
  go_wp2_with fail
  refine (within_any k 9 _ (by omega) (by omega)).mono ?_
  rintro x w4 ⟨rfl, rfl⟩
  go_wp2_with fail
  obtain ⟨N, hN⟩ : ∃ N, n % 1000 - 500 = N := ⟨_, rfl⟩
  obtain ⟨M, hM⟩ : ∃ M, m % 1000 - 500 = M := ⟨_, rfl⟩
  obtain ⟨K, hK⟩ : ∃ K, k % 9 = K := ⟨_, rfl⟩
  rw [hN, hM, hK]
  have n0 : -500 ≤ N := by omega
  have n1 : N < 500 := by omega
  have m0 : -500 ≤ M := by omega
  have m1 : M < 500 := by omega
  have k0 : 0 ≤ K := by omega
  have k1 : K < 9 := by omega
  clear hN hM hK hn0 hn1 hm0 hm1 hk0 hk1
  obtain ⟨p0, p1⟩ := prod_500 n0 n1 m0 m1
  refine (exp_any N _).mono ?_
  rintro x v1 ⟨rfl, hv1⟩
  have HV1 := hide (Below.on (unhide HK1) hv1)
  clear hv1
  go_wp2_with fail
  refine (exp_any (N + 255 * K) _).mono ?_
  rintro x v2 ⟨rfl, hv2⟩
  have HV2 := hide (Below.on (unhide HV1) hv2)
  clear hv2
  rw [X_congr (show (N + 255 * K) % 255 = N % 255 by omega)]
  go_wp2_with fail
  refine (exp_any (N + M) _).mono ?_
  rintro x v3 ⟨rfl, hv3⟩
  have HV3 := hide (Below.on (unhide HV2) hv3)
  clear hv3
  go_wp2_with fail
  refine (exp_any M _).mono ?_
  rintro x v4 ⟨rfl, hv4⟩
  have HV4 := hide (Below.on (unhide HV3) hv4)
  clear hv4
  go_wp2_with fail
  refine (mul_any (X N) (X M) (X_lt _) (X_lt _) _).mono ?_
  rintro x v5 ⟨rfl, hv5⟩
  have HV5 := hide (Below.on (unhide HV4) hv5)
  clear hv5
  rw [X_mul]
  go_wp2_with fail
  refine (pow_any (X N) M (X_lt _) _).mono ?_
  rintro x v6 ⟨rfl, hv6⟩
  have HV6 := hide (Below.on (unhide HV5) hv6)
  clear hv6
  rw [pw_X]
  go_wp2_with fail
  refine (exp_any (N * M) _).mono ?_
  rintro x v7 ⟨rfl, hv7⟩
  have HV7 := hide (Below.on (unhide HV6) hv7)
  clear hv7
  go_wp2_with fail
  refine (log_any (X N) (X_lt _) _).mono ?_
  rintro x v8 ⟨rfl, hv8⟩
  have HV8 := hide (Below.on (unhide HV7) hv8)
  clear hv8
  rw [lg_X]
  go_wp2_with fail
  refine (within_any N 255 _ (by omega) (by omega)).mono ?_
  rintro x v9 ⟨rfl, rfl⟩
  go_wp2
  go_ret
  exact ⟨by simp, unhide HV8⟩

end Go.Proofs.Ytinbenlakimipaa
