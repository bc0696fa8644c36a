/-
  The walk of GfDoubles.
-/
import Derived.Test.YtinbenlakimipaaGlem
namespace Go.Proofs.Ytinbenlakimipaa
open Go.RowKit

set_option maxRecDepth 100000 in
set_option maxHeartbeats 4000000 in
theorem doubles_walk (a : Nat) (n : Int) (ha : a < 256) (w : World) :
    Calls Try.prog 8 #[.int .u8 a, .int .i64 n] w fun x w' => x = .returned (.bool true) ∧ Below w.heap.size w w' := by
  have hn0 := Int.emod_nonneg n (show (255 : Int) ≠ 0 by omega)
  have hn1 := Int.emod_lt_of_pos n (show (0 : Int) < 255 by omega)
  have hd := dbl_lt ha
  by_cases hbig : 2 * a ≤ 255
  · have e1 := dbl_small hbig
    go_enter Try.func8, Try.ntmps8
    go_wp2_with fail
    refine (known_any w).mono ?_
    rintro x w1 ⟨rfl, hk1⟩
    have HK1 := hide (hk1)
    clear hk1
    go_wp2_with fail
    refine (within_any n 255 _ (by omega) (by omega)).mono ?_
    rintro x w2 ⟨rfl, rfl⟩
    go_wp2_with fail
    refine (mul_any a 2 ha (by omega) _).mono ?_
    rintro x w3 ⟨rfl, hk3⟩
    have HK3 := hide (Below.on (unhide HK1) hk3)
    clear hk3
    rw [gmul_two ha]
    go_wp2_with fail
    refine (exp_any (n % 255) _).mono ?_
    rintro x w4 ⟨rfl, hk4⟩
    have HK4 := hide (Below.on (unhide HK3) hk4)
    clear hk4
    go_wp2_with fail
    refine (mul_any (X (n % 255)) 2 (X_lt _) (by omega) _).mono ?_
    rintro x w5 ⟨rfl, hk5⟩
    have HK5 := hide (Below.on (unhide HK4) hk5)
    clear hk5
    rw [gmul_two (X_lt _), dbl_X]
    go_wp2_with fail
    refine (exp_any (n % 255 + 1) _).mono ?_
    rintro x w6 ⟨rfl, hk6⟩
    have HK6 := hide (Below.on (unhide HK5) hk6)
    clear hk6
    go_wp2
    go_ret
    exact ⟨by simp, unhide HK6⟩
  · have e1 := dbl_big ha hbig
    go_enter Try.func8, Try.ntmps8
    go_wp2_with fail
    refine (known_any w).mono ?_
    rintro x w1 ⟨rfl, hk1⟩
    have HK1 := hide (hk1)
    clear hk1
    go_wp2_with fail
    refine (within_any n 255 _ (by omega) (by omega)).mono ?_
    rintro x w2 ⟨rfl, rfl⟩
    go_wp2_with fail
    refine (mul_any a 2 ha (by omega) _).mono ?_
    rintro x w3 ⟨rfl, hk3⟩
    have HK3 := hide (Below.on (unhide HK1) hk3)
    clear hk3
    rw [gmul_two ha]
    go_wp2_with fail
    refine (exp_any (n % 255) _).mono ?_
    rintro x w4 ⟨rfl, hk4⟩
    have HK4 := hide (Below.on (unhide HK3) hk4)
    clear hk4
    go_wp2_with fail
    refine (mul_any (X (n % 255)) 2 (X_lt _) (by omega) _).mono ?_
    rintro x w5 ⟨rfl, hk5⟩
    have HK5 := hide (Below.on (unhide HK4) hk5)
    clear hk5
    rw [gmul_two (X_lt _), dbl_X]
    go_wp2_with fail
    refine (exp_any (n % 255 + 1) _).mono ?_
    rintro x w6 ⟨rfl, hk6⟩
    have HK6 := hide (Below.on (unhide HK5) hk6)
    clear hk6
    go_wp2
    go_ret
    exact ⟨by simp, unhide HK6⟩

theorem doubles_walk' (a : Int) (n : Int) (ha : 0 ≤ a ∧ a ≤ 255) (w : World) :
    Calls Try.prog 8 #[.int .u8 a, .int .i64 n] w fun x w' => x = .returned (.bool true) ∧ Below w.heap.size w w' := by
  obtain ⟨a, rfl⟩ := Int.eq_ofNat_of_zero_le ha.1
  exact doubles_walk a n (by omega) w

end Go.Proofs.Ytinbenlakimipaa
