/-
  The walk of GfSquares.
-/
import Derived.Test.YtinbenlakimipabGlemB
namespace Go.Proofs.Ytinbenlakimipab
open Go.RowKit

set_option maxRecDepth 100000 in
set_option maxHeartbeats 4000000 in
theorem squares_walk (a b : Nat) (ha : a < 256) (hb : b < 256) (w : World) :
    Calls Try.prog 4 #[.int .u8 a, .int .u8 b] w fun x w' => x = .returned (.bool true) ∧ Below w.heap.size w w' := by
  have hx1 := bits_xor_u8 ha hb
  have hx2 := bits_xor_u8 (pw_lt a 2) (pw_lt b 2)
  by_cases h0 : a = 0
  · have h0' : ((a : Int) == 0) = true := by rw [beq_iff_eq]; omega
    clear h0
    go_enter Try.func4, Try.ntmps4
    go_wp2_with fail
    refine (known_any w).mono ?_
    rintro x w1 ⟨rfl, hk1⟩
    have HK1 := hide (hk1)
    clear hk1
    go_wp2_with fail
    refine (pow_any (a ^^^ b) 2 (xor_lt ha hb) _).mono ?_
    rintro x w2 ⟨rfl, hk2⟩
    have HK2 := hide (Below.on (unhide HK1) hk2)
    clear hk2
    rw [sum_sq ha hb]
    go_wp2_with fail
    refine (pow_any a 2 ha _).mono ?_
    rintro x w3 ⟨rfl, hk3⟩
    have HK3 := hide (Below.on (unhide HK2) hk3)
    clear hk3
    go_wp2_with fail
    refine (pow_any b 2 hb _).mono ?_
    rintro x w4 ⟨rfl, hk4⟩
    have HK4 := hide (Below.on (unhide HK3) hk4)
    clear hk4
    go_wp2_with fail
    refine (pow_any a 128 ha _).mono ?_
    rintro x w5 ⟨rfl, hk5⟩
    have HK5 := hide (Below.on (unhide HK4) hk5)
    clear hk5
    go_wp2_with fail
    refine (pow_any (pw a 128) 2 (pw_lt _ _) _).mono ?_
    rintro x w6 ⟨rfl, hk6⟩
    have HK6 := hide (Below.on (unhide HK5) hk6)
    clear hk6
    rw [pw_half ha]
    go_wp2_with fail
    refine (pow_any a 256 ha _).mono ?_
    rintro x w7 ⟨rfl, hk7⟩
    have HK7 := hide (Below.on (unhide HK6) hk7)
    clear hk7
    rw [pw_256 ha]
    go_wp2_with fail
    refine (pow_any a 0 ha _).mono ?_
    rintro x w8 ⟨rfl, hk8⟩
    have HK8 := hide (Below.on (unhide HK7) hk8)
    clear hk8
    rw [pw_nought]
    go_wp2
    go_ret
    exact ⟨by simp, unhide HK8⟩
  · have h0' : ((a : Int) == 0) = false := by rw [beq_eq_false_iff_ne]; omega
    go_enter Try.func4, Try.ntmps4
    go_wp2_with fail
    refine (known_any w).mono ?_
    rintro x w1 ⟨rfl, hk1⟩
    have HK1 := hide (hk1)
    clear hk1
    go_wp2_with fail
    refine (pow_any (a ^^^ b) 2 (xor_lt ha hb) _).mono ?_
    rintro x w2 ⟨rfl, hk2⟩
    have HK2 := hide (Below.on (unhide HK1) hk2)
    clear hk2
    rw [sum_sq ha hb]
    go_wp2_with fail
    refine (pow_any a 2 ha _).mono ?_
    rintro x w3 ⟨rfl, hk3⟩
    have HK3 := hide (Below.on (unhide HK2) hk3)
    clear hk3
    go_wp2_with fail
    refine (pow_any b 2 hb _).mono ?_
    rintro x w4 ⟨rfl, hk4⟩
    have HK4 := hide (Below.on (unhide HK3) hk4)
    clear hk4
    go_wp2_with fail
    refine (pow_any a 128 ha _).mono ?_
    rintro x w5 ⟨rfl, hk5⟩
    have HK5 := hide (Below.on (unhide HK4) hk5)
    clear hk5
    go_wp2_with fail
    refine (pow_any (pw a 128) 2 (pw_lt _ _) _).mono ?_
    rintro x w6 ⟨rfl, hk6⟩
    have HK6 := hide (Below.on (unhide HK5) hk6)
    clear hk6
    rw [pw_half ha]
    go_wp2_with fail
    refine (pow_any a 256 ha _).mono ?_
    rintro x w7 ⟨rfl, hk7⟩
    have HK7 := hide (Below.on (unhide HK6) hk7)
    clear hk7
    rw [pw_256 ha]
    go_wp2_with fail
    refine (pow_any a 255 ha _).mono ?_
    rintro x w8 ⟨rfl, hk8⟩
    have HK8 := hide (Below.on (unhide HK7) hk8)
    clear hk8
    rw [pw_255 (by omega) ha]
    go_wp2_with fail
    refine (pow_any a 0 ha _).mono ?_
    rintro x w9 ⟨rfl, hk9⟩
    have HK9 := hide (Below.on (unhide HK8) hk9)
    clear hk9
    rw [pw_nought]
    go_wp2
    go_ret
    exact ⟨by simp, unhide HK9⟩

theorem squares_walk' (a : Int) (b : Int) (ha : 0 ≤ a ∧ a ≤ 255) (hb : 0 ≤ b ∧ b ≤ 255) (w : World) :
    Calls Try.prog 4 #[.int .u8 a, .int .u8 b] w fun x w' => x = .returned (.bool true) ∧ Below w.heap.size w w' := by
  obtain ⟨a, rfl⟩ := Int.eq_ofNat_of_zero_le ha.1
  obtain ⟨b, rfl⟩ := Int.eq_ofNat_of_zero_le hb.1
  exact squares_walk a b (by omega) (by omega) w

end Go.Proofs.Ytinbenlakimipab
