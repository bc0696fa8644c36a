/-
  The walk of GfField.
-/
import Derived.Test.YtinbenlakimipaaGlem
namespace Go.Proofs.Ytinbenlakimipaa
open Go.RowKit

set_option maxRecDepth 100000 in
set_option maxHeartbeats 4000000 in
theorem field_walk (a b c : Nat) (ha : a < 256) (hb : b < 256) (hc : c < 256) (w : World) :
    Calls Try.prog 5 #[.int .u8 a, .int .u8 b, .int .u8 c] w fun x w' => x = .returned (.bool true) ∧ Below w.heap.size w w' := by
  have hx1 := bits_xor_u8 hb hc
  have hx2 := bits_xor_u8 (gmul_lt (b := b) ha) (gmul_lt (b := c) ha)
  by_cases h0 : a = 0
  · have H0 := hide h0
    have h0' : ((a : Int) == 0) = true := by rw [beq_iff_eq]; omega
    clear h0
    go_enter Try.func5, Try.ntmps5
    go_wp2_with fail
    refine (known_any w).mono ?_
    rintro x w1 ⟨rfl, hk1⟩
    have HK1 := hide (hk1)
    clear hk1
    go_wp2_with fail
    refine (mul_any a b ha hb _).mono ?_
    rintro x w2 ⟨rfl, hk2⟩
    have HK2 := hide (Below.on (unhide HK1) hk2)
    clear hk2
    go_wp2_with fail
    refine (mul_any (gmul a b) c (gmul_lt ha) hc _).mono ?_
    rintro x w3 ⟨rfl, hk3⟩
    have HK3 := hide (Below.on (unhide HK2) hk3)
    clear hk3
    go_wp2_with fail
    refine (mul_any b c hb hc _).mono ?_
    rintro x w4 ⟨rfl, hk4⟩
    have HK4 := hide (Below.on (unhide HK3) hk4)
    clear hk4
    go_wp2_with fail
    refine (mul_any a (gmul b c) ha (gmul_lt hb) _).mono ?_
    rintro x w5 ⟨rfl, hk5⟩
    have HK5 := hide (Below.on (unhide HK4) hk5)
    clear hk5
    rw [← gmul_assoc ha hb hc]
    go_wp2_with fail
    refine (mul_any a (b ^^^ c) ha (xor_lt hb hc) _).mono ?_
    rintro x w6 ⟨rfl, hk6⟩
    have HK6 := hide (Below.on (unhide HK5) hk6)
    clear hk6
    rw [gmul_xor a b c]
    go_wp2_with fail
    refine (mul_any a b ha hb _).mono ?_
    rintro x w7 ⟨rfl, hk7⟩
    have HK7 := hide (Below.on (unhide HK6) hk7)
    clear hk7
    go_wp2_with fail
    refine (mul_any a c ha hc _).mono ?_
    rintro x w8 ⟨rfl, hk8⟩
    have HK8 := hide (Below.on (unhide HK7) hk8)
    clear hk8
    go_wp2_with fail
    refine (mul_any a 1 ha (by omega) _).mono ?_
    rintro x w9 ⟨rfl, hk9⟩
    have HK9 := hide (Below.on (unhide HK8) hk9)
    clear hk9
    rw [gmul_one ha]
    go_wp2_with fail
    refine (mul_any a 0 ha (by omega) _).mono ?_
    rintro x w10 ⟨rfl, hk10⟩
    have HK10 := hide (Below.on (unhide HK9) hk10)
    clear hk10
    rw [gmul_zero a]
    go_wp2_with fail
    refine (inv_any a ha _).mono ?_
    rintro x w11 ⟨rfl, hk11⟩
    have HK11 := hide (Below.on (unhide HK10) hk11)
    clear hk11
    rw [pw_of (unhide H0) (by omega)]
    go_wp2_with fail
    refine (log_any a ha _).mono ?_
    rintro x w12 ⟨rfl, hk12⟩
    have HK12 := hide (Below.on (unhide HK11) hk12)
    clear hk12
    rw [lg_of (unhide H0)]
    go_wp2
    go_ret
    exact ⟨by simp, unhide HK12⟩
  · have h0' : ((a : Int) == 0) = false := by rw [beq_eq_false_iff_ne]; omega
    go_enter Try.func5, Try.ntmps5
    go_wp2_with fail
    refine (known_any w).mono ?_
    rintro x w1 ⟨rfl, hk1⟩
    have HK1 := hide (hk1)
    clear hk1
    go_wp2_with fail
    refine (mul_any a b ha hb _).mono ?_
    rintro x w2 ⟨rfl, hk2⟩
    have HK2 := hide (Below.on (unhide HK1) hk2)
    clear hk2
    go_wp2_with fail
    refine (mul_any (gmul a b) c (gmul_lt ha) hc _).mono ?_
    rintro x w3 ⟨rfl, hk3⟩
    have HK3 := hide (Below.on (unhide HK2) hk3)
    clear hk3
    go_wp2_with fail
    refine (mul_any b c hb hc _).mono ?_
    rintro x w4 ⟨rfl, hk4⟩
    have HK4 := hide (Below.on (unhide HK3) hk4)
    clear hk4
    go_wp2_with fail
    refine (mul_any a (gmul b c) ha (gmul_lt hb) _).mono ?_
    rintro x w5 ⟨rfl, hk5⟩
    have HK5 := hide (Below.on (unhide HK4) hk5)
    clear hk5
    rw [← gmul_assoc ha hb hc]
    go_wp2_with fail
    refine (mul_any a (b ^^^ c) ha (xor_lt hb hc) _).mono ?_
    rintro x w6 ⟨rfl, hk6⟩
    have HK6 := hide (Below.on (unhide HK5) hk6)
    clear hk6
    rw [gmul_xor a b c]
    go_wp2_with fail
    refine (mul_any a b ha hb _).mono ?_
    rintro x w7 ⟨rfl, hk7⟩
    have HK7 := hide (Below.on (unhide HK6) hk7)
    clear hk7
    go_wp2_with fail
    refine (mul_any a c ha hc _).mono ?_
    rintro x w8 ⟨rfl, hk8⟩
    have HK8 := hide (Below.on (unhide HK7) hk8)
    clear hk8
    go_wp2_with fail
    refine (mul_any a 1 ha (by omega) _).mono ?_
    rintro x w9 ⟨rfl, hk9⟩
    have HK9 := hide (Below.on (unhide HK8) hk9)
    clear hk9
    rw [gmul_one ha]
    go_wp2_with fail
    refine (mul_any a 0 ha (by omega) _).mono ?_
    rintro x w10 ⟨rfl, hk10⟩
    have HK10 := hide (Below.on (unhide HK9) hk10)
    clear hk10
    rw [gmul_zero a]
    go_wp2_with fail
    refine (inv_any a ha _).mono ?_
    rintro x w11 ⟨rfl, hk11⟩
    have HK11 := hide (Below.on (unhide HK10) hk11)
    clear hk11
    go_wp2_with fail
    refine (mul_any a (pw a (-1)) ha (pw_lt _ _) _).mono ?_
    rintro x w12 ⟨rfl, hk12⟩
    have HK12 := hide (Below.on (unhide HK11) hk12)
    clear hk12
    rw [mul_inv (by omega) ha]
    go_wp2_with fail
    refine (log_any a ha _).mono ?_
    rintro x w13 ⟨rfl, hk13⟩
    have HK13 := hide (Below.on (unhide HK12) hk13)
    clear hk13
    go_wp2_with fail
    refine (exp_any (lg a) _).mono ?_
    rintro x w14 ⟨rfl, hk14⟩
    have HK14 := hide (Below.on (unhide HK13) hk14)
    clear hk14
    rw [X_lg (by omega) ha]
    go_wp2
    go_ret
    exact ⟨by simp, unhide HK14⟩

theorem field_walk' (a : Int) (b : Int) (c : Int) (ha : 0 ≤ a ∧ a ≤ 255) (hb : 0 ≤ b ∧ b ≤ 255) (hc : 0 ≤ c ∧ c ≤ 255) (w : World) :
    Calls Try.prog 5 #[.int .u8 a, .int .u8 b, .int .u8 c] w fun x w' => x = .returned (.bool true) ∧ Below w.heap.size w w' := by
  obtain ⟨a, rfl⟩ := Int.eq_ofNat_of_zero_le ha.1
  obtain ⟨b, rfl⟩ := Int.eq_ofNat_of_zero_le hb.1
  obtain ⟨c, rfl⟩ := Int.eq_ofNat_of_zero_le hc.1
  exact field_walk a b c (by omega) (by omega) (by omega) w

end Go.Proofs.Ytinbenlakimipaa
