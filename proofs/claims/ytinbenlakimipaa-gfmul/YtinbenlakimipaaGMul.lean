/-
  The walk of GfMul.
-/
import Derived.Test.YtinbenlakimipaaGref
namespace Go.Proofs.Ytinbenlakimipaa
open Go.RowKit

/-- What was below a world is below what follows it. -/
theorem Below.on {w a b : World} (h : Below w.heap.size w a) (k : Below a.heap.size a b) : Below w.heap.size w b := h.trans (k.mono h.size)

set_option maxRecDepth 100000 in
set_option maxHeartbeats 4000000 in
theorem gmul_walk (a b : Nat) (ha : a < 256) (hb : b < 256) (w : World) :
    Calls Try.prog 3 #[.int .u8 a, .int .u8 b] w fun x w' => x = .returned (.bool true) ∧ Below w.heap.size w w' := by
  go_enter Try.func3, Try.ntmps3
  go_wp2_with fail
  refine (known_any w).mono ?_
  rintro x w1 ⟨rfl, hk1⟩
  have HK1 := hide hk1
  clear hk1
  go_wp2_with fail
  go_loopw [5] (fun i wr => ∃ k : Nat, k ≤ 256 ∧ i = .int .i64 k ∧ Below w.heap.size w wr) (fun i _ => 256 - (intOf i).toNat)
  case atStart => exact ⟨0, by omega, rfl, unhide HK1⟩
  case round =>
    obtain ⟨k, hk, rfl, hb1⟩ := hrel
    have HB := hide hb1
    clear hb1
    by_cases hlt : k < 256
    · have hlt' : (k : Int) < 256 := by omega
      go_wp2_with fail
      refine (mul_any a k ha hlt _).mono ?_
      rintro x w2 ⟨rfl, hk2⟩
      have HK2 := hide (Below.on (unhide HB) hk2)
      clear hk2
      go_wp2_with fail
      refine (rmul_any a k ha hlt _).mono ?_
      rintro x w3 ⟨rfl, rfl⟩
      go_wp2
      go_roundw
      case rel => exact ⟨k + 1, by omega, by go_num, unhide HK2⟩
      case measure => simp [intOf]; omega
    · have e : k = 256 := by omega
      subst e
      go_wp2_with fail
      refine (mul_any a b ha hb _).mono ?_
      rintro x w2 ⟨rfl, hk2⟩
      have HK2 := hide (Below.on (unhide HB) hk2)
      clear hk2
      go_wp2_with fail
      refine (mul_any b a hb ha _).mono ?_
      rintro x w3 ⟨rfl, hk3⟩
      have HK3 := hide (Below.on (unhide HK2) hk3)
      clear hk3
      rw [gmul_comm hb ha]
      go_wp2
      go_ret
      exact ⟨by simp, unhide HK3⟩

theorem gmul_walk' (a b : Int) (ha : 0 ≤ a ∧ a ≤ 255) (hb : 0 ≤ b ∧ b ≤ 255) (w : World) :
    Calls Try.prog 3 #[.int .u8 a, .int .u8 b] w fun x w' => x = .returned (.bool true) ∧ Below w.heap.size w w' := by
  obtain ⟨a, rfl⟩ := Int.eq_ofNat_of_zero_le ha.1
  obtain ⟨b, rfl⟩ := Int.eq_ofNat_of_zero_le hb.1
  exact gmul_walk a b (by omega) (by omega) w

end Go.Proofs.Ytinbenlakimipaa
