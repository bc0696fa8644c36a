/-
  ramekinref2's Log and Inv.
-/
import Derived.Test.YtibmfblppjcenaaGr3
namespace Go.Proofs.Ytibmfblppjcenaa
open Go.RowKit
theorem lg_at {a i : Nat} (h : E i = a) (hi : i < 255) : lg a = i := by
  have h0 := E_ne i
  unfold lg
  rw [if_neg (by omega), ← h, L_E hi]

theorem lg_none {a : Nat} (ha : a < 256) (h : ∀ i, i < 255 → E i ≠ a) : lg a = -1 := by
  unfold lg
  by_cases h0 : a = 0
  · rw [if_pos h0]
  · exact absurd (E_L (by omega) ha).1 (h _ (E_L (by omega) ha).2)

theorem within_any (a n : Int) (w : World) (hn : 0 < n) (hn2 : n < 100000) :
    Calls Try.prog 23 #[.int .i64 a, .int .i64 n] w fun e w' => e = .returned (.int .i64 (a % n)) ∧ w' = w := by
  obtain ⟨h1, h2, h3, h4⟩ := tmod_emod a n hn
  have H1 := hide h1
  have H2 := hide h2
  clear h1 h2
  go_enter Try.func23, Try.ntmps23
  go_wp2
  · have h5 : a.tmod n < 0 := by assumption
    go_ret
    exact ⟨by rw [← unhide H1 h5]; rfl, rfl⟩
  · have h5 : 0 ≤ a.tmod n := by assumption
    go_ret
    exact ⟨by rw [← unhide H2 h5]; rfl, rfl⟩

set_option maxRecDepth 100000 in
set_option maxHeartbeats 2000000 in
theorem rlog_any (a : Nat) (ha : a < 256) (w : World) : Calls Try.prog 40 #[.int .u8 a] w fun e w' => e = .returned (.int .i64 (lg a)) ∧ w' = w := by
  go_enter Try.func40, Try.ntmps40
  go_wp2_with fail
  go_loop [3, 4] (fun x i => ∃ i' : Nat, i' ≤ 255 ∧ i = .int .i64 i' ∧ x = .int .u8 (E i' : Nat) ∧ ∀ k, k < i' → E k ≠ a) (fun _ i => 255 - (intOf i).toNat)
  case atStart => exact ⟨0, by omega, rfl, rfl, fun k hk => by omega⟩
  case round =>
    obtain ⟨i, hi, rfl, rfl, hall⟩ := hrel
    have HA := hide hall
    clear hall
    have hE := E_lt i
    by_cases hlt : i < 255
    · have hlt' : (i : Int) < 255 := by omega
      by_cases hEa : E i = a
      · have hEa' : (((E i : Nat) : Int) == (a : Int)) = true := by rw [beq_iff_eq, hEa]
        go_wp2
        go_ret
        rw [lg_at hEa hlt]
        exact ⟨rfl, rfl⟩
      · have hEa' : (((E i : Nat) : Int) == (a : Int)) = false := by rw [beq_eq_false_iff_ne]; omega
        go_wp2_with fail
        refine (rmul_any (E i) 2 hE (by omega) _).mono ?_
        rintro e w' ⟨rfl, rfl⟩
        rw [gmul_two_E]
        go_wp2
        go_round
        case rel => exact ⟨i + 1, by omega, by go_num, rfl, fun k hk => by
          by_cases e : k = i
          · rw [e]; exact hEa
          · exact unhide HA k (by omega)⟩
        case measure => simp [intOf]; omega
    · have e : i = 255 := by omega
      subst e
      go_wp2
      go_ret
      rw [lg_none ha (unhide HA)]
      exact ⟨rfl, rfl⟩

theorem pw_inv {a : Nat} (h0 : 0 < a) : X (255 - lg a) = pw a (-1) := by
  unfold pw lg
  rw [if_neg (by omega), if_neg (by omega), if_neg (by omega)]
  exact X_congr (by omega)

theorem lg_bounds {a : Nat} (ha : a < 256) : -1 ≤ lg a ∧ lg a < 255 := by
  unfold lg
  split
  · omega
  · have := (E_L (a := a) (by omega) ha).2
    omega

set_option maxRecDepth 100000 in
set_option maxHeartbeats 2000000 in
theorem rinv_any (a : Nat) (ha : a < 256) (w : World) : Calls Try.prog 31 #[.int .u8 a] w fun e w' => e = .returned (.int .u8 (pw a (-1) : Nat)) ∧ w' = w := by
  by_cases h0 : a = 0
  · subst h0
    rw [pw_zero (by omega)]
    go_enter Try.func31, Try.ntmps31
    go_wp2
    go_ret
    exact ⟨rfl, rfl⟩
  · have h0' : ((a : Int) == 0) = false := by rw [beq_eq_false_iff_ne]; omega
    obtain ⟨hl0, hl1⟩ := lg_bounds ha
    go_enter Try.func31, Try.ntmps31
    go_wp2_with fail
    refine (rlog_any a ha w).mono ?_
    rintro e w' ⟨rfl, rfl⟩
    go_wp2_with fail
    refine (rexp_any (255 - lg a) _).mono ?_
    rintro e w' ⟨rfl, rfl⟩
    rw [pw_inv (by omega)]
    go_wp2
    go_ret
    exact ⟨rfl, rfl⟩

end Go.Proofs.Ytibmfblppjcenaa
