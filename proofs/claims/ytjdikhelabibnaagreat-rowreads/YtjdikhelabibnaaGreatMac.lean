/-
  
-/
import Derived.Test.YtjdikhelabibnaaGreatMab
import Derived.Deep.RegionHeld3
namespace Go.Proofs.YtjdikhelabibnaaGreat
open Go.RowKit
theorem hide {p : Prop} (h : p) : Hid p := h
theorem uh {p : Prop} (h : Hid p) : p := h
theorem tmod_emod (a n : Int) (hn : 0 < n) : (a.tmod n < 0 → a.tmod n + n = a % n) ∧ (0 ≤ a.tmod n → a.tmod n = a % n) ∧ -n < a.tmod n ∧ a.tmod n < n := by
 have h1 := Int.tmod_eq_emod (a := a) (b := n)
 have h2 := Int.emod_nonneg a (show n ≠ 0 by omega)
 have h3 := Int.emod_lt_of_pos a hn
 have hna : (n.natAbs : Int) = n := by omega
 rw [h1]
 split <;> omega
theorem i64_small (n : Int) (h0 : 0 ≤ n) (h1 : n < 2 ^ 62) : IntKind.i64.wrap n = n := IntWalk.i64_in _ ⟨by omega, by omega⟩
theorem xor_i64 {a b : Nat} (ha : a < 65536) (hb : b < 65536) : bits .xor .i64 (a : Int) (b : Int) = ((a ^^^ b : Nat) : Int) :=
 bits_xor_nat .i64 62 (by decide) i64_small a b (by omega) (by omega)
theorem and_i64 {a : Nat} (ha : a < 65536) : bits .and .i64 (a : Int) 1 = ((a % 2 : Nat) : Int) := by
 have h := (bits_nat .i64 62 (by decide) i64_small a 1 (by omega) (by omega)).1
 rw [Nat.and_one_is_mod] at h
 exact h
theorem step_odd {j x z p g : Nat} (h : p ^^^ mulF (j + 1) x z = g) (hz : z % 2 = 1) : (p ^^^ x) ^^^ mulF j (dbl x) (z / 2) = g := by
 rw [mulF, if_pos hz, ← Nat.xor_assoc] at h
 exact h
theorem step_even {j x z p g : Nat} (h : p ^^^ mulF (j + 1) x z = g) (hz : ¬ z % 2 = 1) : p ^^^ mulF j (dbl x) (z / 2) = g := by
 rw [mulF, if_neg hz, Nat.zero_xor] at h
 exact h
theorem dbl_small {x : Nat} (h : 2 * x ≤ 255) : (x : Int) * 2 = ((dbl x : Nat) : Int) := by unfold dbl; rw [if_pos h]; omega
theorem dbl_big {x : Nat} (hx : x < 256) (h : ¬ 2 * x ≤ 255) : bits .xor .i64 ((x : Int) * 2) 285 = ((dbl x : Nat) : Int) := by
 unfold dbl
 rw [if_neg h, ← xor_i64 (a := 2 * x) (b := 285) (by omega) (by omega), show ((2 * x : Nat) : Int) = (x : Int) * 2 from by omega]
 rfl
set_option maxRecDepth 100000 in
set_option maxHeartbeats 2000000 in
theorem rmul_any (a b : Nat) (ha : a < 256) (hb : b < 256) (w : World) :
  Calls Tryz.prog 60 #[.int .u8 a, .int .u8 b] w fun e w' => e = .returned (.int .u8 (gmul a b : Nat)) ∧ w' = w := by
 go_enter Tryz.func60, Tryz.ntmps60
 go_wp2
 go_loop [5, 6, 7] (fun x z p => ∃ (x' z' p' j : Nat), x = .int .i64 x' ∧ z = .int .i64 z' ∧ p = .int .i64 p' ∧ x' < 256 ∧ z' < 2 ^ j ∧ j ≤ 8 ∧ p' < 256 ∧ p' ^^^ mulF j x' z' = gmul a b) (fun _ z _ => (intOf z).toNat)
 case atStart => exact ⟨a, b, 0, 8, rfl, rfl, rfl, ha, hb, by omega, by omega, by rw [Nat.zero_xor]; rfl⟩
 case round =>
  obtain ⟨x, z, p, j, rfl, rfl, rfl, hx, hz, hj, hp, hm⟩ := hrel
  have HM := hide hm
  clear hm
  have hz8 : z < 256 := Nat.lt_of_lt_of_le hz (Nat.pow_le_pow_right (n := 2) (by omega) hj)
  by_cases hz0 : z = 0
  ·subst hz0
   go_wp2
   go_ret
   have h := uh HM
   rw [mulF_zero, Nat.xor_zero] at h
   rw [h]
   exact ⟨rfl, rfl⟩
  obtain ⟨j, rfl⟩ : ∃ i, j = i + 1 := ⟨j - 1, by
   have : j ≠ 0 := by rintro rfl; simp at hz; omega
   omega⟩
  have HZ2 := hide (show z / 2 < 2 ^ j by rw [Nat.pow_succ] at hz; omega)
  have hz1 : (0 : Int) < (z : Int) := by omega
  have hdl := dbl_lt hx
  have hxl := xor_lt (a := p) (b := x) hp hx
  have hxor := xor_i64 (a := p) (b := x) (by omega) (by omega)
  by_cases hodd : z % 2 = 1
  ·have hb1 : bits .and .i64 (z : Int) 1 = 1 := by rw [and_i64 (by omega), hodd]; rfl
   by_cases hbig : 2 * x ≤ 255
   ·go_wp2
    exact ⟨⟨dbl x, z / 2, p ^^^ x, j, by rw [dbl_small hbig], by rw [Int.natCast_ediv]; rfl, rfl, hdl, uh HZ2, by omega, hxl, step_odd (uh HM) hodd⟩, by simp [intOf]; omega⟩
   go_wp2
   exact ⟨⟨dbl x, z / 2, p ^^^ x, j, by rw [dbl_big hx hbig], by rw [Int.natCast_ediv]; rfl, rfl, hdl, uh HZ2, by omega, hxl, step_odd (uh HM) hodd⟩, by simp [intOf]; omega⟩
  have hb1 : bits .and .i64 (z : Int) 1 = 0 := by rw [and_i64 (by omega), show z % 2 = 0 from by omega]; rfl
  by_cases hbig : 2 * x ≤ 255
  ·go_wp2
   exact ⟨⟨dbl x, z / 2, p, j, by rw [dbl_small hbig], by rw [Int.natCast_ediv]; rfl, rfl, hdl, uh HZ2, by omega, hp, step_even (uh HM) hodd⟩, by simp [intOf]; omega⟩
  go_wp2
  exact ⟨⟨dbl x, z / 2, p, j, by rw [dbl_big hx hbig], by rw [Int.natCast_ediv]; rfl, rfl, hdl, uh HZ2, by omega, hp, step_even (uh HM) hodd⟩, by simp [intOf]; omega⟩
theorem gmul_two_E (i : Nat) : gmul (E i) 2 = E (i + 1) := gmul_E i 1
set_option maxRecDepth 100000 in
set_option maxHeartbeats 2000000 in
theorem rexp_any (n : Int) (w : World) : Calls Tryz.prog 59 #[.int .i64 n] w fun e w' => e = .returned (.int .u8 (X n : Nat)) ∧ w' = w := by
 obtain ⟨h1, h2, h3, h4⟩ := tmod_emod n 255 (by omega)
 have H1 := hide h1
 have H2 := hide h2
 clear h1 h2
 have hm0 := Int.emod_nonneg n (show (255 : Int) ≠ 0 by omega)
 have hm1 := Int.emod_lt_of_pos n (show (0 : Int) < 255 by omega)
 obtain ⟨m, hm⟩ := Int.eq_ofNat_of_zero_le hm0
 have HX : Hid (X n = E m) := by
  show _ = _
  unfold X
  rw [hm]
  rfl
 rw [uh HX]
 have HM := hide hm
 rw [hm] at hm1
 clear hm hm0
 by_cases h5 : n.tmod 255 < 0
 ·have e5 : n.tmod 255 + 255 = (m : Int) := by rw [uh H1 h5]; exact uh HM
  go_enter Tryz.func59, Tryz.ntmps59
  go_wp2_with fail
  go_loop [3, 4] (fun x i => ∃ i' : Nat, i' ≤ m ∧ i = .int .i64 i' ∧ x = .int .u8 (E i' : Nat)) (fun _ i => m - (intOf i).toNat)
  case atStart => exact ⟨0, by omega, rfl, rfl⟩
  case round =>
   obtain ⟨i, hi, rfl, rfl⟩ := hrel
   have hE := E_lt i
   by_cases hlt : i < m
   ·have hlt' : (i : Int) < (m : Int) := by omega
    go_wp2_with fail
    refine (rmul_any (E i) 2 hE (by omega) _).mono ?_
    rintro e w' ⟨rfl, rfl⟩
    rw [gmul_two_E]
    go_wp2
    go_round
    case rel => exact ⟨i + 1, by omega, by go_num, rfl⟩
    case measure => simp [intOf]; omega
   have e : i = m := by omega
   subst e
   go_wp2
   go_ret
   exact ⟨rfl, rfl⟩
 have e5 : n.tmod 255 = (m : Int) := by rw [uh H2 (by omega)]; exact uh HM
 go_enter Tryz.func59, Tryz.ntmps59
 go_wp2_with fail
 go_loop [3, 4] (fun x i => ∃ i' : Nat, i' ≤ m ∧ i = .int .i64 i' ∧ x = .int .u8 (E i' : Nat)) (fun _ i => m - (intOf i).toNat)
 case atStart => exact ⟨0, by omega, rfl, rfl⟩
 case round =>
  obtain ⟨i, hi, rfl, rfl⟩ := hrel
  have hE := E_lt i
  by_cases hlt : i < m
  ·have hlt' : (i : Int) < (m : Int) := by omega
   go_wp2_with fail
   refine (rmul_any (E i) 2 hE (by omega) _).mono ?_
   rintro e w' ⟨rfl, rfl⟩
   rw [gmul_two_E]
   go_wp2
   go_round
   case rel => exact ⟨i + 1, by omega, by go_num, rfl⟩
   case measure => simp [intOf]; omega
  have e : i = m := by omega
  subst e
  go_wp2
  go_ret
  exact ⟨rfl, rfl⟩
end Go.Proofs.YtjdikhelabibnaaGreat
