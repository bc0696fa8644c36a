/-
  The walk of GeomSectors.
-/
import Derived.Test.YtnhhemecfcljbaaK9l
namespace Go.Proofs.Ytnhhemecfcljbaa
open Go.RowKit Go.Shelf

theorem mod9 (a : Int) (n : Int) (hn : 0 < n) : ∃ r : Int, a % n = r ∧ 0 ≤ r ∧ r < n := ⟨_, rfl, Int.emod_nonneg _ (by omega), Int.emod_lt_of_pos _ hn⟩

set_option maxRecDepth 100000 in
set_option maxHeartbeats 8000000 in
theorem gsec_walk (a b c d : Int) (w : World) : Calls Try.prog 6 #[.int .i64 a, .int .i64 b, .int .i64 c, .int .i64 d] w fun x w' => x = .returned (.bool true) ∧ Below w.heap.size w w' := by
  obtain ⟨A, hA, a1, a2⟩ := mod9 a 3 (by omega)
  obtain ⟨B, hB, b1, b2⟩ := mod9 b 5 (by omega)
  obtain ⟨C, hC, c1, c2⟩ := mod9 c 5 (by omega)
  obtain ⟨s, hS, s1, s2⟩ := mod9 d 16 (by omega)
  have HA := hide hA
  have HB := hide hB
  have HC := hide hC
  have HS := hide hS
  clear hA hB hC hS
  go_enter Try.func6, Try.ntmps6
  go_wp2_with fail
  refine (known9_any _).mono ?_
  rintro e w1 ⟨rfl, hk⟩
  have HT := hide hk
  clear hk
  go_wp2_with fail
  refine (within9_any a 3 _ (by omega) (by omega)).mono ?_
  rintro e w2 ⟨rfl, hw2⟩
  subst hw2
  rw [unhide HA]
  go_wp2_with fail
  refine (within9_any b 5 _ (by omega) (by omega)).mono ?_
  rintro e w2 ⟨rfl, hw2⟩
  subst hw2
  rw [unhide HB]
  go_wp2_with fail
  refine (within9_any c 5 _ (by omega) (by omega)).mono ?_
  rintro e w2 ⟨rfl, hw2⟩
  subst hw2
  rw [unhide HC]
  go_wp2_with fail
  have hok : okG (6 + A) (8 + B) (4 + C) := ⟨⟨by omega, by omega⟩, ⟨by omega, by omega⟩, by omega, by omega⟩
  obtain ⟨W, hW, hG, hb⟩ := GeoAt.new w2 (6 + A) (8 + B) (4 + C)
  rw [hW]
  replace HT := hide ((unhide HT).trans (hb.mono (unhide HT).size))
  have HG := hide hG
  clear hW hG hb
  refine (within9_any d 16 _ (by omega) (by omega)).mono ?_
  rintro e w3 ⟨rfl, hw3⟩
  rw [unhide HS]
  have c0 := (unhide HG).c0
  have c1' := (unhide HG).c1
  have c2' := (unhide HG).c2
  clear HA HB HC HS
  subst hw3
  go_wp2_with fail
  clear c0 c1' c2'
  refine (gsectors_any (6 + A) (8 + B) (4 + C) s _).mono ?_
  rintro e w4 ⟨rfl, hk⟩
  replace HT := hide ((unhide HT).trans (hk.mono (unhide HT).size))
  replace HG := hide ((unhide HG).below hk)
  have c0 := (unhide HG).c0
  have c1' := (unhide HG).c1
  have c2' := (unhide HG).c2
  clear hk
  by_cases h7 : s < 7
  · have e0 : sec9 (6 + A) (8 + B) (4 + C) s = 0 := by rw [sec9, if_neg (by omega)]
    rw [e0]
    clear e0 hok
    go_wp2_with fail
    go_ret
    exact ⟨rfl, unhide HT⟩
  · by_cases hsB : 8 + B < s
    · have e0 : sec9 (6 + A) (8 + B) (4 + C) s = 0 := by rw [sec9, if_neg (by omega)]
      rw [e0]
      clear e0 hok
      go_wp2_with fail
      go_ret
      exact ⟨rfl, unhide HT⟩
    · obtain ⟨x, y, z, p, q, r, e1, e2, e3, e4, e5, e6, e7, ⟨x1, x2⟩, ⟨y1, y2⟩, ⟨z1, z2⟩, ⟨p1, p2⟩, ⟨q1, q2⟩, r1, r2⟩ := sec9_fit (s := s) hok (by omega) (by omega)
      rw [e7]
      have hr : 4 * r ≤ q ∧ q < 4 * r + 4 := by rw [Int.tdiv_eq_ediv_of_nonneg q1] at e6; omega
      obtain ⟨hr1, hr2⟩ := hr
      have E1 : IntKind.i64.wrap (s - 4) = x := by rw [e1]; exact IntWalk.i64_in x ⟨by omega, by omega⟩
      have E2 : IntKind.i64.wrap (4 + C - 2) = y := by rw [e2]; exact IntWalk.i64_in y ⟨by omega, by omega⟩
      have E3 : IntKind.i64.wrap (6 + A - 2) = z := by rw [e3]; exact IntWalk.i64_in z ⟨by omega, by omega⟩
      have E4 : IntKind.i64.wrap (x * y) = p := by rw [e4]; exact IntWalk.i64_in p ⟨by omega, by omega⟩
      have E5 : IntKind.i64.wrap (p * z) = q := by rw [e5]; exact IntWalk.i64_in q ⟨by omega, by omega⟩
      clear hok e6 e7 e1 e2 e3 e4 e5
      go_wp2_with fail
      go_ret
      exact ⟨rfl, unhide HT⟩

end Go.Proofs.Ytnhhemecfcljbaa
