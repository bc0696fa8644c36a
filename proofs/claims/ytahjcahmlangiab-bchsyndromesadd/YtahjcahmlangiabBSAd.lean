/-
  The walk of BchSyndromesAdd.
-/
import Derived.Test.YtahjcahmlangiabLp
import Derived.Test.YtahjcahmlangiabHp
namespace Go.Proofs.Ytahjcahmlangiab
open Go.RowKit

set_option maxRecDepth 100000 in
set_option maxHeartbeats 8000000 in
theorem adds_walk (va : Value) (ga : Nat) (b : List Nat) (w : World) (hA : Arg w va ga b) (ao1 : Option Addr) (g1 len1 cap1 : Nat) (zs : List Int) (hz1 : zs.length = len1) (hr1 : IRow w ao1 g1 zs) (hcp1 : len1 ≤ cap1) (hm1 : cap1 ≤ maxLen) (hbo1 : ∀ z ∈ zs, -9223372036854775808 ≤ z ∧ z ≤ 9223372036854775807) :
    Calls Try.prog 4 #[va, .slice ao1 len1 cap1] w fun x w' => x = .returned (.bool true) ∧ Below w.heap.size w w' := by
  have HA := hide hA
  have HL1 := hide hr1
  clear hr1
  obtain ⟨⟨ao, c, rfl, _⟩, _⟩ := hA
  have hmk28 : ∀ w : World, (Instr.makeSlice 22 (.int .i64 28) (.int .i64 28)).run Try.prog w = .ok (.slice (some ⟨w.heap.size, 0, none⟩) 28 28) (w.alloc (.cells (List.replicate 28 (Value.int .u8 0)).toArray 5)) := run_zeros 28 (by omega)
  have HZ28 := hide (fun W : World => zeros_arg 28 (by omega) W)

  obtain ⟨z28, hz28⟩ : ∃ z, (List.replicate 28 (Value.int .u8 0)).toArray = z := ⟨_, rfl⟩
  rw [hz28] at HZ28
  simp only [hz28] at hmk28
  clear hz28
  have HT : Hid (Below w.heap.size w w) := Below.refl _ _
  go_enter Try.func4, Try.ntmps4
  go_wp2_with fail
  refine (known_any _).mono ?_
  rintro e w1 ⟨rfl, hk⟩
  replace HA := hide ((unhide HA).below hk)
  replace HL1 := hide ((unhide HL1).below hk)
  replace HT := hide ((unhide HT).trans (hk.mono (unhide HT).size))
  clear hk
  go_wp2_with fail
  refine (places_any ao1 g1 len1 cap1 zs hz1 (unhide HL1) hcp1 hm1 hbo1 20 (by omega)).mono ?_
  rintro e w2 ⟨v2, ps, rfl, hnd, hlt, hpl, hO, hk⟩
  replace HA := hide ((unhide HA).below hk)
  replace HL1 := hide ((unhide HL1).below hk)
  replace HT := hide ((unhide HT).trans (hk.mono (unhide HT).size))
  have HPL : Hid (Pl ps) := ⟨hnd, hlt⟩
  obtain ⟨g2, hI, _⟩ := hO.arg
  obtain ⟨ao2, c2, rfl, h1, h2, h3, h4⟩ := hI
  have HPS : Hid (IArg w2 (.slice ao2 ps.length c2) g2 ps) := ⟨ao2, c2, rfl, h1, h2, h3, h4⟩
  clear h1 h2 h3 h4 hO hnd hlt
  clear hk
  go_wp2_with fail
  refine (data_any _ _ b 24 (by omega) _ (unhide HA)).mono ?_
  rintro e w3 ⟨v3, d, rfl, hld, hbd, hF, hk⟩
  replace HA := hide ((unhide HA).below hk)
  replace HL1 := hide ((unhide HL1).below hk)
  replace HPS := hide ((unhide HPS).below hk)
  replace HT := hide ((unhide HT).trans (hk.mono (unhide HT).size))
  obtain ⟨g3, hA, hge⟩ := hF.arg hbd
  obtain ⟨⟨ao3, c3, rfl, h1, h2, h3, h4⟩, _⟩ := hA
  have HA3 : Hid (Arg w3 (.slice ao3 24 c3) g3 (d)) := ⟨⟨ao3, c3, by rw [hld], h1, h2, h3, h4⟩, hbd⟩
  rw [show (d).length = 24 from hld]
  clear h1 h2 h3 h4 hF hge
  clear hk
  go_wp2_with fail
  refine (encode_any _ _ (d) _ (unhide HA3) hld).mono ?_
  rintro e w4 ⟨v4, rfl, hF, hk⟩
  replace HA := hide ((unhide HA).below hk)
  replace HL1 := hide ((unhide HL1).below hk)
  replace HPS := hide ((unhide HPS).below hk)
  replace HA3 := hide ((unhide HA3).below hk)
  replace HT := hide ((unhide HT).trans (hk.mono (unhide HT).size))
  obtain ⟨g4, hA, hge⟩ := hF.arg (encF_bs hbd)
  obtain ⟨⟨ao4, c4, rfl, h1, h2, h3, h4⟩, _⟩ := hA
  have HA4 : Hid (Arg w4 (.slice ao4 28 c4) g4 (encF (d))) := ⟨⟨ao4, c4, by rw [(encF_len hld)], h1, h2, h3, h4⟩, (encF_bs hbd)⟩
  rw [show (encF (d)).length = 28 from (encF_len hld)]
  clear h1 h2 h3 h4 hF hge
  clear hk
  go_wp2_with fail
  refine (flip_any _ _ _ _ (encF d) ps _ (unhide HA4) (unhide HPS) (encF_len hld) (unhide HPL).lt (by omega)).mono ?_
  rintro e w5 ⟨v5, rfl, hF, hk⟩
  replace HA := hide ((unhide HA).below hk)
  replace HL1 := hide ((unhide HL1).below hk)
  replace HPS := hide ((unhide HPS).below hk)
  replace HA3 := hide ((unhide HA3).below hk)
  replace HA4 := hide ((unhide HA4).below hk)
  replace HT := hide ((unhide HT).trans (hk.mono (unhide HT).size))
  obtain ⟨fX, hfX⟩ : ∃ f, flips (encF d) ps = f := ⟨_, rfl⟩
  have hflX : fX.length = 28 := by rw [← hfX, flips_len]; exact (encF_len hld)
  have hfbX : Bs fX := by rw [← hfX]; exact flips_bs (encF_bs hbd) _
  rw [hfX] at hF
  have HFX := hide hfX
  clear hfX
  obtain ⟨g5, hA, hge⟩ := hF.arg hfbX
  obtain ⟨⟨ao5, c5, rfl, h1, h2, h3, h4⟩, _⟩ := hA
  have HA5 : Hid (Arg w5 (.slice ao5 28 c5) g5 (fX)) := ⟨⟨ao5, c5, by rw [hflX], h1, h2, h3, h4⟩, hfbX⟩
  rw [show (fX).length = 28 from hflX]
  clear h1 h2 h3 h4 hF hge
  clear hk
  go_wp2_with fail
  refine (syndromes_any _ _ fX _ (unhide HA5) hflX).mono ?_
  rintro e w6 ⟨v6, rfl, hF, hk⟩
  rw [← unhide HFX, synF_turned (encF_is hbd hld).code (unhide HPL)] at hF
  replace HA := hide ((unhide HA).below hk)
  replace HL1 := hide ((unhide HL1).below hk)
  replace HPS := hide ((unhide HPS).below hk)
  replace HA3 := hide ((unhide HA3).below hk)
  replace HA4 := hide ((unhide HA4).below hk)
  replace HA5 := hide ((unhide HA5).below hk)
  replace HT := hide ((unhide HT).trans (hk.mono (unhide HT).size))
  obtain ⟨g6, hA, hge⟩ := hF.arg (xs8_bs ps)
  obtain ⟨⟨ao6, c6, rfl, h1, h2, h3, h4⟩, _⟩ := hA
  have HA6 : Hid (Arg w6 (.slice ao6 8 c6) g6 (xs8 ps)) := ⟨⟨ao6, c6, by rw [(show (xs8 ps).length = 8 from rfl)], h1, h2, h3, h4⟩, (xs8_bs ps)⟩
  rw [show (xs8 ps).length = 8 from (show (xs8 ps).length = 8 from rfl)]
  clear h1 h2 h3 h4 hF hge
  clear hk
  go_wp2_with fail
  have hk : Below w6.heap.size w6 (w6.alloc (.cells z28 5)) := (Below.refl _ _).alloc (Nat.le_refl _) _
  have hA := unhide HZ28 w6
  generalize w6.alloc (.cells z28 5) = w7 at hk hA  ⊢
  replace HA := hide ((unhide HA).below hk)
  replace HL1 := hide ((unhide HL1).below hk)
  replace HPS := hide ((unhide HPS).below hk)
  replace HA3 := hide ((unhide HA3).below hk)
  replace HA4 := hide ((unhide HA4).below hk)
  replace HA5 := hide ((unhide HA5).below hk)
  replace HA6 := hide ((unhide HA6).below hk)
  replace HT := hide ((unhide HT).trans (hk.mono (unhide HT).size))
  have HA7 := hide hA
  clear hA
  clear hk
  clear hmk28
  refine (flip_any _ _ _ _ (List.replicate 28 0) ps _ (unhide HA7) (unhide HPS) List.length_replicate (unhide HPL).lt (by omega)).mono ?_
  rintro e w8 ⟨v8, rfl, hF, hk⟩
  replace HA := hide ((unhide HA).below hk)
  replace HL1 := hide ((unhide HL1).below hk)
  replace HPS := hide ((unhide HPS).below hk)
  replace HA3 := hide ((unhide HA3).below hk)
  replace HA4 := hide ((unhide HA4).below hk)
  replace HA5 := hide ((unhide HA5).below hk)
  replace HA6 := hide ((unhide HA6).below hk)
  replace HA7 := hide ((unhide HA7).below hk)
  replace HT := hide ((unhide HT).trans (hk.mono (unhide HT).size))
  obtain ⟨fY, hfY⟩ : ∃ f, flips (List.replicate 28 0) ps = f := ⟨_, rfl⟩
  have hflY : fY.length = 28 := by rw [← hfY, flips_len]; exact List.length_replicate
  have hfbY : Bs fY := by rw [← hfY]; exact flips_bs (Bs.zeros 28) _
  rw [hfY] at hF
  have HFY := hide hfY
  clear hfY
  obtain ⟨g8, hA, hge⟩ := hF.arg hfbY
  obtain ⟨⟨ao8, c8, rfl, h1, h2, h3, h4⟩, _⟩ := hA
  have HA8 : Hid (Arg w8 (.slice ao8 28 c8) g8 (fY)) := ⟨⟨ao8, c8, by rw [hflY], h1, h2, h3, h4⟩, hfbY⟩
  rw [show (fY).length = 28 from hflY]
  clear h1 h2 h3 h4 hF hge
  clear hk
  go_wp2_with fail
  refine (syndromes_any _ _ fY _ (unhide HA8) hflY).mono ?_
  rintro e w9 ⟨v9, rfl, hF, hk⟩
  rw [← unhide HFY, synF_turned zeros_code (unhide HPL)] at hF
  replace HA := hide ((unhide HA).below hk)
  replace HL1 := hide ((unhide HL1).below hk)
  replace HPS := hide ((unhide HPS).below hk)
  replace HA3 := hide ((unhide HA3).below hk)
  replace HA4 := hide ((unhide HA4).below hk)
  replace HA5 := hide ((unhide HA5).below hk)
  replace HA6 := hide ((unhide HA6).below hk)
  replace HA7 := hide ((unhide HA7).below hk)
  replace HA8 := hide ((unhide HA8).below hk)
  replace HT := hide ((unhide HT).trans (hk.mono (unhide HT).size))
  obtain ⟨g9, hA, hge⟩ := hF.arg (xs8_bs ps)
  obtain ⟨⟨ao9, c9, rfl, h1, h2, h3, h4⟩, _⟩ := hA
  have HA9 : Hid (Arg w9 (.slice ao9 8 c9) g9 (xs8 ps)) := ⟨⟨ao9, c9, by rw [(show (xs8 ps).length = 8 from rfl)], h1, h2, h3, h4⟩, (xs8_bs ps)⟩
  rw [show (xs8 ps).length = 8 from (show (xs8 ps).length = 8 from rfl)]
  clear h1 h2 h3 h4 hF hge
  clear hk
  have hc1 := conv_arg (unhide HA6)
  have hc2 := conv_arg (unhide HA9)
  go_wp2_with fail
  clear hc1 hc2
  obtain ⟨oS, eS, cS⟩ := (unhide HA6).cells (by simp [xs8])
  cases eS
  have CS := hide cS
  clear cS
  go_loopw [8] (fun p wr => ∃ (m : Nat), p = .int .i64 ((m : Int) + 1) ∧ m ≤ 8 ∧ Below w9.heap.size w9 wr) (fun p _ => 9 - (intOf p).toNat)
  case atStart => exact ⟨0, rfl, by omega, Below.refl _ _⟩
  case round =>
    obtain ⟨m, rfl, hm, hnd⟩ := hrel
    have HND := hide hnd
    clear hnd
    by_cases hlt : m < 8
    · have hm1 : (m : Int) + 1 ≤ 8 := by omega
      go_wp2_with fail
      go_loop [9, 10] (fun p q => ∃ (j : Nat), p = .int .u8 ((xe (ps.take j) (m + 1) : Nat) : Int) ∧ q = .int .i64 j ∧ j ≤ ps.length) (fun _ q => ps.length - (intOf q).toNat)
      case atStart => exact ⟨0, rfl, rfl, by omega⟩
      case round =>
        obtain ⟨j, rfl, rfl, hj⟩ := hrel
        by_cases hj2 : j < ps.length
        · have hj1 : (j : Int) < (ps.length : Int) := by omega
          obtain ⟨aoP, cP, eP, _, _, _, hrP⟩ := ((unhide HPS).below (unhide HND)).ex
          cases eP
          obtain ⟨oP, eP⟩ := irow_some hrP (by omega)
          cases eP
          have hcP := irow_cell hrP hj2
          have hk := (unhide HPL).lt _ (cf_memb hj2)
          have hxt := xe_take hj2 (m + 1)
          clear hrP
          obtain ⟨k, hkk⟩ : ∃ k, cf ps j = k := ⟨_, rfl⟩
          rw [hkk] at hcP hk hxt
          have hmul : IntKind.i64.wrap ((k : Int) * ((m : Int) + 1)) = ((k * (m + 1) : Nat) : Int) := by
            have h1 : k * (m + 1) ≤ 224 * 9 := Nat.mul_le_mul (by omega) (by omega)
            rw [show (k : Int) * ((m : Int) + 1) = ((k * (m + 1) : Nat) : Int) from by simp]
            exact IntWalk.i64_in _ ⟨by omega, by omega⟩
          have hxor := bits_xor_u8 (xe_lt (ps.take j) (m + 1)) (E_lt (k * (m + 1)))
          rw [← hxt] at hxor
          have HXT := hide hxt
          clear hxt hkk
          obtain ⟨y, hy⟩ : ∃ y, k * (m + 1) = y := ⟨_, rfl⟩
          rw [hy] at hmul hxor
          clear hy
          go_wp2_with fail
          refine (rexp_any (y : Int) wr).mono ?_
          rintro e w' ⟨rfl, hw'⟩
          subst hw'
          rw [X_nat]
          go_wp2_with fail
          go_round
          case rel => exact ⟨j + 1, rfl, by go_num, by omega⟩
          case measure => simp [intOf]; omega
        · have hj3 : j = ps.length := by omega
          subst hj3
          rw [List.take_length]
          have hm8 : m = 0 ∨ m = 1 ∨ m = 2 ∨ m = 3 ∨ m = 4 ∨ m = 5 ∨ m = 6 ∨ m = 7 := by omega
          rcases hm8 with rfl | rfl | rfl | rfl | rfl | rfl | rfl | rfl
          · have cA : wr.cell? ⟨g6, oS, none⟩ = some (.int .u8 ((xe ps 1 : Nat) : Int)) := by
              have h := unhide CS 0 (by simp [xs8])
              exact ((unhide HND).cell (block_lt_of_cell h)).trans h
            go_wp2_with fail
            go_quiet (fail)
            go_wp2_with fail
            go_roundw
            case rel => exact ⟨1, by go_num, by omega, ⟨(unhide HND).os, (unhide HND).tape, (unhide HND).output, (unhide HND).size, (unhide HND).block⟩⟩
            case measure => simp [intOf]
          · have cA : wr.cell? ⟨g6, oS + 1, none⟩ = some (.int .u8 ((xe ps 2 : Nat) : Int)) := by
              have h := unhide CS 1 (by simp [xs8])
              exact ((unhide HND).cell (block_lt_of_cell h)).trans h
            have cB : wr.cell? ⟨g6, oS, none⟩ = some (.int .u8 ((xe ps 1 : Nat) : Int)) := by
              have h := unhide CS 0 (by simp [xs8])
              exact ((unhide HND).cell (block_lt_of_cell h)).trans h
            have hsq := xe_sq ps 1
            rw [show 2 * 1 = 2 from rfl] at hsq
            go_wp2_with fail
            go_quiet ((go_at_call 16; exact Calls.quiet_of_same (rmul_any (xe ps 1) (xe ps 1) (xe_lt _ _) (xe_lt _ _) _)))
            go_wp2_with fail
            go_roundw
            case rel => exact ⟨2, by go_num, by omega, ⟨(unhide HND).os, (unhide HND).tape, (unhide HND).output, (unhide HND).size, (unhide HND).block⟩⟩
            case measure => simp [intOf]
          · have cA : wr.cell? ⟨g6, oS + 2, none⟩ = some (.int .u8 ((xe ps 3 : Nat) : Int)) := by
              have h := unhide CS 2 (by simp [xs8])
              exact ((unhide HND).cell (block_lt_of_cell h)).trans h
            go_wp2_with fail
            go_quiet (fail)
            go_wp2_with fail
            go_roundw
            case rel => exact ⟨3, by go_num, by omega, ⟨(unhide HND).os, (unhide HND).tape, (unhide HND).output, (unhide HND).size, (unhide HND).block⟩⟩
            case measure => simp [intOf]
          · have cA : wr.cell? ⟨g6, oS + 3, none⟩ = some (.int .u8 ((xe ps 4 : Nat) : Int)) := by
              have h := unhide CS 3 (by simp [xs8])
              exact ((unhide HND).cell (block_lt_of_cell h)).trans h
            have cB : wr.cell? ⟨g6, oS + 1, none⟩ = some (.int .u8 ((xe ps 2 : Nat) : Int)) := by
              have h := unhide CS 1 (by simp [xs8])
              exact ((unhide HND).cell (block_lt_of_cell h)).trans h
            have hsq := xe_sq ps 2
            rw [show 2 * 2 = 4 from rfl] at hsq
            go_wp2_with fail
            go_quiet ((go_at_call 16; exact Calls.quiet_of_same (rmul_any (xe ps 2) (xe ps 2) (xe_lt _ _) (xe_lt _ _) _)))
            go_wp2_with fail
            go_roundw
            case rel => exact ⟨4, by go_num, by omega, ⟨(unhide HND).os, (unhide HND).tape, (unhide HND).output, (unhide HND).size, (unhide HND).block⟩⟩
            case measure => simp [intOf]
          · have cA : wr.cell? ⟨g6, oS + 4, none⟩ = some (.int .u8 ((xe ps 5 : Nat) : Int)) := by
              have h := unhide CS 4 (by simp [xs8])
              exact ((unhide HND).cell (block_lt_of_cell h)).trans h
            go_wp2_with fail
            go_quiet (fail)
            go_wp2_with fail
            go_roundw
            case rel => exact ⟨5, by go_num, by omega, ⟨(unhide HND).os, (unhide HND).tape, (unhide HND).output, (unhide HND).size, (unhide HND).block⟩⟩
            case measure => simp [intOf]
          · have cA : wr.cell? ⟨g6, oS + 5, none⟩ = some (.int .u8 ((xe ps 6 : Nat) : Int)) := by
              have h := unhide CS 5 (by simp [xs8])
              exact ((unhide HND).cell (block_lt_of_cell h)).trans h
            have cB : wr.cell? ⟨g6, oS + 2, none⟩ = some (.int .u8 ((xe ps 3 : Nat) : Int)) := by
              have h := unhide CS 2 (by simp [xs8])
              exact ((unhide HND).cell (block_lt_of_cell h)).trans h
            have hsq := xe_sq ps 3
            rw [show 2 * 3 = 6 from rfl] at hsq
            go_wp2_with fail
            go_quiet ((go_at_call 16; exact Calls.quiet_of_same (rmul_any (xe ps 3) (xe ps 3) (xe_lt _ _) (xe_lt _ _) _)))
            go_wp2_with fail
            go_roundw
            case rel => exact ⟨6, by go_num, by omega, ⟨(unhide HND).os, (unhide HND).tape, (unhide HND).output, (unhide HND).size, (unhide HND).block⟩⟩
            case measure => simp [intOf]
          · have cA : wr.cell? ⟨g6, oS + 6, none⟩ = some (.int .u8 ((xe ps 7 : Nat) : Int)) := by
              have h := unhide CS 6 (by simp [xs8])
              exact ((unhide HND).cell (block_lt_of_cell h)).trans h
            go_wp2_with fail
            go_quiet (fail)
            go_wp2_with fail
            go_roundw
            case rel => exact ⟨7, by go_num, by omega, ⟨(unhide HND).os, (unhide HND).tape, (unhide HND).output, (unhide HND).size, (unhide HND).block⟩⟩
            case measure => simp [intOf]
          · have cA : wr.cell? ⟨g6, oS + 7, none⟩ = some (.int .u8 ((xe ps 8 : Nat) : Int)) := by
              have h := unhide CS 7 (by simp [xs8])
              exact ((unhide HND).cell (block_lt_of_cell h)).trans h
            have cB : wr.cell? ⟨g6, oS + 3, none⟩ = some (.int .u8 ((xe ps 4 : Nat) : Int)) := by
              have h := unhide CS 3 (by simp [xs8])
              exact ((unhide HND).cell (block_lt_of_cell h)).trans h
            have hsq := xe_sq ps 4
            rw [show 2 * 4 = 8 from rfl] at hsq
            go_wp2_with fail
            go_quiet ((go_at_call 16; exact Calls.quiet_of_same (rmul_any (xe ps 4) (xe ps 4) (xe_lt _ _) (xe_lt _ _) _)))
            go_wp2_with fail
            go_roundw
            case rel => exact ⟨8, by go_num, by omega, ⟨(unhide HND).os, (unhide HND).tape, (unhide HND).output, (unhide HND).size, (unhide HND).block⟩⟩
            case measure => simp [intOf]
    · have hm8 : m = 8 := by omega
      subst hm8
      replace HT := hide ((unhide HT).trans ((unhide HND).mono (unhide HT).size))
      go_wp2
      go_ret
      exact ⟨rfl, unhide HT⟩

end Go.Proofs.Ytahjcahmlangiab
