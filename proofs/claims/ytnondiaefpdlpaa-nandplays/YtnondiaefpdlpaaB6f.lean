/-
  bits.Flip.
-/
import Derived.Test.YtnondiaefpdlpaaMb
namespace Go.Proofs.Ytnondiaefpdlpaa
open Go.RowKit Go.Shelf

set_option maxRecDepth 100000 in
set_option maxHeartbeats 8000000 in
theorem flip6_any (v vl : Value) (g gl : Nat) (s : List Nat) (zs : List Int) (w : World) (hA : Arg w v g s) (hZ : ZArg w vl gl zs) (hs : s.length ≤ 1000) :
    Calls Try.prog 54 #[v, vl] w fun e w' => ∃ v', e = .returned v' ∧ Fr w.heap.size w' v' (flipZ s zs) ∧ Below w.heap.size w w' := by
  have HA := hide hA
  obtain ⟨⟨ao, c, rfl, hc1, hc2, hnil, hr⟩, hbs⟩ := hA
  obtain ⟨⟨bo, cl, rfl, hd1, hd2, hnil2, hr2⟩, hbd⟩ := hZ
  have HR2 := hide hr2
  have HBD := hide hbd
  obtain ⟨N, hN⟩ : ∃ N, s.length = N := ⟨_, rfl⟩
  obtain ⟨M, hM⟩ : ∃ M, zs.length = M := ⟨_, rfl⟩
  have HLS := hide hN
  have HLZ := hide hM
  rw [hN] at hc1 HA hs ⊢
  rw [hM] at hd1 ⊢
  have hMm : (M : Int) ≤ 9223372036854775807 := by unfold maxLen at hd2; omega
  clear hr hr2 hnil hnil2 hN hM hbd
  go_enter Try.func54, Try.ntmps54
  go_wp2_with fail
  refine (cloneB_any _ g s w (unhide HA) (by rw [unhide HLS]; omega)).mono ?_
  rintro e w1 ⟨v1, rfl, hF, hk1⟩
  obtain ⟨to, tc, hv1⟩ := hF.shape
  subst hv1
  have HF := hide hF
  have HK1 := hide hk1
  rw [unhide HLS] at HF ⊢
  clear hF hk1 HA
  go_wp2_with fail
  go_loopw [12] (fun p wr => ∃ (i : Nat), p = .int .i64 i ∧ i ≤ M ∧ Fr w.heap.size wr (.slice to N tc) (flipZ s (zs.take i)) ∧ Below w.heap.size w wr) (fun p _ => M - (intOf p).toNat)
  case atStart => exact ⟨0, rfl, by omega, unhide HF, unhide HK1⟩
  case round =>
    obtain ⟨i, rfl, hi, hFr, hK⟩ := hrel
    have HK := hide hK
    have HFR := hide hFr
    clear hK hFr
    by_cases hlt : i < M
    · have hi1 : (i : Int) < (M : Int) := by omega
      obtain ⟨ol, rfl, hcl⟩ := irow_some' ((unhide HR2).below (unhide HK)) (by rw [unhide HLZ]; omega)
      have hc := hcl i (by rw [unhide HLZ]; exact hlt)
      have hzb := unhide HBD _ (getD_mem (zs := zs) (i := i) (by rw [unhide HLZ]; exact hlt))
      have HFT := hide (flipZ_take (s := s) (zs := zs) (i := i) (by rw [unhide HLZ]; exact hlt))
      obtain ⟨z, hz⟩ : ∃ z, zs.getD i 0 = z := ⟨_, rfl⟩
      rw [hz] at hc hzb HFT
      clear hz hcl
      obtain ⟨t, ht⟩ : ∃ t, flipZ s (zs.take i) = t := ⟨_, rfl⟩
      have HTL : Hid (t.length = N) := by show _ = _; rw [← ht, flipZ_len]; exact unhide HLS
      have htb : Bs t := by rw [← ht]; exact flipZ_bs hbs _
      rw [ht] at HFR HFT
      clear ht
      by_cases hneg : z < 0
      · have hz1 : decide (0 ≤ z) = false := by simp; omega
        rw [flZ_neg hneg] at HFT
        go_wp2_with fail
        go_roundw
        case rel => exact ⟨i + 1, by go_num, by omega, by rw [unhide HFT]; exact unhide HFR, unhide HK⟩
        case measure => simp [intOf]; omega
      · obtain ⟨k, rfl⟩ := Int.eq_ofNat_of_zero_le (show 0 ≤ z by omega)
        obtain ⟨j, hj⟩ : ∃ j, k / 8 = j := ⟨_, rfl⟩
        obtain ⟨m, hm⟩ : ∃ m, k % 8 = m := ⟨_, rfl⟩
        have q0 : (k : Int) / 8 = (j : Int) := by omega
        have q1 : (k : Int).tdiv 8 = (j : Int) := by rw [Int.tdiv_eq_ediv_of_nonneg (by omega)]; omega
        have hjb : (j : Int) ≤ 9223372036854775807 := by omega
        by_cases hin : j < N
        · have hin1 : (j : Int) < (N : Int) := by omega
          have hm8 : m < 8 := by omega
          have q2 : (k : Int).tmod 8 = (m : Int) := by rw [Int.tmod_eq_emod_of_nonneg (by omega)]; omega
          have q2' : (k : Int) % 8 = (m : Int) := by omega
          have hpm : 2 ^ m < 256 := by have := pow_lt8 k; rw [hm] at this; exact this
          obtain ⟨p, hp⟩ : ∃ p, 2 ^ m = p := ⟨_, rfl⟩
          rw [hp] at hpm
          have q4 : IntKind.u8.wrap ((2 : Int) ^ m) = (p : Int) := by rw [show (2 : Int) ^ m = ((2 ^ m : Nat) : Int) from by simp, hp]; exact wraps_u8 _ (by omega) (by omega)
          have HFL : Hid (flZ t (k : Int) = t.set j (cf t j ^^^ p)) := by show _ = _; rw [flZ_yes (by rw [hj, unhide HTL]; exact hin), hj, hm, hp]
          have hxor := bits_xor_u8 (htb j) hpm
          rw [unhide HFL] at HFT
          obtain ⟨q, cq, he, h1, h2, hB, h3⟩ := (unhide HFR).blk (by intro h; have := unhide HTL; rw [h] at this; simp at this; omega)
          injection he with e1 e2 e3
          subst e1
          subst e3
          have hcq := hB.cell (j := j) (by rw [unhide HTL]; exact hin)
          have hfq := hB.free (j := j)
          have HBQ := hide hB
          have hTC : N ≤ tc := by rw [← unhide HTL]; exact h1
          clear hj hm hp e2 hB h1 hneg HFL
          go_wp2_with fail
          have hcq' : wr.drew.cell? ⟨q, j, none⟩ = some (.int .u8 ((cf t j : Nat) : Int)) := hcq
          have hfq' : wr.drew.frozen? ⟨q, j, none⟩ = false := hfq
          clear hcq hfq
          go_region
          go_wp2_with fail
          go_roundw
          case rel =>
            refine ⟨i + 1, by go_num, by omega, ?_, (((unhide HK).drew).setCell (p := ⟨q, j, none⟩) h3 _)⟩
            rw [unhide HFT]
            refine .inr ⟨q, tc, by rw [List.length_set, unhide HTL], by rw [List.length_set, unhide HTL]; omega, h2, ?_, h3⟩
            exact ((unhide HBQ).of (w' := wr.drew) rfl).set j _ (by rw [unhide HTL]; exact hin)
          case measure => simp [intOf]; omega
        · have hin1 : (N : Int) ≤ (j : Int) := by omega
          rw [flZ_far (by rw [hj, unhide HTL]; exact hin)] at HFT
          clear hj hm hneg
          go_wp2_with fail
          go_roundw
          case rel => exact ⟨i + 1, by go_num, by omega, by rw [unhide HFT]; exact unhide HFR, unhide HK⟩
          case measure => simp [intOf]; omega
    · have hi2 : i = M := by omega
      subst hi2
      have HFR' : Hid (Fr w.heap.size wr (.slice to N tc) (flipZ s zs)) := by have h := unhide HFR; rwa [← unhide HLZ, List.take_length] at h
      go_wp2
      go_ret
      exact ⟨_, rfl, unhide HFR', unhide HK⟩

end Go.Proofs.Ytnondiaefpdlpaa
