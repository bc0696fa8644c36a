/-
  ramekinref6's Flip.
  ramekinref6's Mix.
  What the laws of bits want of bytes by themselves.
  What the laws of bits want of mixed bytes.
  The least of two or three numbers; fronts of slices; strings.
  The laws' own known.
  The laws' own Places.
  Package poly's small functions: numbers, line.trimmed, line.said, slices.Backward.
-/
import Derived.Test.YtkhpoomajebgoaaMai
import Derived.Test.YtkhpoomajebgoaaMah
import Derived.Test.YtkhpoomajebgoaaMag
import Derived.Test.YtkhpoomajebgoaaMaa
import Derived.Test.YtkhpoomajebgoaaMab
import Derived.Test.YtkhpoomajebgoaaMad
import Derived.Test.YtkhpoomajebgoaaMaf
namespace Go.Proofs.Ytkhpoomajebgoaa
open Go.RowKit Go.Shelf

set_option maxRecDepth 100000 in
set_option maxHeartbeats 8000000 in
theorem rflip_any (v vl : Value) (g gl : Nat) (s : List Nat) (zs : List Int) (w : World) (hA : Arg w v g s) (hZ : ZArg w vl gl zs) (hs : s.length ≤ 1000) :
    Calls Try.prog 12 #[v, vl] w fun e w' => ∃ v', e = .returned v' ∧ Fr w.heap.size w' v' (flipZ s zs) ∧ Below w.heap.size w w' := by
  obtain ⟨⟨ao, c, rfl, hc1, hc2, hnil, hr⟩, hbs⟩ := hA
  obtain ⟨⟨bo, cl, rfl, hd1, hd2, hnil2, hr2⟩, hbd⟩ := hZ
  have HR := hide hr
  have HNIL : Hid (ao = none → s.length = 0 ∧ c = 0) := fun h => by have := hnil h; omega
  have HR2 := hide hr2
  have HBD := hide hbd
  obtain ⟨N, hN⟩ : ∃ N, s.length = N := ⟨_, rfl⟩
  obtain ⟨M, hM⟩ : ∃ M, zs.length = M := ⟨_, rfl⟩
  have HLS := hide hN
  have HLZ := hide hM
  rw [hN] at hc1 hs ⊢
  rw [hM] at hd1 ⊢
  rw [unhide HLS] at HNIL
  have hMm : (M : Int) ≤ 9223372036854775807 := by unfold maxLen at hd2; omega
  have HGL : Hid (zs ≠ [] → gl < w.heap.size) := fun h => by
    obtain ⟨o, _, hcc⟩ := irow_some' hr2 (List.length_pos_iff.2 h)
    exact block_lt_of_cell (hcc 0 (List.length_pos_iff.2 h))
  clear hr hr2 hnil hnil2 hN hM hbd
  obtain ⟨i0, hi0, hz0, hz1, hz2⟩ := info_parts infoE
  have HI := hide hi0
  have HO := hide (own_none w 5)
  have HK0 : Hid (Below w.heap.size w (w.alloc (.cells #[] 5))) := (Below.refl _ w).alloc (Nat.le_refl _) _
  clear hi0
  go_enter Try.func12, Try.ntmps12
  go_wp2_with (at_builtin; refine wpList_append_row _ rfl _ _ 22 rfl w.heap.size 5 i0 Try.underlying22 (unhide HI) hz0 hz1 hz2 (.slice (some ⟨w.heap.size, 0, none⟩) 0 0) 0 [] rfl (unhide HO) ao g N c (ints s) rfl (by rw [ints_len]; exact unhide HLS) ((unhide HR).below (unhide HK0)) (unhide HNIL) (by omega) (by simp) ?_)
  intro v1 w1 ho hg _
  have hF := (owns_fr (s := s) ho).2
  have hk1 := below_grown (unhide HK0) hg (by simp) (fun k hk => by have e2 : w.heap.size = k := Option.some.inj hk; omega)
  obtain ⟨to, tc, hv1⟩ := hF.shape
  subst hv1
  have HF := hide hF
  have HK1 := hide hk1
  rw [unhide HLS] at HF ⊢
  clear hF hk1 HO HK0 ho hg HI
  go_wp2_with fail
  go_loopw [6] (fun p wr => ∃ (i : Nat), p = .int .i64 i ∧ i ≤ M ∧ Fr w.heap.size wr (.slice to N tc) (flipZ s (zs.take i)) ∧ Below w.heap.size w wr) (fun p _ => M - (intOf p).toNat)
  case atStart => exact ⟨0, rfl, by omega, unhide HF, unhide HK1⟩
  case round =>
    obtain ⟨i, rfl, hi, hFr, hK⟩ := hrel
    have HK := hide hK
    have HFR := hide hFr
    clear hK hFr
    by_cases hlt : i < M
    · have hi1 : (i : Int) < (M : Int) := by omega
      obtain ⟨ol, rfl, hcl⟩ := irow_some' ((unhide HR2).below (unhide HK)) (by rw [unhide HLZ]; omega)
      have hc := hcl i (by rw [unhide HLZ]; exact hlt)
      have hzb := unhide HBD _ (getD_mem (zs := zs) (i := i) (by rw [unhide HLZ]; exact hlt))
      have HFT := hide (flipZ_take (s := s) (zs := zs) (i := i) (by rw [unhide HLZ]; exact hlt))
      obtain ⟨z, hz⟩ : ∃ z, zs.getD i 0 = z := ⟨_, rfl⟩
      rw [hz] at hc hzb HFT
      clear hz hcl
      obtain ⟨t, ht⟩ : ∃ t, flipZ s (zs.take i) = t := ⟨_, rfl⟩
      have HTL : Hid (t.length = N) := by show _ = _; rw [← ht, flipZ_len]; exact unhide HLS
      have htb : Bs t := by rw [← ht]; exact flipZ_bs hbs _
      rw [ht] at HFR HFT
      clear ht
      by_cases hneg : z < 0
      · have hz1 : decide (0 ≤ z) = false := by simp; omega
        rw [flZ_neg hneg] at HFT
        go_wp2_with fail
        go_roundw
        case rel => exact ⟨i + 1, by go_num, by omega, by rw [unhide HFT]; exact unhide HFR, unhide HK⟩
        case measure => simp [intOf]; omega
      · obtain ⟨k, rfl⟩ := Int.eq_ofNat_of_zero_le (show 0 ≤ z by omega)
        obtain ⟨j, hj⟩ : ∃ j, k / 8 = j := ⟨_, rfl⟩
        obtain ⟨m, hm⟩ : ∃ m, k % 8 = m := ⟨_, rfl⟩
        have q0 : (k : Int) / 8 = (j : Int) := by omega
        have q1 : (k : Int).tdiv 8 = (j : Int) := by rw [Int.tdiv_eq_ediv_of_nonneg (by omega)]; omega
        have hjb : (j : Int) ≤ 9223372036854775807 := by omega
        by_cases hin : j < N
        · have hin1 : (j : Int) < (N : Int) := by omega
          have hm8 : m < 8 := by omega
          have q2 : (k : Int).tmod 8 = (m : Int) := by rw [Int.tmod_eq_emod_of_nonneg (by omega)]; omega
          have q2' : (k : Int) % 8 = (m : Int) := by omega
          have hpm : 2 ^ m < 256 := by have := pow_lt8 k; rw [hm] at this; exact this
          obtain ⟨p, hp⟩ : ∃ p, 2 ^ m = p := ⟨_, rfl⟩
          rw [hp] at hpm
          have q4 : IntKind.u8.wrap ((2 : Int) ^ m) = (p : Int) := by rw [show (2 : Int) ^ m = ((2 ^ m : Nat) : Int) from by simp, hp]; exact wraps_u8 _ (by omega) (by omega)
          have HFL : Hid (flZ t (k : Int) = t.set j (cf t j ^^^ p)) := by show _ = _; rw [flZ_yes (by rw [hj, unhide HTL]; exact hin), hj, hm, hp]
          have hxor := bits_xor_u8 (htb j) hpm
          rw [unhide HFL] at HFT
          obtain ⟨q, cq, he, h1, h2, hB, h3⟩ := (unhide HFR).blk (by intro h; have := unhide HTL; rw [h] at this; simp at this; omega)
          injection he with e1 e2 e3
          subst e1
          subst e3
          have HB := hide hB
          have hTC : N ≤ tc := by rw [← unhide HTL]; exact h1
          have q1' : IntKind.i64.wrap (j : Int) = (j : Int) := by rw [IntWalk.i64_in _ ⟨by omega, by omega⟩]
          have q3 : IntKind.u64.wrap (m : Int) = (m : Int) := IntWalk.u64_in _ ⟨by omega, by omega⟩
          have hgl := block_lt_of_cell hc
          dsimp only at hgl
          have hglq : gl ≠ q := by have := (unhide HGL) (by intro h; have := unhide HLZ; rw [h] at this; simp at this; omega); omega
          clear hj hm hp e2 hB h1 hneg HFL
          go_wp2_with fail
          have HCW := hide hc
          clear hc
          refine wp_region_noPanic ?_
          refine wp_region_held_drew (S := fun W => Kp [q] wr W) (by kernel_rfl) ((Kp.refl _ _).drew) (fun hHeld => ?_)
          have HH := hide hHeld
          clear hHeld
          refine takeL (i := 0) (v := ?_) rfl (by kernel_rfl) (by kernel_rfl) (by kernel_rfl) (fun _ _ _ h => h) (Or.inl ⟨by rfl, ?_⟩) (unhide HH) ?_
          rotate_left 1
          · intro W hSW; go_simp; all_goals (with_reducible rfl)
          (try simp only [Act.put, List.setIfInBounds_toArray, List.set_cons_zero, List.set_cons_succ])
          refine takeL (i := 1) (v := ?_) rfl (by kernel_rfl) (by kernel_rfl) (by kernel_rfl) (fun _ _ _ h => h) (Or.inl ⟨by rfl, ?_⟩) (unhide HH) ?_
          rotate_left 1
          · intro W hSW; go_simp; all_goals (with_reducible rfl)
          (try simp only [Act.put, List.setIfInBounds_toArray, List.set_cons_zero, List.set_cons_succ])
          refine takeL (i := 2) (v := ?_) rfl (by kernel_rfl) (by kernel_rfl) (by kernel_rfl) (fun _ _ _ h => h) (Or.inl ⟨by rfl, ?_⟩) (unhide HH) ?_
          rotate_left 1
          · intro W hSW; go_simp; all_goals (with_reducible rfl)
          (try simp only [Act.put, List.setIfInBounds_toArray, List.set_cons_zero, List.set_cons_succ])
          refine takeL (i := 3) (v := ?_) rfl (by kernel_rfl) (by kernel_rfl) (by kernel_rfl) (fun _ _ _ h => h) (Or.inl ⟨by rfl, ?_⟩) (unhide HH) ?_
          rotate_left 1
          · intro W hSW; go_simp; all_goals (with_reducible rfl)
          (try simp only [Act.put, List.setIfInBounds_toArray, List.set_cons_zero, List.set_cons_succ])
          refine takeL (i := 4) (v := ?_) rfl (by kernel_rfl) (by kernel_rfl) (by kernel_rfl) (fun _ _ _ h => h) (Or.inl ⟨by rfl, ?_⟩) (unhide HH) ?_
          rotate_left 1
          · intro W1 hSW; have hc := hSW.cell (unhide HCW) (by simp; omega); clear hSW; go_simp; all_goals (with_reducible rfl)
          (try simp only [Act.put, List.setIfInBounds_toArray, List.set_cons_zero, List.set_cons_succ])
          refine takeL (i := 5) (v := ?_) rfl (by kernel_rfl) (by kernel_rfl) (by kernel_rfl) (fun _ _ _ h => h) (Or.inl ⟨by rfl, ?_⟩) (unhide HH) ?_
          rotate_left 1
          · intro W hSW; go_simp; all_goals (with_reducible rfl)
          (try simp only [Act.put, List.setIfInBounds_toArray, List.set_cons_zero, List.set_cons_succ])
          refine takeL (i := 6) (v := ?_) rfl (by kernel_rfl) (by kernel_rfl) (by kernel_rfl) (fun _ _ _ h => h) (Or.inl ⟨by rfl, ?_⟩) (unhide HH) ?_
          rotate_left 1
          · intro W hSW; go_simp; all_goals (with_reducible rfl)
          (try simp only [Act.put, List.setIfInBounds_toArray, List.set_cons_zero, List.set_cons_succ])
          refine takeL (i := 7) (v := ?_) rfl (by kernel_rfl) (by kernel_rfl) (by kernel_rfl) (fun _ _ _ h => h) (Or.inl ⟨by rfl, ?_⟩) (unhide HH) ?_
          rotate_left 1
          · intro W hSW; go_simp; all_goals (with_reducible rfl)
          (try simp only [Act.put, List.setIfInBounds_toArray, List.set_cons_zero, List.set_cons_succ])
          refine takeL (i := 8) (v := ?_) rfl (by kernel_rfl) (by kernel_rfl) (by kernel_rfl) (fun _ _ _ h => h) (Or.inl ⟨by rfl, ?_⟩) (unhide HH) ?_
          rotate_left 1
          · intro W hSW; go_simp; all_goals (with_reducible rfl)
          (try simp only [Act.put, List.setIfInBounds_toArray, List.set_cons_zero, List.set_cons_succ])
          refine takeL (i := 9) (v := ?_) rfl (by kernel_rfl) (by kernel_rfl) (by kernel_rfl) (fun _ _ _ h => h) (Or.inl ⟨by rfl, ?_⟩) (unhide HH) ?_
          rotate_left 1
          · intro W hSW; go_simp; all_goals (with_reducible rfl)
          (try simp only [Act.put, List.setIfInBounds_toArray, List.set_cons_zero, List.set_cons_succ])
          refine takeL (i := 10) (v := ?_) rfl (by kernel_rfl) (by kernel_rfl) (by kernel_rfl) (fun _ _ _ h => h) (Or.inl ⟨by rfl, ?_⟩) (unhide HH) ?_
          rotate_left 1
          · intro W1 hSW; have hc := hSW.cell (unhide HCW) (by simp; omega); clear hSW; go_simp; all_goals (with_reducible rfl)
          (try simp only [Act.put, List.setIfInBounds_toArray, List.set_cons_zero, List.set_cons_succ])
          refine takeL (i := 11) (v := ?_) rfl (by kernel_rfl) (by kernel_rfl) (by kernel_rfl) (fun _ _ _ h => h) (Or.inl ⟨by rfl, ?_⟩) (unhide HH) ?_
          rotate_left 1
          · intro W hSW; go_simp; all_goals (with_reducible rfl)
          (try simp only [Act.put, List.setIfInBounds_toArray, List.set_cons_zero, List.set_cons_succ])
          refine takeL (i := 12) (v := ?_) rfl (by kernel_rfl) (by kernel_rfl) (by kernel_rfl) (fun _ _ _ h => h) (Or.inl ⟨by rfl, ?_⟩) (unhide HH) ?_
          rotate_left 1
          · intro W hSW; go_simp; all_goals (with_reducible rfl)
          (try simp only [Act.put, List.setIfInBounds_toArray, List.set_cons_zero, List.set_cons_succ])
          refine takeL (i := 14) (v := ?_) rfl (by kernel_rfl) (by kernel_rfl) (by kernel_rfl) (fun _ _ _ h => h) (Or.inl ⟨by rfl, ?_⟩) (unhide HH) ?_
          rotate_left 1
          · intro W hSW; go_simp; all_goals (with_reducible rfl)
          (try simp only [Act.put, List.setIfInBounds_toArray, List.set_cons_zero, List.set_cons_succ])
          refine takeL (i := 15) (v := ?_) rfl (by kernel_rfl) (by kernel_rfl) (by kernel_rfl) (fun _ _ _ h => h) (Or.inl ⟨by rfl, ?_⟩) (unhide HH) ?_
          rotate_left 1
          · intro W hSW; go_simp; all_goals (with_reducible rfl)
          (try simp only [Act.put, List.setIfInBounds_toArray, List.set_cons_zero, List.set_cons_succ])
          refine takeL (i := 16) (v := ?_) rfl (by kernel_rfl) (by kernel_rfl) (by kernel_rfl) (fun _ _ _ h => h) (Or.inl ⟨by rfl, ?_⟩) (unhide HH) ?_
          rotate_left 1
          · intro W hSW; go_simp; all_goals (with_reducible rfl)
          (try simp only [Act.put, List.setIfInBounds_toArray, List.set_cons_zero, List.set_cons_succ])
          refine takeL (i := 17) (v := ?_) rfl (by kernel_rfl) (by kernel_rfl) (by kernel_rfl) (fun _ _ _ h => h) (Or.inl ⟨by rfl, ?_⟩) (unhide HH) ?_
          rotate_left 1
          · intro W1 hSW; have hc := hSW.cell (unhide HCW) (by simp; omega); clear hSW; go_simp; all_goals (with_reducible rfl)
          (try simp only [Act.put, List.setIfInBounds_toArray, List.set_cons_zero, List.set_cons_succ])
          refine takeL (i := 18) (v := ?_) rfl (by kernel_rfl) (by kernel_rfl) (by kernel_rfl) (fun _ _ _ h => h) (Or.inl ⟨by rfl, ?_⟩) (unhide HH) ?_
          rotate_left 1
          · intro W hSW; go_simp; all_goals (with_reducible rfl)
          (try simp only [Act.put, List.setIfInBounds_toArray, List.set_cons_zero, List.set_cons_succ])
          refine takeL (i := 19) (v := ?_) rfl (by kernel_rfl) (by kernel_rfl) (by kernel_rfl) (fun _ _ _ h => h) (Or.inl ⟨by rfl, ?_⟩) (unhide HH) ?_
          rotate_left 1
          · intro W hSW; go_simp; all_goals (with_reducible rfl)
          (try simp only [Act.put, List.setIfInBounds_toArray, List.set_cons_zero, List.set_cons_succ])
          refine takeL (i := 20) (v := ?_) rfl (by kernel_rfl) (by kernel_rfl) (by kernel_rfl) (fun _ _ _ h => h) (Or.inl ⟨by rfl, ?_⟩) (unhide HH) ?_
          rotate_left 1
          · intro W hSW; go_simp; all_goals (with_reducible rfl)
          (try simp only [Act.put, List.setIfInBounds_toArray, List.set_cons_zero, List.set_cons_succ])
          refine wpAnyH_ready (rs := [13]) (by kernel_rfl) (by simp) ?_
          refine consL rfl (fun K hK => ?_) AllReadyH.nil
          have hc4 := ((unhide HB).of (w' := wr.drew) rfl).cell (j := j) (by rw [unhide HTL]; exact hin)
          go_simp
          refine hK.out _ _ (unhide HH) (fun hHeld => ?_)
          clear hK K HH
          have HH := hide hHeld
          clear hHeld
          (try simp only [Act.put, List.setIfInBounds_toArray, List.set_cons_zero, List.set_cons_succ])
          clear hc4
          refine takeL (i := 21) (v := ?_) rfl (by kernel_rfl) (by kernel_rfl) (by kernel_rfl) (fun _ _ _ h => h) (Or.inl ⟨by rfl, ?_⟩) (unhide HH) ?_
          rotate_left 1
          · intro W hSW; go_simp; all_goals (with_reducible rfl)
          (try simp only [Act.put, List.setIfInBounds_toArray, List.set_cons_zero, List.set_cons_succ])
          refine takeL (i := 22) (v := ?_) rfl (by kernel_rfl) (by kernel_rfl) (by kernel_rfl) (fun _ _ _ h => h) (Or.inl ⟨by rfl, ?_⟩) (unhide HH) ?_
          rotate_left 1
          · intro W hSW; go_simp; all_goals (with_reducible rfl)
          (try simp only [Act.put, List.setIfInBounds_toArray, List.set_cons_zero, List.set_cons_succ])
          refine wpAnyH_ready (rs := [23]) (by kernel_rfl) (by simp) ?_
          refine consL rfl (fun K hK => ?_) AllReadyH.nil
          have hc4 := ((unhide HB).of (w' := wr.drew) rfl).cell (j := j) (by rw [unhide HTL]; exact hin)
          have hf4 := ((unhide HB).of (w' := wr.drew) rfl).free (j := j)
          have HH2 := HH
          go_simp
          refine hK.out _ _ ((unhide HH2).setCell ⟨q, j, none⟩ _ (.inl (by simp))) (fun hHeld => ?_)
          clear hHeld hK K hc4 hf4
          (try simp only [Act.put, List.setIfInBounds_toArray, List.set_cons_zero, List.set_cons_succ])
          refine wpAnyH_done (by kernel_rfl) ?_ _
          refine NoPanic.normal ?_
          go_wp2_with fail
          go_roundw
          case rel =>
            refine ⟨i + 1, by go_num, by omega, ?_, (((unhide HK).drew).setCell (p := ⟨q, j, none⟩) h3 _)⟩
            rw [unhide HFT]
            refine .inr ⟨q, tc, by rw [List.length_set, unhide HTL], by rw [List.length_set, unhide HTL]; omega, h2, ?_, h3⟩
            exact ((unhide HB).of (w' := wr.drew) rfl).set j _ (by rw [unhide HTL]; exact hin)
          case measure => simp [intOf]; omega
        · have hin1 : (N : Int) ≤ (j : Int) := by omega
          rw [flZ_far (by rw [hj, unhide HTL]; exact hin)] at HFT
          clear hj hm hneg
          go_wp2_with fail
          go_roundw
          case rel => exact ⟨i + 1, by go_num, by omega, by rw [unhide HFT]; exact unhide HFR, unhide HK⟩
          case measure => simp [intOf]; omega
    · have hi2 : i = M := by omega
      subst hi2
      have HFR' : Hid (Fr w.heap.size wr (.slice to N tc) (flipZ s zs)) := by have h := unhide HFR; rwa [← unhide HLZ, List.take_length] at h
      go_wp2
      go_ret
      exact ⟨_, rfl, unhide HFR', unhide HK⟩

end Go.Proofs.Ytkhpoomajebgoaa

namespace Go.Proofs.Ytkhpoomajebgoaa
open Go.RowKit Go.Shelf

end Go.Proofs.Ytkhpoomajebgoaa

namespace Go.Proofs.Ytkhpoomajebgoaa
open Go.RowKit Go.Shelf

theorem bt_pow (j k : Nat) : bt (2 ^ j) k = if k = j then 1 else 0 := by
  rw [bt_test, Nat.testBit_two_pow]
  by_cases h : j = k
  · simp [h]
  · rw [if_neg (fun e => h e.symm)]; simp [h]
theorem bfle (f : Nat → Nat) (k : Nat) : bf f k ≤ 1 := bt_le _ _

theorem bf_flip1 {s : List Nat} {j : Nat} (hj : j < 8 * s.length) (k : Nat) : bf (cf (flip1 s j)) k = bf (cf s) k ^^^ (if j = k then 1 else 0) := by
  unfold bf
  rw [flip1, cf_set _ _ _ _ (by omega)]
  by_cases h : k / 8 = j / 8
  · rw [if_pos h, bt_xor, bt_pow, h]
    congr 1
    by_cases h2 : k % 8 = j % 8
    · rw [if_pos h2, if_pos (by omega)]
    · rw [if_neg h2, if_neg (by omega)]
  · rw [if_neg h, if_neg (by omega), Nat.xor_zero]
theorem bf_flZ {s : List Nat} (z : Int) {k : Nat} (hk : k < 8 * s.length) : bf (cf (flZ s z)) k = bf (cf s) k ^^^ (if z = (k : Int) then 1 else 0) := by
  unfold flZ
  by_cases h : 0 ≤ z ∧ z < 8 * (s.length : Int)
  · rw [if_pos h, bf_flip1 (by omega)]
    congr 1
    by_cases e : z = (k : Int)
    · rw [if_pos e, if_pos (by omega)]
    · rw [if_neg e, if_neg (by omega)]
  · rw [if_neg h, if_neg (by omega), Nat.xor_zero]

theorem xor_bits {x c e : Nat} (hx : x ≤ 1) (he : e ≤ 1) : x ^^^ ((c + e) % 2) = (x ^^^ e) ^^^ (c % 2) := by
  have h1 : x = 0 ∨ x = 1 := by omega
  have h2 : e = 0 ∨ e = 1 := by omega
  have h3 : c % 2 = 0 ∨ c % 2 = 1 := by omega
  rcases h1 with rfl | rfl <;> rcases h2 with rfl | rfl <;> rcases h3 with h3 | h3 <;> rw [h3] <;> simp [Nat.add_mod, h3]

/-- Each bit is turned as often as its number stands there. -/
theorem bf_flipZ (zs : List Int) : ∀ (s : List Nat) {k : Nat}, k < 8 * s.length → bf (cf (flipZ s zs)) k = bf (cf s) k ^^^ (zs.count (k : Int) % 2) := by
  induction zs with
  | nil => intro s k hk; simp [flipZ]
  | cons z zs ih =>
    intro s k hk
    rw [flipZ, List.foldl_cons, ← flipZ, ih (flZ s z) (by rw [flZ_len]; exact hk), bf_flZ z hk, List.count_cons]
    by_cases e : z = (k : Int)
    · rw [if_pos e, show ((z == (k : Int)) = true) from by rw [e]; simp, if_pos rfl, xor_bits (bfle _ _) (Nat.le_refl 1)]
    · rw [if_neg e, show ((z == (k : Int)) = false) from by rw [beq_eq_false_iff_ne]; exact e, if_neg (by simp), Nat.xor_zero, Nat.add_zero]

theorem bytes_ext {a b : List Nat} (hl : a.length = b.length) (ha : Bs a) (hb : Bs b) (h : ∀ k, k < 8 * a.length → bf (cf a) k = bf (cf b) k) : a = b := by
  refine eq_of_cf hl (fun i => ?_)
  by_cases hi : i < a.length
  · refine bt_ext (ha i) (hb i) (fun k hk => ?_)
    have := h (8 * i + k) (by omega)
    unfold bf at this
    rwa [show (8 * i + k) / 8 = i from by omega, show (8 * i + k) % 8 = k from by omega] at this
  · rw [cf_ge (by omega), cf_ge (by omega)]

theorem bfxor (f g : Nat → Nat) (k : Nat) : bf (fun i => f i ^^^ g i) k = bf f k ^^^ bf g k := bt_xor _ _ _
theorem ap_mem {a b : List Nat} (hl : a.length = b.length) (k : Nat) : k ∈ apL a b ↔ k < 8 * a.length ∧ bf (cf a) k ≠ bf (cf b) k := by
  rw [apL, if_pos hl, onF, List.mem_filter, List.mem_range, bfxor]
  have h1 := bfle (cf a) k
  have h2 := bfle (cf b) k
  generalize bf (cf a) k = x at *
  generalize bf (cf b) k = y at *
  have hx : x = 0 ∨ x = 1 := by omega
  have hy : y = 0 ∨ y = 1 := by omega
  rcases hx with rfl | rfl <;> rcases hy with rfl | rfl <;> simp
theorem ap_nodup (a b : List Nat) : (apL a b).Nodup := by
  unfold apL
  split
  · exact List.Pairwise.filter _ List.nodup_range
  · exact List.nodup_nil
theorem ap_lt {a b : List Nat} {k : Nat} (h : k ∈ apL a b) : k < 8 * a.length := by
  unfold apL at h
  split at h
  · exact List.mem_range.1 (List.mem_filter.1 h).1
  · simp at h
theorem ap_len (a b : List Nat) : (apL a b).length ≤ 8 * a.length := by
  unfold apL
  split
  · refine Nat.le_trans (List.length_filter_le _ _) ?_
    rw [List.length_range]
    exact Nat.le_refl _
  · simp
theorem count_ints {l : List Nat} (h : l.Nodup) (k : Nat) : (ints l).count (k : Int) = if k ∈ l then 1 else 0 := by
  have hn : (ints l).Nodup := ints_nodup h
  have hm : (k : Int) ∈ ints l ↔ k ∈ l := by
    unfold ints
    rw [List.mem_map]
    constructor
    · rintro ⟨j, hj, e⟩
      have : j = k := by omega
      exact this ▸ hj
    · exact fun h => ⟨k, h, rfl⟩
  by_cases e : k ∈ l
  · rw [if_pos e, hn.count, if_pos (hm.2 e)]
  · rw [if_neg e, List.count_eq_zero]
    exact fun h => e (hm.1 h)

theorem xor_self2 {x y : Nat} (hx : x ≤ 1) (hy : y ≤ 1) : x ^^^ ((if x ≠ y then 1 else 0) % 2) = y := by
  have h1 : x = 0 ∨ x = 1 := by omega
  have h2 : y = 0 ∨ y = 1 := by omega
  rcases h1 with rfl | rfl <;> rcases h2 with rfl | rfl <;> rfl

/-- What is turned where two differ is the other one. -/
theorem flip_apart {a b : List Nat} (hl : a.length = b.length) (ha : Bs a) (hb : Bs b) : flipZ a (ints (apL a b)) = b := by
  refine bytes_ext (by rw [flipZ_len]; exact hl) (flipZ_bs ha _) hb (fun k hk => ?_)
  rw [flipZ_len] at hk
  rw [bf_flipZ _ _ hk, count_ints (ap_nodup _ _)]
  have : (if k ∈ apL a b then 1 else 0) = (if bf (cf a) k ≠ bf (cf b) k then 1 else 0) := by
    by_cases e : k ∈ apL a b
    · rw [if_pos e, if_pos ((ap_mem hl k).1 e).2]
    · rw [if_neg e, if_neg (fun h => e ((ap_mem hl k).2 ⟨hk, h⟩))]
  rw [this]
  exact xor_self2 (bfle _ _) (bfle _ _)
theorem flip_back {a b : List Nat} (hl : a.length = b.length) (ha : Bs a) (hb : Bs b) : flipZ b (ints (apL a b)) = a := by
  refine bytes_ext (by rw [flipZ_len]; exact hl.symm) (flipZ_bs hb _) ha (fun k hk => ?_)
  rw [flipZ_len] at hk
  rw [bf_flipZ _ _ hk, count_ints (ap_nodup _ _)]
  have : (if k ∈ apL a b then 1 else 0) = (if bf (cf b) k ≠ bf (cf a) k then 1 else 0) := by
    by_cases e : k ∈ apL a b
    · rw [if_pos e, if_pos (Ne.symm ((ap_mem hl k).1 e).2)]
    · rw [if_neg e, if_neg (fun h => e ((ap_mem hl k).2 ⟨by omega, Ne.symm h⟩))]
  rw [this]
  exact xor_self2 (bfle _ _) (bfle _ _)
theorem ap_self (a : List Nat) : apL a a = [] := by
  refine List.eq_nil_iff_forall_not_mem.2 (fun k h => ?_)
  exact ((ap_mem rfl k).1 h).2 rfl

end Go.Proofs.Ytkhpoomajebgoaa

namespace Go.Proofs.Ytkhpoomajebgoaa
open Go.RowKit Go.Shelf

theorem bf_mixF {a b mask : List Nat} {k : Nat} (hk : k < 8 * a.length) (hm : mask ≠ []) : bf (cf (mixF a b mask)) k = if bt (mAt mask (k / 8)) (k % 8) = 1 then bf (cf b) k else bf (cf a) k := by
  unfold bf
  rw [cf_mixF (by omega) hm, bt_mx]
theorem mixL_len {a b : List Nat} (hl : a.length = b.length) (mask : List Nat) : (mixL a b mask).length = a.length := by rw [mixL, if_pos hl, mixF_len]
theorem mixL_bs {a b : List Nat} (mask : List Nat) (ha : Bs a) (hb : Bs b) : Bs (mixL a b mask) := by
  unfold mixL
  split
  · exact mixF_bs ha hb
  · exact Bs.nil
theorem mix_none {a b : List Nat} (hl : a.length = b.length) : mixL a b [] = a := by rw [mixL, if_pos hl, mixF, if_pos rfl]
theorem mix_all {a b : List Nat} (hl : a.length = b.length) (ha : Bs a) (hb : Bs b) : mixL a b [255] = b := by
  refine bytes_ext (by rw [mixL_len hl]; exact hl) (mixL_bs _ ha hb) hb (fun k hk => ?_)
  rw [mixL_len hl] at hk
  rw [mixL, if_pos hl, bf_mixF hk (by simp)]
  have : ∀ j, j < 8 → bt 255 j = 1 := by decide
  rw [if_pos]
  show bt (cf [255] (k / 8 % 1)) (k % 8) = 1
  rw [Nat.mod_one]
  exact this _ (by omega)

theorem filter_sum {p q r : Nat → Bool} (h : ∀ k, (r k).toNat = (p k).toNat + (q k).toNat) (l : List Nat) : (l.filter p).length + (l.filter q).length = (l.filter r).length := by
  induction l with
  | nil => rfl
  | cons x l ih =>
    have hx := h x
    rw [List.filter_cons, List.filter_cons, List.filter_cons]
    cases hp : p x <;> cases hq : q x <;> cases hr : r x <;> simp [hp, hq, hr] at hx ⊢ <;> omega

theorem ap_eq {a b : List Nat} (hl : a.length = b.length) : apL a b = (List.range (8 * a.length)).filter (fun k => decide (bf (cf a) k ≠ bf (cf b) k)) := by
  rw [apL, if_pos hl, onF]
  refine List.filter_congr (fun k _ => ?_)
  rw [bfxor]
  have h1 := bfle (cf a) k
  have h2 := bfle (cf b) k
  generalize bf (cf a) k = x at *
  generalize bf (cf b) k = y at *
  have hx : x = 0 ∨ x = 1 := by omega
  have hy : y = 0 ∨ y = 1 := by omega
  rcases hx with rfl | rfl <;> rcases hy with rfl | rfl <;> rfl

theorem filter_sum' {p q r : Nat → Bool} (l : List Nat) (h : ∀ k ∈ l, (r k).toNat = (p k).toNat + (q k).toNat) : (l.filter p).length + (l.filter q).length = (l.filter r).length := by
  induction l with
  | nil => rfl
  | cons x l ih =>
    have hx := h x List.mem_cons_self
    have ih := ih (fun k hk => h k (List.mem_cons_of_mem _ hk))
    rw [List.filter_cons, List.filter_cons, List.filter_cons]
    cases hp : p x <;> cases hq : q x <;> cases hr : r x <;> simp [hp, hq, hr] at hx ⊢ <;> omega

/-- A mix differs from both nowhere where they are the same. -/
theorem mix_sum {a b : List Nat} (hl : a.length = b.length) (mask : List Nat) : (apL a (mixL a b mask)).length + (apL (mixL a b mask) b).length = (apL a b).length := by
  rw [ap_eq (by rw [mixL_len hl]), ap_eq (by rw [mixL_len hl]; exact hl), ap_eq hl, mixL_len hl]
  refine filter_sum' _ (fun k hk => ?_)
  rw [List.mem_range] at hk
  rw [mixL, if_pos hl]
  by_cases hm : mask = []
  · rw [mixF, if_pos hm]; simp
  · rw [bf_mixF hk hm]
    by_cases e : bt (mAt mask (k / 8)) (k % 8) = 1
    · rw [if_pos e]; simp
    · rw [if_neg e]; simp

theorem nil_arg (w : World) : Arg w (.slice none 0 0) 0 [] := ⟨⟨none, 0, rfl, by simp, by unfold maxLen; omega, fun _ => rfl, .inl rfl⟩, Bs.nil⟩

end Go.Proofs.Ytkhpoomajebgoaa

namespace Go.Proofs.Ytkhpoomajebgoaa
open Go.RowKit Go.Shelf

theorem min_three (t : TypeId) (ts : Array TypeId) (x y z : Int) (w : World) : (Builtin.min_ ts t #[.int .i64 x, .int .i64 y, .int .i64 z]).run Try.prog w = .ok (.int .i64 (min (min x y) z)) w := by
  unfold Builtin.min_
  simp only [List.foldlM_cons, List.foldlM_nil, Builtin.min2]
  by_cases h1 : y < x
  · by_cases h2 : z < y
    · simp [h1, h2, Sem.run_pure]; omega
    · simp [h1, h2, Sem.run_pure]; omega
  · by_cases h2 : z < x
    · simp [h1, h2, Sem.run_pure]; omega
    · simp [h1, h2, Sem.run_pure]; omega

theorem min_two (t : TypeId) (ts : Array TypeId) (x y : Int) (w : World) : (Builtin.min_ ts t #[.int .i64 x, .int .i64 y]).run Try.prog w = .ok (.int .i64 (min x y)) w := by
  unfold Builtin.min_
  simp only [List.foldlM_cons, List.foldlM_nil, Builtin.min2]
  by_cases h1 : y < x
  · simp [h1, Sem.run_pure]; omega
  · simp [h1, Sem.run_pure]; omega

theorem Arg.front {w : World} {ao : Option Addr} {n c g m : Nat} {s : List Nat} (h : Arg w (.slice ao n c) g s) (hm : m ≤ n) : Arg w (.slice ao m c) g (s.take m) := by
  obtain ⟨⟨ao', c', h1, h2, h3, h4, h5⟩, hb⟩ := h
  injection h1 with e1 e2 e3
  subst e1
  subst e3
  have hl : (s.take m).length = m := by rw [List.length_take]; omega
  refine ⟨⟨ao, c, by rw [hl], by omega, h3, h4, row_front h5⟩, fun i => ?_⟩
  rw [cf_take]
  split
  · exact hb i
  · omega

theorem below_drewN (w : World) (n : Nat) : Below w.heap.size w (w.drewN n) := ⟨rfl, rfl, rfl, Nat.le_refl _, fun _ _ => rfl⟩
theorem arg_row {w : World} {ao : Option Addr} {n c g : Nat} {s : List Nat} (h : Arg w (.slice ao n c) g s) : Row w ao g (ints s) := by
  obtain ⟨⟨ao', c', h1, h2, h3, h4, h5⟩, hb⟩ := h
  injection h1 with e1 e2 e3
  subst e1
  exact h5
theorem str_eq (a : List Nat) : ((strOf (ints a)).toList == (strOf (ints a)).toList) = true := by simp

end Go.Proofs.Ytkhpoomajebgoaa

namespace Go.Proofs.Ytkhpoomajebgoaa
open Go.RowKit Go.Shelf

theorem blk_one (w : World) (x : Nat) : Blk (w.alloc (.cells #[.int .u8 (x : Int)] 5)) w.heap.size [x] :=
  ⟨_, World.alloc_heap_new w _, fun j hj => by
    have : j = 0 := by simpa using hj
    subst this
    rfl⟩
theorem arg_one (w : World) (x : Nat) (hx : x < 256) : Arg (w.alloc (.cells #[.int .u8 (x : Int)] 5)) (.slice (some ⟨w.heap.size, 0, none⟩) 1 1) w.heap.size [x] :=
  (blk_one w x).arg (c := 1) (Bs.cons hx Bs.nil) (by simp) (by unfold maxLen; omega)

theorem known_apart : apL [1] [2] = [0, 1] := by decide +kernel

theorem OwnI.cells {base : Nat} {w : World} {v : Value} {l : List Nat} (h : OwnI base w v l) (hl : l ≠ []) : ∃ g c, v = .slice (some ⟨g, 0, none⟩) l.length c ∧ ∀ j, j < l.length → w.cell? ⟨g, j, none⟩ = some (.int .i64 ((cf l j : Nat) : Int)) := by
  rcases h.shape with ⟨_, h2⟩ | ⟨q, cq, h1, _, _, _, _, h6⟩
  · exact absurd h2 hl
  · exact ⟨q, cq, h1, h6⟩

theorem known_args (w W : World) (hW : (w.alloc (.cells #[.int .u8 1] 5)).alloc (.cells #[.int .u8 2] 5) = W) :
    Arg W (.slice (some ⟨w.heap.size, 0, none⟩) 1 1) w.heap.size [1] ∧ Arg W (.slice (some ⟨w.heap.size + 1, 0, none⟩) 1 1) (w.heap.size + 1) [2] ∧ Below w.heap.size w W := by
  subst hW
  refine ⟨(arg_one w 1 (by omega)).below ((Below.refl _ _).alloc (Nat.le_refl _) _), ?_, ((Below.refl _ w).alloc (Nat.le_refl _) _).alloc (by simp) _⟩
  have h := arg_one (w.alloc (.cells #[.int .u8 1] 5)) 2 (by omega)
  rwa [World.size_alloc] at h

end Go.Proofs.Ytkhpoomajebgoaa

namespace Go.Proofs.Ytkhpoomajebgoaa
open Go.RowKit

theorem within4_any (a n : Int) (w : World) (hn : 0 < n) (hn2 : n < 100000) :
    Calls Try.prog 24 #[.int .i64 a, .int .i64 n] w fun e w' => e = .returned (.int .i64 (a % n)) ∧ w' = w := by
  obtain ⟨h1, h2, h3, h4⟩ := tmod_emod a n hn
  have H1 := hide h1
  have H2 := hide h2
  clear h1 h2
  go_enter Try.func24, Try.ntmps24
  go_wp2
  · have h5 : a.tmod n < 0 := by assumption
    go_ret
    exact ⟨by rw [← unhide H1 h5]; rfl, rfl⟩
  · have h5 : 0 ≤ a.tmod n := by assumption
    go_ret
    exact ⟨by rw [← unhide H2 h5]; rfl, rfl⟩

set_option maxRecDepth 100000 in
set_option maxHeartbeats 8000000 in
theorem places_any {w : World} (ao : Option Addr) (g len cap : Nat) (zs : List Int) (hz : zs.length = len) (hr : IRow w ao g zs) (hcap : len ≤ cap) (hm : cap ≤ maxLen) (hb : ∀ z ∈ zs, -9223372036854775808 ≤ z ∧ z ≤ 9223372036854775807) (n most : Nat) (hn0 : 0 < n) (hn1 : n < 1000) (hmo : most ≤ 1000) :
    Calls Try.prog 14 #[.slice ao len cap, .int .i64 (n : Int), .int .i64 (most : Int)] w fun e w' => ∃ v ps, e = .returned v ∧ ps.Nodup ∧ (∀ k ∈ ps, k < n) ∧ ps.length ≤ most ∧ OwnI w.heap.size w' v ps ∧ Below w.heap.size w w' := by
  obtain ⟨i0, hi0, hz0, hz1, hz2⟩ := info_parts infoI
  have HI := hide hi0
  have HR := hide hr
  have HZ := hide hz
  have HBO := hide hb
  clear hr hi0 hz hb
  have hlen : (len : Int) ≤ 9223372036854775807 := by unfold maxLen at hm; omega
  go_enter Try.func14, Try.ntmps14
  go_wp2_with fail
  go_loopw [7, 8] (fun v p wr => ∃ (i : Nat) (ps : List Nat) (v0 : Value), v = v0 ∧ p = .int .i64 i ∧ i ≤ len ∧ ps.Nodup ∧ (∀ k ∈ ps, k < n) ∧ ps.length ≤ most ∧ OwnI w.heap.size wr v ps ∧ Kp [] w wr) (fun _ p _ => len - (intOf p).toNat)
  case atStart => exact ⟨0, [], _, rfl, rfl, by omega, by simp, by simp, by simp, OwnI.nil _ _, Kp.refl _ _⟩
  case round =>
    obtain ⟨i, ps, v, rfl, rfl, hi, hnd, hlt24, hpl, hO, hK⟩ := hrel
    have HO := hide hO
    have HK := hide hK
    have HND := hide hnd
    have H224 := hide hlt24
    obtain ⟨vo, vc, rfl, hsh⟩ : ∃ vo vc, u7 = .slice vo ps.length vc ∧ ((vo = none ∧ ps = []) ∨ ∃ q, vo = some ⟨q, 0, none⟩ ∧ ∀ j, j < ps.length → wr.cell? ⟨q, j, none⟩ = some (.int .i64 ((cf ps j : Nat) : Int))) := by
      rcases hO.shape with ⟨h1, h2⟩ | ⟨q, cq, h1, h2, h3, h4, h5, h6⟩
      · exact ⟨none, 0, by rw [h1, h2]; rfl, .inl ⟨rfl, h2⟩⟩
      · exact ⟨some ⟨q, 0, none⟩, cq, h1, .inr ⟨q, rfl, h6⟩⟩
    have HSH := hide hsh
    have hsz := hK.size
    clear hO hK hnd hlt24 hsh
    by_cases hlt : i < len
    · have hi1 : (i : Int) < (len : Int) := by omega
      by_cases hmm : ps.length < most
      · have hm1 : (ps.length : Int) < (most : Int) := by omega
        obtain ⟨o, rfl, hcl⟩ := irow_some' (unhide HR) (by rw [unhide HZ]; omega)
        have hc := hcl i (by rw [unhide HZ]; exact hlt)
        have hcw := (unhide HK).cell hc (by simp)
        clear hcl hc
        obtain ⟨z, hzz⟩ : ∃ z, zs.getD i 0 = z := ⟨_, rfl⟩
        rw [hzz] at hcw
        clear hzz
        go_wp2_with fail
        refine (within4_any z n wr (by omega) (by omega)).mono ?_
        rintro e w' ⟨rfl, hw'⟩
        subst hw'
        obtain ⟨k, hk⟩ : ∃ k : Nat, z % (n : Int) = (k : Int) := ⟨(z % (n : Int)).toNat, by have := Int.emod_nonneg z (show (n : Int) ≠ 0 by omega); omega⟩
        have hk2 : k < n := by have := Int.emod_lt_of_pos z (show (0 : Int) < n by omega); omega
        rw [hk]
        clear hk hcw
        go_wp2_with fail
        go_loop [10, 11] (fun b q => ∃ (j : Nat) (y : Bool), b = .bool y ∧ q = .int .i64 j ∧ j ≤ ps.length ∧ (y = true ↔ k ∈ ps.take j)) (fun _ q => ps.length - (intOf q).toNat)
        case atStart => exact ⟨0, false, rfl, rfl, by omega, by simp⟩
        case round =>
          obtain ⟨j, y, rfl, rfl, hj, hy⟩ := hrel
          have HY := hide hy
          clear hy
          by_cases hj2 : j < ps.length
          · have hj1 : (j : Int) < (ps.length : Int) := by omega
            cases y with
            | true =>
              go_wp2_with fail
              go_round
              case rel => exact ⟨j + 1, true, rfl, by go_num, by omega, by rw [take_mem hj2]; exact ⟨fun h => .inl ((unhide HY).1 h), fun _ => rfl⟩⟩
              case measure => simp [intOf]; omega
            | false =>
              have hno : ¬ k ∈ ps.take j := fun h => by have := (unhide HY).2 h; cases this
              have hcq : ∃ q, vo = some ⟨q, 0, none⟩ ∧ w'.cell? ⟨q, j, none⟩ = some (.int .i64 ((cf ps j : Nat) : Int)) := by
                rcases unhide HSH with ⟨_, h⟩ | ⟨q, h1, h2⟩
                · rw [h] at hj2; simp at hj2
                · exact ⟨q, h1, h2 j hj2⟩
              obtain ⟨q, rfl, hcq⟩ := hcq
              by_cases he : cf ps j = k
              · have he1 : (((cf ps j : Nat) : Int) == (k : Int)) = true := by rw [he]; simp
                go_wp2_with fail
                go_round
                case rel => exact ⟨j + 1, true, rfl, by go_num, by omega, by rw [take_mem hj2]; exact ⟨fun _ => .inr he, fun _ => rfl⟩⟩
                case measure => simp [intOf]; omega
              · have he1 : (((cf ps j : Nat) : Int) == (k : Int)) = false := by rw [beq_eq_false_iff_ne]; omega
                go_wp2_with fail
                go_round
                case rel => exact ⟨j + 1, false, rfl, by go_num, by omega, by rw [take_mem hj2]; exact ⟨fun h => (by cases h), fun h => h.elim (fun h => absurd h hno) (fun h => absurd h he)⟩⟩
                case measure => simp [intOf]; omega
          · have hj3 : j = ps.length := by omega
            subst hj3
            have hy := unhide HY
            rw [List.take_length] at hy
            cases y with
            | true =>
              go_wp2_with fail
              go_roundw
              case rel => exact ⟨i + 1, ps, _, rfl, by go_num, by omega, unhide HND, unhide H224, hpl, unhide HO, unhide HK⟩
              case measure => simp [intOf]; omega
            | false =>
              have hno : ¬ k ∈ ps := fun h => by have := hy.2 h; cases this
              have HNO := hide hno
              clear hy hno
              have HO2 : Hid (OwnI w.heap.size (w'.alloc (.cells #[.int .i64 (k : Int)] 3)) (.slice vo ps.length vc) ps) := (unhide HO).keep (fun b _ hb => Below.heap_alloc _ _ _ hb)
              have HC2 := hide (cell_new' w' (.int .i64 (k : Int)) 3).1
              have HK2 := hide ((unhide HK).alloc (.cells #[.int .i64 (k : Int)] 3))
              go_wp2_with (at_builtin; refine wpList_append_int _ rfl _ _ 23 rfl w.heap.size 3 i0 Try.underlying23 (unhide HI) hz0 hz1 hz2 (.slice vo ps.length vc) ps.length _ rfl (unhide HO2) w'.heap.size (k : Int) rfl (unhide HC2) (by omega) (by simp; omega) ?_)
              intro v2 w2 ho hg
              have HO3 := hide (OwnI.snoc ho)
              have HK3 := hide ((unhide HK2).grown hg (fun b e => by
                have hsh := unhide HO2
                rcases hsh.shape with ⟨h1, _⟩ | ⟨q, cq, h1, h2, _⟩
                · rw [h1] at e; cases e
                · rw [h1] at e; cases e; exact .inr h2))
              clear ho hg
              go_wp2_with fail
              go_roundw
              case rel => exact ⟨i + 1, ps ++ [k], _, rfl, by go_num, by omega, List.nodup_append.2 ⟨unhide HND, by simp, by simp; intro a ha e; exact unhide HNO (e ▸ ha)⟩, by
                intro a ha
                rcases List.mem_append.1 ha with h | h
                · exact unhide H224 a h
                · rw [List.mem_singleton.1 h]; exact hk2, by simp; omega, unhide HO3, unhide HK3⟩
              case measure => simp [intOf]; omega
      · have hm1 : (most : Int) ≤ (ps.length : Int) := by omega
        go_wp2
        go_ret
        exact ⟨_, ps, rfl, unhide HND, unhide H224, hpl, unhide HO, (unhide HK).below⟩
    · have hi2 : i = len := by omega
      subst hi2
      go_wp2
      go_ret
      exact ⟨_, ps, rfl, unhide HND, unhide H224, hpl, unhide HO, (unhide HK).below⟩

end Go.Proofs.Ytkhpoomajebgoaa

namespace Go.Proofs.Ytkhpoomajebgoaa
open Go.RowKit Go.Shelf
attribute [local go_sem] Oper.semAt_some

theorem row_trim {w : World} {ao : Option Addr} {g : Nat} {s : List Nat} (hr : Row w ao g (ints s)) : Row w ao g (ints (trim s)) := by
  have h : trim s = s.take (trim s).length := by
    refine trim_take (trim_len s) (fun j hj => ?_) ?_
    · rw [← cf_trim, cf_ge hj]
    · by_cases h0 : trim s = []
      · left; rw [h0]; rfl
      · exact .inr (trim_last h0)
  rw [h]
  exact row_front hr

end Go.Proofs.Ytkhpoomajebgoaa
