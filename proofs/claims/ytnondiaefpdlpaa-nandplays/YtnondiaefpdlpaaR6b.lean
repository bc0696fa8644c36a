/-
  ramekinref6's Flip.
-/
import Derived.Test.YtnondiaefpdlpaaMb
namespace Go.Proofs.Ytnondiaefpdlpaa
open Go.RowKit Go.Shelf

set_option maxRecDepth 100000 in
set_option maxHeartbeats 8000000 in
theorem rflip_any (v vl : Value) (g gl : Nat) (s : List Nat) (zs : List Int) (w : World) (hA : Arg w v g s) (hZ : ZArg w vl gl zs) (hs : s.length ≤ 1000) :
    Calls Try.prog 64 #[v, vl] w fun e w' => ∃ v', e = .returned v' ∧ Fr w.heap.size w' v' (flipZ s zs) ∧ Below w.heap.size w w' := by
  obtain ⟨⟨ao, c, rfl, hc1, hc2, hnil, hr⟩, hbs⟩ := hA
  obtain ⟨⟨bo, cl, rfl, hd1, hd2, hnil2, hr2⟩, hbd⟩ := hZ
  have HR := hide hr
  have HNIL : Hid (ao = none → s.length = 0 ∧ c = 0) := fun h => by have := hnil h; omega
  have HR2 := hide hr2
  have HBD := hide hbd
  obtain ⟨N, hN⟩ : ∃ N, s.length = N := ⟨_, rfl⟩
  obtain ⟨M, hM⟩ : ∃ M, zs.length = M := ⟨_, rfl⟩
  have HLS := hide hN
  have HLZ := hide hM
  rw [hN] at hc1 hs ⊢
  rw [hM] at hd1 ⊢
  rw [unhide HLS] at HNIL
  have hMm : (M : Int) ≤ 9223372036854775807 := by unfold maxLen at hd2; omega
  have HGL : Hid (zs ≠ [] → gl < w.heap.size) := fun h => by
    obtain ⟨o, _, hcc⟩ := irow_some' hr2 (List.length_pos_iff.2 h)
    exact block_lt_of_cell (hcc 0 (List.length_pos_iff.2 h))
  clear hr hr2 hnil hnil2 hN hM hbd
  obtain ⟨i0, hi0, hz0, hz1, hz2⟩ := info_parts infoE
  have HI := hide hi0
  have HO := hide (own_none w 5)
  have HK0 : Hid (Below w.heap.size w (w.alloc (.cells #[] 5))) := (Below.refl _ w).alloc (Nat.le_refl _) _
  clear hi0
  go_enter Try.func64, Try.ntmps64
  go_wp2_with (at_builtin; refine wpList_append_row _ rfl _ _ 38 rfl w.heap.size 5 i0 Try.underlying38 (unhide HI) hz0 hz1 hz2 (.slice (some ⟨w.heap.size, 0, none⟩) 0 0) 0 [] rfl (unhide HO) ao g N c (ints s) rfl (by rw [ints_len]; exact unhide HLS) ((unhide HR).below (unhide HK0)) (unhide HNIL) (by omega) (by simp) ?_)
  intro v1 w1 ho hg _
  have hF := (owns_fr (s := s) ho).2
  have hk1 := below_grown (unhide HK0) hg (by simp) (fun k hk => by have e2 : w.heap.size = k := Option.some.inj hk; omega)
  obtain ⟨to, tc, hv1⟩ := hF.shape
  subst hv1
  have HF := hide hF
  have HK1 := hide hk1
  rw [unhide HLS] at HF ⊢
  clear hF hk1 HO HK0 ho hg HI
  go_wp2_with fail
  go_loopw [6] (fun p wr => ∃ (i : Nat), p = .int .i64 i ∧ i ≤ M ∧ Fr w.heap.size wr (.slice to N tc) (flipZ s (zs.take i)) ∧ Below w.heap.size w wr) (fun p _ => M - (intOf p).toNat)
  case atStart => exact ⟨0, rfl, by omega, unhide HF, unhide HK1⟩
  case round =>
    obtain ⟨i, rfl, hi, hFr, hK⟩ := hrel
    have HK := hide hK
    have HFR := hide hFr
    clear hK hFr
    by_cases hlt : i < M
    · have hi1 : (i : Int) < (M : Int) := by omega
      obtain ⟨ol, rfl, hcl⟩ := irow_some' ((unhide HR2).below (unhide HK)) (by rw [unhide HLZ]; omega)
      have hc := hcl i (by rw [unhide HLZ]; exact hlt)
      have hzb := unhide HBD _ (getD_mem (zs := zs) (i := i) (by rw [unhide HLZ]; exact hlt))
      have HFT := hide (flipZ_take (s := s) (zs := zs) (i := i) (by rw [unhide HLZ]; exact hlt))
      obtain ⟨z, hz⟩ : ∃ z, zs.getD i 0 = z := ⟨_, rfl⟩
      rw [hz] at hc hzb HFT
      clear hz hcl
      obtain ⟨t, ht⟩ : ∃ t, flipZ s (zs.take i) = t := ⟨_, rfl⟩
      have HTL : Hid (t.length = N) := by show _ = _; rw [← ht, flipZ_len]; exact unhide HLS
      have htb : Bs t := by rw [← ht]; exact flipZ_bs hbs _
      rw [ht] at HFR HFT
      clear ht
      by_cases hneg : z < 0
      · have hz1 : decide (0 ≤ z) = false := by simp; omega
        rw [flZ_neg hneg] at HFT
        go_wp2_with fail
        go_roundw
        case rel => exact ⟨i + 1, by go_num, by omega, by rw [unhide HFT]; exact unhide HFR, unhide HK⟩
        case measure => simp [intOf]; omega
      · obtain ⟨k, rfl⟩ := Int.eq_ofNat_of_zero_le (show 0 ≤ z by omega)
        obtain ⟨j, hj⟩ : ∃ j, k / 8 = j := ⟨_, rfl⟩
        obtain ⟨m, hm⟩ : ∃ m, k % 8 = m := ⟨_, rfl⟩
        have q0 : (k : Int) / 8 = (j : Int) := by omega
        have q1 : (k : Int).tdiv 8 = (j : Int) := by rw [Int.tdiv_eq_ediv_of_nonneg (by omega)]; omega
        have hjb : (j : Int) ≤ 9223372036854775807 := by omega
        by_cases hin : j < N
        · have hin1 : (j : Int) < (N : Int) := by omega
          have hm8 : m < 8 := by omega
          have q2 : (k : Int).tmod 8 = (m : Int) := by rw [Int.tmod_eq_emod_of_nonneg (by omega)]; omega
          have q2' : (k : Int) % 8 = (m : Int) := by omega
          have hpm : 2 ^ m < 256 := by have := pow_lt8 k; rw [hm] at this; exact this
          obtain ⟨p, hp⟩ : ∃ p, 2 ^ m = p := ⟨_, rfl⟩
          rw [hp] at hpm
          have q4 : IntKind.u8.wrap ((2 : Int) ^ m) = (p : Int) := by rw [show (2 : Int) ^ m = ((2 ^ m : Nat) : Int) from by simp, hp]; exact wraps_u8 _ (by omega) (by omega)
          have HFL : Hid (flZ t (k : Int) = t.set j (cf t j ^^^ p)) := by show _ = _; rw [flZ_yes (by rw [hj, unhide HTL]; exact hin), hj, hm, hp]
          have hxor := bits_xor_u8 (htb j) hpm
          rw [unhide HFL] at HFT
          obtain ⟨q, cq, he, h1, h2, hB, h3⟩ := (unhide HFR).blk (by intro h; have := unhide HTL; rw [h] at this; simp at this; omega)
          injection he with e1 e2 e3
          subst e1
          subst e3
          have HB := hide hB
          have hTC : N ≤ tc := by rw [← unhide HTL]; exact h1
          have q1' : IntKind.i64.wrap (j : Int) = (j : Int) := by rw [IntWalk.i64_in _ ⟨by omega, by omega⟩]
          have q3 : IntKind.u64.wrap (m : Int) = (m : Int) := IntWalk.u64_in _ ⟨by omega, by omega⟩
          have hgl := block_lt_of_cell hc
          dsimp only at hgl
          have hglq : gl ≠ q := by have := (unhide HGL) (by intro h; have := unhide HLZ; rw [h] at this; simp at this; omega); omega
          clear hj hm hp e2 hB h1 hneg HFL
          go_wp2_with fail
          have HCW := hide hc
          clear hc
          refine wp_region_noPanic ?_
          refine wp_region_held_drew (S := fun W => Kp [q] wr W) (by kernel_rfl) ((Kp.refl _ _).drew) (fun hHeld => ?_)
          have HH := hide hHeld
          clear hHeld
          refine takeL (i := 0) (v := ?_) rfl (by kernel_rfl) (by kernel_rfl) (by kernel_rfl) (fun _ _ _ h => h) (Or.inl ⟨by rfl, ?_⟩) (unhide HH) ?_
          rotate_left 1
          · intro W hSW; go_simp; all_goals (with_reducible rfl)
          (try simp only [Act.put, List.setIfInBounds_toArray, List.set_cons_zero, List.set_cons_succ])
          refine takeL (i := 1) (v := ?_) rfl (by kernel_rfl) (by kernel_rfl) (by kernel_rfl) (fun _ _ _ h => h) (Or.inl ⟨by rfl, ?_⟩) (unhide HH) ?_
          rotate_left 1
          · intro W hSW; go_simp; all_goals (with_reducible rfl)
          (try simp only [Act.put, List.setIfInBounds_toArray, List.set_cons_zero, List.set_cons_succ])
          refine takeL (i := 2) (v := ?_) rfl (by kernel_rfl) (by kernel_rfl) (by kernel_rfl) (fun _ _ _ h => h) (Or.inl ⟨by rfl, ?_⟩) (unhide HH) ?_
          rotate_left 1
          · intro W hSW; go_simp; all_goals (with_reducible rfl)
          (try simp only [Act.put, List.setIfInBounds_toArray, List.set_cons_zero, List.set_cons_succ])
          refine takeL (i := 3) (v := ?_) rfl (by kernel_rfl) (by kernel_rfl) (by kernel_rfl) (fun _ _ _ h => h) (Or.inl ⟨by rfl, ?_⟩) (unhide HH) ?_
          rotate_left 1
          · intro W hSW; go_simp; all_goals (with_reducible rfl)
          (try simp only [Act.put, List.setIfInBounds_toArray, List.set_cons_zero, List.set_cons_succ])
          refine takeL (i := 4) (v := ?_) rfl (by kernel_rfl) (by kernel_rfl) (by kernel_rfl) (fun _ _ _ h => h) (Or.inl ⟨by rfl, ?_⟩) (unhide HH) ?_
          rotate_left 1
          · intro W1 hSW; have hc := hSW.cell (unhide HCW) (by simp; omega); clear hSW; go_simp; all_goals (with_reducible rfl)
          (try simp only [Act.put, List.setIfInBounds_toArray, List.set_cons_zero, List.set_cons_succ])
          refine takeL (i := 5) (v := ?_) rfl (by kernel_rfl) (by kernel_rfl) (by kernel_rfl) (fun _ _ _ h => h) (Or.inl ⟨by rfl, ?_⟩) (unhide HH) ?_
          rotate_left 1
          · intro W hSW; go_simp; all_goals (with_reducible rfl)
          (try simp only [Act.put, List.setIfInBounds_toArray, List.set_cons_zero, List.set_cons_succ])
          refine takeL (i := 6) (v := ?_) rfl (by kernel_rfl) (by kernel_rfl) (by kernel_rfl) (fun _ _ _ h => h) (Or.inl ⟨by rfl, ?_⟩) (unhide HH) ?_
          rotate_left 1
          · intro W hSW; go_simp; all_goals (with_reducible rfl)
          (try simp only [Act.put, List.setIfInBounds_toArray, List.set_cons_zero, List.set_cons_succ])
          refine takeL (i := 7) (v := ?_) rfl (by kernel_rfl) (by kernel_rfl) (by kernel_rfl) (fun _ _ _ h => h) (Or.inl ⟨by rfl, ?_⟩) (unhide HH) ?_
          rotate_left 1
          · intro W hSW; go_simp; all_goals (with_reducible rfl)
          (try simp only [Act.put, List.setIfInBounds_toArray, List.set_cons_zero, List.set_cons_succ])
          refine takeL (i := 8) (v := ?_) rfl (by kernel_rfl) (by kernel_rfl) (by kernel_rfl) (fun _ _ _ h => h) (Or.inl ⟨by rfl, ?_⟩) (unhide HH) ?_
          rotate_left 1
          · intro W hSW; go_simp; all_goals (with_reducible rfl)
          (try simp only [Act.put, List.setIfInBounds_toArray, List.set_cons_zero, List.set_cons_succ])
          refine takeL (i := 9) (v := ?_) rfl (by kernel_rfl) (by kernel_rfl) (by kernel_rfl) (fun _ _ _ h => h) (Or.inl ⟨by rfl, ?_⟩) (unhide HH) ?_
          rotate_left 1
          · intro W hSW; go_simp; all_goals (with_reducible rfl)
          (try simp only [Act.put, List.setIfInBounds_toArray, List.set_cons_zero, List.set_cons_succ])
          refine takeL (i := 10) (v := ?_) rfl (by kernel_rfl) (by kernel_rfl) (by kernel_rfl) (fun _ _ _ h => h) (Or.inl ⟨by rfl, ?_⟩) (unhide HH) ?_
          rotate_left 1
          · intro W1 hSW; have hc := hSW.cell (unhide HCW) (by simp; omega); clear hSW; go_simp; all_goals (with_reducible rfl)
          (try simp only [Act.put, List.setIfInBounds_toArray, List.set_cons_zero, List.set_cons_succ])
          refine takeL (i := 11) (v := ?_) rfl (by kernel_rfl) (by kernel_rfl) (by kernel_rfl) (fun _ _ _ h => h) (Or.inl ⟨by rfl, ?_⟩) (unhide HH) ?_
          rotate_left 1
          · intro W hSW; go_simp; all_goals (with_reducible rfl)
          (try simp only [Act.put, List.setIfInBounds_toArray, List.set_cons_zero, List.set_cons_succ])
          refine takeL (i := 12) (v := ?_) rfl (by kernel_rfl) (by kernel_rfl) (by kernel_rfl) (fun _ _ _ h => h) (Or.inl ⟨by rfl, ?_⟩) (unhide HH) ?_
          rotate_left 1
          · intro W hSW; go_simp; all_goals (with_reducible rfl)
          (try simp only [Act.put, List.setIfInBounds_toArray, List.set_cons_zero, List.set_cons_succ])
          refine takeL (i := 14) (v := ?_) rfl (by kernel_rfl) (by kernel_rfl) (by kernel_rfl) (fun _ _ _ h => h) (Or.inl ⟨by rfl, ?_⟩) (unhide HH) ?_
          rotate_left 1
          · intro W hSW; go_simp; all_goals (with_reducible rfl)
          (try simp only [Act.put, List.setIfInBounds_toArray, List.set_cons_zero, List.set_cons_succ])
          refine takeL (i := 15) (v := ?_) rfl (by kernel_rfl) (by kernel_rfl) (by kernel_rfl) (fun _ _ _ h => h) (Or.inl ⟨by rfl, ?_⟩) (unhide HH) ?_
          rotate_left 1
          · intro W hSW; go_simp; all_goals (with_reducible rfl)
          (try simp only [Act.put, List.setIfInBounds_toArray, List.set_cons_zero, List.set_cons_succ])
          refine takeL (i := 16) (v := ?_) rfl (by kernel_rfl) (by kernel_rfl) (by kernel_rfl) (fun _ _ _ h => h) (Or.inl ⟨by rfl, ?_⟩) (unhide HH) ?_
          rotate_left 1
          · intro W hSW; go_simp; all_goals (with_reducible rfl)
          (try simp only [Act.put, List.setIfInBounds_toArray, List.set_cons_zero, List.set_cons_succ])
          refine takeL (i := 17) (v := ?_) rfl (by kernel_rfl) (by kernel_rfl) (by kernel_rfl) (fun _ _ _ h => h) (Or.inl ⟨by rfl, ?_⟩) (unhide HH) ?_
          rotate_left 1
          · intro W1 hSW; have hc := hSW.cell (unhide HCW) (by simp; omega); clear hSW; go_simp; all_goals (with_reducible rfl)
          (try simp only [Act.put, List.setIfInBounds_toArray, List.set_cons_zero, List.set_cons_succ])
          refine takeL (i := 18) (v := ?_) rfl (by kernel_rfl) (by kernel_rfl) (by kernel_rfl) (fun _ _ _ h => h) (Or.inl ⟨by rfl, ?_⟩) (unhide HH) ?_
          rotate_left 1
          · intro W hSW; go_simp; all_goals (with_reducible rfl)
          (try simp only [Act.put, List.setIfInBounds_toArray, List.set_cons_zero, List.set_cons_succ])
          refine takeL (i := 19) (v := ?_) rfl (by kernel_rfl) (by kernel_rfl) (by kernel_rfl) (fun _ _ _ h => h) (Or.inl ⟨by rfl, ?_⟩) (unhide HH) ?_
          rotate_left 1
          · intro W hSW; go_simp; all_goals (with_reducible rfl)
          (try simp only [Act.put, List.setIfInBounds_toArray, List.set_cons_zero, List.set_cons_succ])
          refine takeL (i := 20) (v := ?_) rfl (by kernel_rfl) (by kernel_rfl) (by kernel_rfl) (fun _ _ _ h => h) (Or.inl ⟨by rfl, ?_⟩) (unhide HH) ?_
          rotate_left 1
          · intro W hSW; go_simp; all_goals (with_reducible rfl)
          (try simp only [Act.put, List.setIfInBounds_toArray, List.set_cons_zero, List.set_cons_succ])
          refine wpAnyH_ready (rs := [13]) (by kernel_rfl) (by simp) ?_
          refine consL rfl (fun K hK => ?_) AllReadyH.nil
          have hc4 := ((unhide HB).of (w' := wr.drew) rfl).cell (j := j) (by rw [unhide HTL]; exact hin)
          go_simp
          refine hK.out _ _ (unhide HH) (fun hHeld => ?_)
          clear hK K HH
          have HH := hide hHeld
          clear hHeld
          (try simp only [Act.put, List.setIfInBounds_toArray, List.set_cons_zero, List.set_cons_succ])
          clear hc4
          refine takeL (i := 21) (v := ?_) rfl (by kernel_rfl) (by kernel_rfl) (by kernel_rfl) (fun _ _ _ h => h) (Or.inl ⟨by rfl, ?_⟩) (unhide HH) ?_
          rotate_left 1
          · intro W hSW; go_simp; all_goals (with_reducible rfl)
          (try simp only [Act.put, List.setIfInBounds_toArray, List.set_cons_zero, List.set_cons_succ])
          refine takeL (i := 22) (v := ?_) rfl (by kernel_rfl) (by kernel_rfl) (by kernel_rfl) (fun _ _ _ h => h) (Or.inl ⟨by rfl, ?_⟩) (unhide HH) ?_
          rotate_left 1
          · intro W hSW; go_simp; all_goals (with_reducible rfl)
          (try simp only [Act.put, List.setIfInBounds_toArray, List.set_cons_zero, List.set_cons_succ])
          refine wpAnyH_ready (rs := [23]) (by kernel_rfl) (by simp) ?_
          refine consL rfl (fun K hK => ?_) AllReadyH.nil
          have hc4 := ((unhide HB).of (w' := wr.drew) rfl).cell (j := j) (by rw [unhide HTL]; exact hin)
          have hf4 := ((unhide HB).of (w' := wr.drew) rfl).free (j := j)
          have HH2 := HH
          go_simp
          refine hK.out _ _ ((unhide HH2).setCell ⟨q, j, none⟩ _ (.inl (by simp))) (fun hHeld => ?_)
          clear hHeld hK K hc4 hf4
          (try simp only [Act.put, List.setIfInBounds_toArray, List.set_cons_zero, List.set_cons_succ])
          refine wpAnyH_done (by kernel_rfl) ?_ _
          refine NoPanic.normal ?_
          go_wp2_with fail
          go_roundw
          case rel =>
            refine ⟨i + 1, by go_num, by omega, ?_, (((unhide HK).drew).setCell (p := ⟨q, j, none⟩) h3 _)⟩
            rw [unhide HFT]
            refine .inr ⟨q, tc, by rw [List.length_set, unhide HTL], by rw [List.length_set, unhide HTL]; omega, h2, ?_, h3⟩
            exact ((unhide HB).of (w' := wr.drew) rfl).set j _ (by rw [unhide HTL]; exact hin)
          case measure => simp [intOf]; omega
        · have hin1 : (N : Int) ≤ (j : Int) := by omega
          rw [flZ_far (by rw [hj, unhide HTL]; exact hin)] at HFT
          clear hj hm hneg
          go_wp2_with fail
          go_roundw
          case rel => exact ⟨i + 1, by go_num, by omega, by rw [unhide HFT]; exact unhide HFR, unhide HK⟩
          case measure => simp [intOf]; omega
    · have hi2 : i = M := by omega
      subst hi2
      have HFR' : Hid (Fr w.heap.size wr (.slice to N tc) (flipZ s zs)) := by have h := unhide HFR; rwa [← unhide HLZ, List.take_length] at h
      go_wp2
      go_ret
      exact ⟨_, rfl, unhide HFR', unhide HK⟩

end Go.Proofs.Ytnondiaefpdlpaa
