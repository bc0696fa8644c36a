/-
  ramekinref6's Mix.
-/
import Derived.Test.YtnondiaefpdlpaaB6h
namespace Go.Proofs.Ytnondiaefpdlpaa
open Go.RowKit Go.Shelf

set_option maxRecDepth 100000 in
set_option maxHeartbeats 8000000 in
theorem rmix_any (u v m : Value) (ga gb gm : Nat) (a b mask : List Nat) (w : World) (hA : Arg w u ga a) (hB : Arg w v gb b) (hM : Arg w m gm mask) (hla : a.length = b.length → a.length ≤ 1000) :
    Calls Try.prog 28 #[u, v, m] w fun e w' => ∃ r, e = .returned r ∧ Fr w.heap.size w' r (mixL a b mask) ∧ Below w.heap.size w w' := by
  obtain ⟨⟨ao, ca, rfl, hc1, hc2, hnila, hra⟩, hba⟩ := hA
  obtain ⟨⟨bo, cb, rfl, hd1, hd2, hnilb, hrb⟩, hbb⟩ := hB
  obtain ⟨⟨mo, cm, rfl, he1, he2, hnilm, hrm⟩, hbm⟩ := hM
  have HRA := hide hra
  have HRB := hide hrb
  have HRM := hide hrm
  have HNIL : Hid (ao = none → a.length = 0 ∧ ca = 0) := fun h => by have := hnila h; omega
  clear hra hrb hrm hnila hnilb hnilm
  by_cases hl : a.length = b.length
  · have hap : mixL a b mask = mixF a b mask := if_pos hl
    rw [hap]
    clear hap
    obtain ⟨N, hN⟩ : ∃ N, a.length = N := ⟨_, rfl⟩
    have hN2 : b.length = N := by rw [← hl]; exact hN
    obtain ⟨K, hK⟩ : ∃ K, mask.length = K := ⟨_, rfl⟩
    rw [hN] at hc1 hla HNIL ⊢
    rw [hN2] at hd1 ⊢
    rw [hK] at he1 ⊢
    have hN3 := hla hN2.symm
    have HL1 := hide hN
    have HL2 := hide hN2
    have HLK := hide hK
    have hKm : (K : Int) ≤ 9223372036854775807 := by unfold maxLen at he2; omega
    clear hl hN hN2 hla hK
    obtain ⟨i0, hi0, hz0, hz1, hz2⟩ := info_parts infoE
    have HI := hide hi0
    have HO := hide (own_none w 5)
    have HK0 : Hid (Below w.heap.size w (w.alloc (.cells #[] 5))) := (Below.refl _ w).alloc (Nat.le_refl _) _
    clear hi0
    go_enter Try.func28, Try.ntmps28
    go_wp2_with (at_builtin; refine wpList_append_row _ rfl _ _ 38 rfl w.heap.size 5 i0 Try.underlying38 (unhide HI) hz0 hz1 hz2 (.slice (some ⟨w.heap.size, 0, none⟩) 0 0) 0 [] rfl (unhide HO) ao ga N ca (ints a) rfl (by rw [ints_len]; exact unhide HL1) ((unhide HRA).below (unhide HK0)) (unhide HNIL) (by omega) (by simp) ?_)
    intro v1 w1 ho hg _
    have hF := (owns_fr (s := a) ho).2
    have hk1 := below_grown (unhide HK0) hg (by simp) (fun k hk => by have e2 : w.heap.size = k := Option.some.inj hk; omega)
    obtain ⟨to, tc, hv1⟩ := hF.shape
    subst hv1
    have HF := hide hF
    have HK1 := hide hk1
    rw [unhide HL1] at HF ⊢
    clear hF hk1 HO HK0 ho hg HI
    go_wp2_with fail
    go_loopw [8] (fun p wr => ∃ (i : Nat), p = .int .i64 i ∧ i ≤ N ∧ (i ≠ 0 → K ≠ 0) ∧ Fr w.heap.size wr (.slice to N tc) (mixP a b mask (List.range i)) ∧ Below w.heap.size w wr) (fun p _ => N - (intOf p).toNat)
    case atStart => exact ⟨0, rfl, by omega, by simp, unhide HF, unhide HK1⟩
    case round =>
      obtain ⟨i, rfl, hi, hiK, hFr, hK⟩ := hrel
      have HK := hide hK
      have HFR := hide hFr
      clear hK hFr
      by_cases hK0 : K = 0
      · have hi0 : i = 0 := by
          by_cases h : i = 0
          · exact h
          · exact absurd hK0 (hiK h)
        subst hi0
        subst hK0
        have hm : mask = [] := List.eq_nil_of_length_eq_zero (unhide HLK)
        have HM : Hid (mixP a b mask (List.range 0) = mixF a b mask) := by show _ = _; rw [mixF, if_pos hm]; rfl
        clear hm
        by_cases hN0 : N = 0
        · subst hN0
          go_wp2
          go_ret
          exact ⟨_, rfl, by rw [← unhide HM]; exact unhide HFR, unhide HK⟩
        · have hn1 : (0 : Int) < (N : Int) := by omega
          go_wp2
          go_ret
          exact ⟨_, rfl, by rw [← unhide HM]; exact unhide HFR, unhide HK⟩
      · have hKp : 0 < K := by omega
        have hKp1 : (0 : Int) < (K : Int) := by omega
        have hm : mask ≠ [] := fun h => by have := unhide HLK; rw [h] at this; simp at this; omega
        by_cases hlt : i < N
        · have hi1 : (i : Int) < (N : Int) := by omega
          obtain ⟨r, hr⟩ : ∃ r, i % K = r := ⟨_, rfl⟩
          have hrM : r < K := by rw [← hr]; exact Nat.mod_lt _ hKp
          have hrM1 : (r : Int) < (K : Int) := by omega
          have q1 : (i : Int) % (K : Int) = (r : Int) := by rw [← hr]; simp
          have q2 : (i : Int).tmod (K : Int) = (r : Int) := by rw [Int.tmod_eq_emod_of_nonneg (by omega), q1]
          have hKne : ((K : Int) == 0) = false := by rw [beq_eq_false_iff_ne]; omega
          have HE : Hid (mAt mask i = cf mask r) := by show _ = _; rw [mAt, unhide HLK, hr]
          obtain ⟨om, hom⟩ := row_some (unhide HRM) (by rw [unhide HLK]; omega)
          subst hom
          have hcm := row_cell (Row.below (unhide HK) (unhide HRM)) (j := r) (by rw [unhide HLK]; exact hrM)
          clear hr
          obtain ⟨oa, hoa⟩ := row_some (unhide HRA) (by rw [unhide HL1]; omega)
          obtain ⟨ob, hob⟩ := row_some (unhide HRB) (by rw [unhide HL2]; omega)
          subst hoa
          subst hob
          have HCA := hide (row_cell (Row.below (unhide HK) (unhide HRA)) (j := i) (by rw [unhide HL1]; exact hlt))
          have HCB := hide (row_cell (Row.below (unhide HK) (unhide HRB)) (j := i) (by rw [unhide HL2]; exact hlt))
          have hga := (unhide HRA).block_lt (by intro h; have := unhide HL1; rw [h] at this; simp at this; omega)
          have hgb := (unhide HRB).block_lt (by intro h; have := unhide HL2; rw [h] at this; simp at this; omega)
          have hml : cf mask r < 256 := hbm _
          obtain ⟨q5, q6, q7⟩ := mx_u8 (hba i) (hbb i) hml
          obtain ⟨t, ht⟩ : ∃ t, mixP a b mask (List.range i) = t := ⟨_, rfl⟩
          have HTL : Hid (t.length = N) := by show _ = _; rw [← ht, mixP_len]; exact unhide HL1
          have HT : Hid (mixP a b mask (List.range (i + 1)) = t.set i (mx (cf mask r) (cf a i) (cf b i))) := by show _ = _; rw [List.range_succ, mixP_snoc, ht, unhide HE]
          rw [ht] at HFR
          clear ht
          obtain ⟨q, cq, he, h1, h2, hB, h3⟩ := (unhide HFR).blk (by intro h; have := unhide HTL; rw [h] at this; simp at this; omega)
          injection he with e1 e2 e3
          subst e1
          subst e3
          have HB := hide hB
          have hTC : N ≤ tc := by rw [← unhide HTL]; exact h1
          clear e2 hB h1 hm
          go_wp2_with fail
          clear hcm
          refine wp_region_noPanic ?_
          refine wp_region_held_drew (S := fun W => Kp [q] wr W) (by kernel_rfl) ((Kp.refl _ _).drew) (fun hHeld => ?_)
          have HH := hide hHeld
          clear hHeld
          refine takeL (i := 0) (v := ?_) rfl (by kernel_rfl) (by kernel_rfl) (by kernel_rfl) (fun _ _ _ h => h) (Or.inl ⟨by rfl, ?_⟩) (unhide HH) ?_
          rotate_left 1
          · intro W hSW; go_simp; all_goals (with_reducible rfl)
          (try simp only [Act.put, List.setIfInBounds_toArray, List.set_cons_zero, List.set_cons_succ])
          refine takeL (i := 1) (v := ?_) rfl (by kernel_rfl) (by kernel_rfl) (by kernel_rfl) (fun _ _ _ h => h) (Or.inl ⟨by rfl, ?_⟩) (unhide HH) ?_
          rotate_left 1
          · intro W hSW; go_simp; all_goals (with_reducible rfl)
          (try simp only [Act.put, List.setIfInBounds_toArray, List.set_cons_zero, List.set_cons_succ])
          refine takeL (i := 2) (v := ?_) rfl (by kernel_rfl) (by kernel_rfl) (by kernel_rfl) (fun _ _ _ h => h) (Or.inl ⟨by rfl, ?_⟩) (unhide HH) ?_
          rotate_left 1
          · intro W hSW; go_simp; all_goals (with_reducible rfl)
          (try simp only [Act.put, List.setIfInBounds_toArray, List.set_cons_zero, List.set_cons_succ])
          refine takeL (i := 3) (v := ?_) rfl (by kernel_rfl) (by kernel_rfl) (by kernel_rfl) (fun _ _ _ h => h) (Or.inl ⟨by rfl, ?_⟩) (unhide HH) ?_
          rotate_left 1
          · intro W hSW; go_simp; all_goals (with_reducible rfl)
          (try simp only [Act.put, List.setIfInBounds_toArray, List.set_cons_zero, List.set_cons_succ])
          refine takeL (i := 4) (v := ?_) rfl (by kernel_rfl) (by kernel_rfl) (by kernel_rfl) (fun _ _ _ h => h) (Or.inl ⟨by rfl, ?_⟩) (unhide HH) ?_
          rotate_left 1
          · intro W hSW; go_simp; all_goals (with_reducible rfl)
          (try simp only [Act.put, List.setIfInBounds_toArray, List.set_cons_zero, List.set_cons_succ])
          refine takeL (i := 5) (v := ?_) rfl (by kernel_rfl) (by kernel_rfl) (by kernel_rfl) (fun _ _ _ h => h) (Or.inl ⟨by rfl, ?_⟩) (unhide HH) ?_
          rotate_left 1
          · intro W1 hSW; have hc := hSW.cell (unhide HCA) (by simp; omega); clear hSW; go_simp; all_goals (with_reducible rfl)
          (try simp only [Act.put, List.setIfInBounds_toArray, List.set_cons_zero, List.set_cons_succ])
          refine takeL (i := 6) (v := ?_) rfl (by kernel_rfl) (by kernel_rfl) (by kernel_rfl) (fun _ _ _ h => h) (Or.inl ⟨by rfl, ?_⟩) (unhide HH) ?_
          rotate_left 1
          · intro W hSW; go_simp; all_goals (with_reducible rfl)
          (try simp only [Act.put, List.setIfInBounds_toArray, List.set_cons_zero, List.set_cons_succ])
          refine takeL (i := 7) (v := ?_) rfl (by kernel_rfl) (by kernel_rfl) (by kernel_rfl) (fun _ _ _ h => h) (Or.inl ⟨by rfl, ?_⟩) (unhide HH) ?_
          rotate_left 1
          · intro W hSW; go_simp; all_goals (with_reducible rfl)
          (try simp only [Act.put, List.setIfInBounds_toArray, List.set_cons_zero, List.set_cons_succ])
          refine takeL (i := 8) (v := ?_) rfl (by kernel_rfl) (by kernel_rfl) (by kernel_rfl) (fun _ _ _ h => h) (Or.inl ⟨by rfl, ?_⟩) (unhide HH) ?_
          rotate_left 1
          · intro W hSW; go_simp; all_goals (with_reducible rfl)
          (try simp only [Act.put, List.setIfInBounds_toArray, List.set_cons_zero, List.set_cons_succ])
          refine takeL (i := 9) (v := ?_) rfl (by kernel_rfl) (by kernel_rfl) (by kernel_rfl) (fun _ _ _ h => h) (Or.inl ⟨by rfl, ?_⟩) (unhide HH) ?_
          rotate_left 1
          · intro W hSW; go_simp; all_goals (with_reducible rfl)
          (try simp only [Act.put, List.setIfInBounds_toArray, List.set_cons_zero, List.set_cons_succ])
          refine takeL (i := 10) (v := ?_) rfl (by kernel_rfl) (by kernel_rfl) (by kernel_rfl) (fun _ _ _ h => h) (Or.inl ⟨by rfl, ?_⟩) (unhide HH) ?_
          rotate_left 1
          · intro W hSW; go_simp; all_goals (with_reducible rfl)
          (try simp only [Act.put, List.setIfInBounds_toArray, List.set_cons_zero, List.set_cons_succ])
          refine takeL (i := 11) (v := ?_) rfl (by kernel_rfl) (by kernel_rfl) (by kernel_rfl) (fun _ _ _ h => h) (Or.inl ⟨by rfl, ?_⟩) (unhide HH) ?_
          rotate_left 1
          · intro W1 hSW; have hc := hSW.cell (unhide HCB) (by simp; omega); clear hSW; go_simp; all_goals (with_reducible rfl)
          (try simp only [Act.put, List.setIfInBounds_toArray, List.set_cons_zero, List.set_cons_succ])
          refine takeL (i := 12) (v := ?_) rfl (by kernel_rfl) (by kernel_rfl) (by kernel_rfl) (fun _ _ _ h => h) (Or.inl ⟨by rfl, ?_⟩) (unhide HH) ?_
          rotate_left 1
          · intro W hSW; go_simp; all_goals (with_reducible rfl)
          (try simp only [Act.put, List.setIfInBounds_toArray, List.set_cons_zero, List.set_cons_succ])
          refine takeL (i := 13) (v := ?_) rfl (by kernel_rfl) (by kernel_rfl) (by kernel_rfl) (fun _ _ _ h => h) (Or.inl ⟨by rfl, ?_⟩) (unhide HH) ?_
          rotate_left 1
          · intro W hSW; go_simp; all_goals (with_reducible rfl)
          (try simp only [Act.put, List.setIfInBounds_toArray, List.set_cons_zero, List.set_cons_succ])
          refine takeL (i := 14) (v := ?_) rfl (by kernel_rfl) (by kernel_rfl) (by kernel_rfl) (fun _ _ _ h => h) (Or.inl ⟨by rfl, ?_⟩) (unhide HH) ?_
          rotate_left 1
          · intro W hSW; go_simp; all_goals (with_reducible rfl)
          (try simp only [Act.put, List.setIfInBounds_toArray, List.set_cons_zero, List.set_cons_succ])
          refine takeL (i := 15) (v := ?_) rfl (by kernel_rfl) (by kernel_rfl) (by kernel_rfl) (fun _ _ _ h => h) (Or.inl ⟨by rfl, ?_⟩) (unhide HH) ?_
          rotate_left 1
          · intro W hSW; go_simp; all_goals (with_reducible rfl)
          (try simp only [Act.put, List.setIfInBounds_toArray, List.set_cons_zero, List.set_cons_succ])
          refine wpAnyH_ready (rs := [16]) (by kernel_rfl) (by simp) ?_
          refine consL rfl (fun K hK => ?_) AllReadyH.nil
          have hc4 := ((unhide HB).of (w' := wr.drew) rfl).cell (j := i) (by rw [unhide HTL]; exact hlt)
          have hf4 := ((unhide HB).of (w' := wr.drew) rfl).free (j := i)
          have HH2 := HH
          go_simp
          refine hK.out _ _ ((unhide HH2).setCell ⟨q, i, none⟩ _ (.inl (by simp))) (fun hHeld => ?_)
          clear hHeld hK K hc4 hf4
          (try simp only [Act.put, List.setIfInBounds_toArray, List.set_cons_zero, List.set_cons_succ])
          refine wpAnyH_done (by kernel_rfl) ?_ _
          refine NoPanic.normal ?_
          go_wp2_with fail
          go_roundw
          case rel =>
            refine ⟨i + 1, by go_num, by omega, fun _ => hK0, ?_, (((unhide HK).setCell (p := ⟨q, i, none⟩) h3 _)).drew⟩
            rw [unhide HT]
            refine .inr ⟨q, tc, by rw [List.length_set, unhide HTL], by rw [List.length_set, unhide HTL]; omega, h2, ?_, h3⟩
            exact ((unhide HB).set i _ (by rw [unhide HTL]; exact hlt)).of rfl
          case measure => simp [intOf]; omega
        · have hi2 : i = N := by omega
          subst hi2
          have HM : Hid (mixP a b mask (List.range i) = mixF a b mask) := by have := mixP_all (a := a) (b := b) hm; rwa [unhide HL1] at this
          go_wp2
          go_ret
          exact ⟨_, rfl, by rw [← unhide HM]; exact unhide HFR, unhide HK⟩
  · have hap : mixL a b mask = [] := if_neg hl
    rw [hap]
    have hne : (((a.length : Nat) : Int) != ((b.length : Nat) : Int)) = true := by rw [bne_iff_ne]; omega
    clear hap hl
    go_enter Try.func28, Try.ntmps28
    go_wp2_with fail
    go_ret
    exact ⟨_, rfl, .inl ⟨rfl, rfl⟩, Below.refl _ _⟩

end Go.Proofs.Ytnondiaefpdlpaa
