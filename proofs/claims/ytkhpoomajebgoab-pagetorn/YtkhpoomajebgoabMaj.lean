/-
  ramekinref6's Flip.
  ramekinref6's Mix.
  What the laws of bits want of bytes by themselves.
  What the laws of bits want of mixed bytes.
  The least of two or three numbers; fronts of slices; strings.
  The laws' own known.
  The laws' own Places.
  Package poly's small functions: numbers, line.trimmed, line.said, slices.Backward.
-/
import Derived.Test.YtkhpoomajebgoabMai
import Derived.Test.YtkhpoomajebgoabMah
import Derived.Test.YtkhpoomajebgoabMag
import Derived.Test.YtkhpoomajebgoabMaa
import Derived.Test.YtkhpoomajebgoabMab
import Derived.Test.YtkhpoomajebgoabMad
import Derived.Test.YtkhpoomajebgoabMaf
namespace Go.Proofs.Ytkhpoomajebgoab
open Go.RowKit Go.Shelf

end Go.Proofs.Ytkhpoomajebgoab

namespace Go.Proofs.Ytkhpoomajebgoab
open Go.RowKit Go.Shelf

set_option maxRecDepth 100000 in
set_option maxHeartbeats 8000000 in
theorem rmix_any (u v m : Value) (ga gb gm : Nat) (a b mask : List Nat) (w : World) (hA : Arg w u ga a) (hB : Arg w v gb b) (hM : Arg w m gm mask) (hla : a.length = b.length → a.length ≤ 1000) :
    Calls Try.prog 7 #[u, v, m] w fun e w' => ∃ r, e = .returned r ∧ Fr w.heap.size w' r (mixL a b mask) ∧ Below w.heap.size w w' := by
  obtain ⟨⟨ao, ca, rfl, hc1, hc2, hnila, hra⟩, hba⟩ := hA
  obtain ⟨⟨bo, cb, rfl, hd1, hd2, hnilb, hrb⟩, hbb⟩ := hB
  obtain ⟨⟨mo, cm, rfl, he1, he2, hnilm, hrm⟩, hbm⟩ := hM
  have HRA := hide hra
  have HRB := hide hrb
  have HRM := hide hrm
  have HNIL : Hid (ao = none → a.length = 0 ∧ ca = 0) := fun h => by have := hnila h; omega
  clear hra hrb hrm hnila hnilb hnilm
  by_cases hl : a.length = b.length
  · have hap : mixL a b mask = mixF a b mask := if_pos hl
    rw [hap]
    clear hap
    obtain ⟨N, hN⟩ : ∃ N, a.length = N := ⟨_, rfl⟩
    have hN2 : b.length = N := by rw [← hl]; exact hN
    obtain ⟨K, hK⟩ : ∃ K, mask.length = K := ⟨_, rfl⟩
    rw [hN] at hc1 hla HNIL ⊢
    rw [hN2] at hd1 ⊢
    rw [hK] at he1 ⊢
    have hN3 := hla hN2.symm
    have HL1 := hide hN
    have HL2 := hide hN2
    have HLK := hide hK
    have hKm : (K : Int) ≤ 9223372036854775807 := by unfold maxLen at he2; omega
    clear hl hN hN2 hla hK
    obtain ⟨i0, hi0, hz0, hz1, hz2⟩ := info_parts infoE
    have HI := hide hi0
    have HO := hide (own_none w 5)
    have HK0 : Hid (Below w.heap.size w (w.alloc (.cells #[] 5))) := (Below.refl _ w).alloc (Nat.le_refl _) _
    clear hi0
    go_enter Try.func7, Try.ntmps7
    go_wp2_with (at_builtin; refine wpList_append_row _ rfl _ _ 22 rfl w.heap.size 5 i0 Try.underlying22 (unhide HI) hz0 hz1 hz2 (.slice (some ⟨w.heap.size, 0, none⟩) 0 0) 0 [] rfl (unhide HO) ao ga N ca (ints a) rfl (by rw [ints_len]; exact unhide HL1) ((unhide HRA).below (unhide HK0)) (unhide HNIL) (by omega) (by simp) ?_)
    intro v1 w1 ho hg _
    have hF := (owns_fr (s := a) ho).2
    have hk1 := below_grown (unhide HK0) hg (by simp) (fun k hk => by have e2 : w.heap.size = k := Option.some.inj hk; omega)
    obtain ⟨to, tc, hv1⟩ := hF.shape
    subst hv1
    have HF := hide hF
    have HK1 := hide hk1
    rw [unhide HL1] at HF ⊢
    clear hF hk1 HO HK0 ho hg HI
    go_wp2_with fail
    go_loopw [8] (fun p wr => ∃ (i : Nat), p = .int .i64 i ∧ i ≤ N ∧ (i ≠ 0 → K ≠ 0) ∧ Fr w.heap.size wr (.slice to N tc) (mixP a b mask (List.range i)) ∧ Below w.heap.size w wr) (fun p _ => N - (intOf p).toNat)
    case atStart => exact ⟨0, rfl, by omega, by simp, unhide HF, unhide HK1⟩
    case round =>
      obtain ⟨i, rfl, hi, hiK, hFr, hK⟩ := hrel
      have HK := hide hK
      have HFR := hide hFr
      clear hK hFr
      by_cases hK0 : K = 0
      · have hi0 : i = 0 := by
          by_cases h : i = 0
          · exact h
          · exact absurd hK0 (hiK h)
        subst hi0
        subst hK0
        have hm : mask = [] := List.eq_nil_of_length_eq_zero (unhide HLK)
        have HM : Hid (mixP a b mask (List.range 0) = mixF a b mask) := by show _ = _; rw [mixF, if_pos hm]; rfl
        clear hm
        by_cases hN0 : N = 0
        · subst hN0
          go_wp2
          go_ret
          exact ⟨_, rfl, by rw [← unhide HM]; exact unhide HFR, unhide HK⟩
        · have hn1 : (0 : Int) < (N : Int) := by omega
          go_wp2
          go_ret
          exact ⟨_, rfl, by rw [← unhide HM]; exact unhide HFR, unhide HK⟩
      · have hKp : 0 < K := by omega
        have hKp1 : (0 : Int) < (K : Int) := by omega
        have hm : mask ≠ [] := fun h => by have := unhide HLK; rw [h] at this; simp at this; omega
        by_cases hlt : i < N
        · have hi1 : (i : Int) < (N : Int) := by omega
          obtain ⟨r, hr⟩ : ∃ r, i % K = r := ⟨_, rfl⟩
          have hrM : r < K := by rw [← hr]; exact Nat.mod_lt _ hKp
          have hrM1 : (r : Int) < (K : Int) := by omega
          have q1 : (i : Int) % (K : Int) = (r : Int) := by rw [← hr]; simp
          have q2 : (i : Int).tmod (K : Int) = (r : Int) := by rw [Int.tmod_eq_emod_of_nonneg (by omega), q1]
          have hKne : ((K : Int) == 0) = false := by rw [beq_eq_false_iff_ne]; omega
          have HE : Hid (mAt mask i = cf mask r) := by show _ = _; rw [mAt, unhide HLK, hr]
          obtain ⟨om, hom⟩ := row_some (unhide HRM) (by rw [unhide HLK]; omega)
          subst hom
          have hcm := row_cell (Row.below (unhide HK) (unhide HRM)) (j := r) (by rw [unhide HLK]; exact hrM)
          clear hr
          obtain ⟨oa, hoa⟩ := row_some (unhide HRA) (by rw [unhide HL1]; omega)
          obtain ⟨ob, hob⟩ := row_some (unhide HRB) (by rw [unhide HL2]; omega)
          subst hoa
          subst hob
          have HCA := hide (row_cell (Row.below (unhide HK) (unhide HRA)) (j := i) (by rw [unhide HL1]; exact hlt))
          have HCB := hide (row_cell (Row.below (unhide HK) (unhide HRB)) (j := i) (by rw [unhide HL2]; exact hlt))
          have hga := (unhide HRA).block_lt (by intro h; have := unhide HL1; rw [h] at this; simp at this; omega)
          have hgb := (unhide HRB).block_lt (by intro h; have := unhide HL2; rw [h] at this; simp at this; omega)
          have hml : cf mask r < 256 := hbm _
          obtain ⟨q5, q6, q7⟩ := mx_u8 (hba i) (hbb i) hml
          obtain ⟨t, ht⟩ : ∃ t, mixP a b mask (List.range i) = t := ⟨_, rfl⟩
          have HTL : Hid (t.length = N) := by show _ = _; rw [← ht, mixP_len]; exact unhide HL1
          have HT : Hid (mixP a b mask (List.range (i + 1)) = t.set i (mx (cf mask r) (cf a i) (cf b i))) := by show _ = _; rw [List.range_succ, mixP_snoc, ht, unhide HE]
          rw [ht] at HFR
          clear ht
          obtain ⟨q, cq, he, h1, h2, hB, h3⟩ := (unhide HFR).blk (by intro h; have := unhide HTL; rw [h] at this; simp at this; omega)
          injection he with e1 e2 e3
          subst e1
          subst e3
          have HB := hide hB
          have hTC : N ≤ tc := by rw [← unhide HTL]; exact h1
          clear e2 hB h1 hm
          go_wp2_with fail
          clear hcm
          refine wp_region_noPanic ?_
          refine wp_region_held_drew (S := fun W => Kp [q] wr W) (by kernel_rfl) ((Kp.refl _ _).drew) (fun hHeld => ?_)
          have HH := hide hHeld
          clear hHeld
          refine takeL (i := 0) (v := ?_) rfl (by kernel_rfl) (by kernel_rfl) (by kernel_rfl) (fun _ _ _ h => h) (Or.inl ⟨by rfl, ?_⟩) (unhide HH) ?_
          rotate_left 1
          · intro W hSW; go_simp; all_goals (with_reducible rfl)
          (try simp only [Act.put, List.setIfInBounds_toArray, List.set_cons_zero, List.set_cons_succ])
          refine takeL (i := 1) (v := ?_) rfl (by kernel_rfl) (by kernel_rfl) (by kernel_rfl) (fun _ _ _ h => h) (Or.inl ⟨by rfl, ?_⟩) (unhide HH) ?_
          rotate_left 1
          · intro W hSW; go_simp; all_goals (with_reducible rfl)
          (try simp only [Act.put, List.setIfInBounds_toArray, List.set_cons_zero, List.set_cons_succ])
          refine takeL (i := 2) (v := ?_) rfl (by kernel_rfl) (by kernel_rfl) (by kernel_rfl) (fun _ _ _ h => h) (Or.inl ⟨by rfl, ?_⟩) (unhide HH) ?_
          rotate_left 1
          · intro W hSW; go_simp; all_goals (with_reducible rfl)
          (try simp only [Act.put, List.setIfInBounds_toArray, List.set_cons_zero, List.set_cons_succ])
          refine takeL (i := 3) (v := ?_) rfl (by kernel_rfl) (by kernel_rfl) (by kernel_rfl) (fun _ _ _ h => h) (Or.inl ⟨by rfl, ?_⟩) (unhide HH) ?_
          rotate_left 1
          · intro W hSW; go_simp; all_goals (with_reducible rfl)
          (try simp only [Act.put, List.setIfInBounds_toArray, List.set_cons_zero, List.set_cons_succ])
          refine takeL (i := 4) (v := ?_) rfl (by kernel_rfl) (by kernel_rfl) (by kernel_rfl) (fun _ _ _ h => h) (Or.inl ⟨by rfl, ?_⟩) (unhide HH) ?_
          rotate_left 1
          · intro W hSW; go_simp; all_goals (with_reducible rfl)
          (try simp only [Act.put, List.setIfInBounds_toArray, List.set_cons_zero, List.set_cons_succ])
          refine takeL (i := 5) (v := ?_) rfl (by kernel_rfl) (by kernel_rfl) (by kernel_rfl) (fun _ _ _ h => h) (Or.inl ⟨by rfl, ?_⟩) (unhide HH) ?_
          rotate_left 1
          · intro W1 hSW; have hc := hSW.cell (unhide HCA) (by simp; omega); clear hSW; go_simp; all_goals (with_reducible rfl)
          (try simp only [Act.put, List.setIfInBounds_toArray, List.set_cons_zero, List.set_cons_succ])
          refine takeL (i := 6) (v := ?_) rfl (by kernel_rfl) (by kernel_rfl) (by kernel_rfl) (fun _ _ _ h => h) (Or.inl ⟨by rfl, ?_⟩) (unhide HH) ?_
          rotate_left 1
          · intro W hSW; go_simp; all_goals (with_reducible rfl)
          (try simp only [Act.put, List.setIfInBounds_toArray, List.set_cons_zero, List.set_cons_succ])
          refine takeL (i := 7) (v := ?_) rfl (by kernel_rfl) (by kernel_rfl) (by kernel_rfl) (fun _ _ _ h => h) (Or.inl ⟨by rfl, ?_⟩) (unhide HH) ?_
          rotate_left 1
          · intro W hSW; go_simp; all_goals (with_reducible rfl)
          (try simp only [Act.put, List.setIfInBounds_toArray, List.set_cons_zero, List.set_cons_succ])
          refine takeL (i := 8) (v := ?_) rfl (by kernel_rfl) (by kernel_rfl) (by kernel_rfl) (fun _ _ _ h => h) (Or.inl ⟨by rfl, ?_⟩) (unhide HH) ?_
          rotate_left 1
          · intro W hSW; go_simp; all_goals (with_reducible rfl)
          (try simp only [Act.put, List.setIfInBounds_toArray, List.set_cons_zero, List.set_cons_succ])
          refine takeL (i := 9) (v := ?_) rfl (by kernel_rfl) (by kernel_rfl) (by kernel_rfl) (fun _ _ _ h => h) (Or.inl ⟨by rfl, ?_⟩) (unhide HH) ?_
          rotate_left 1
          · intro W hSW; go_simp; all_goals (with_reducible rfl)
          (try simp only [Act.put, List.setIfInBounds_toArray, List.set_cons_zero, List.set_cons_succ])
          refine takeL (i := 10) (v := ?_) rfl (by kernel_rfl) (by kernel_rfl) (by kernel_rfl) (fun _ _ _ h => h) (Or.inl ⟨by rfl, ?_⟩) (unhide HH) ?_
          rotate_left 1
          · intro W hSW; go_simp; all_goals (with_reducible rfl)
          (try simp only [Act.put, List.setIfInBounds_toArray, List.set_cons_zero, List.set_cons_succ])
          refine takeL (i := 11) (v := ?_) rfl (by kernel_rfl) (by kernel_rfl) (by kernel_rfl) (fun _ _ _ h => h) (Or.inl ⟨by rfl, ?_⟩) (unhide HH) ?_
          rotate_left 1
          · intro W1 hSW; have hc := hSW.cell (unhide HCB) (by simp; omega); clear hSW; go_simp; all_goals (with_reducible rfl)
          (try simp only [Act.put, List.setIfInBounds_toArray, List.set_cons_zero, List.set_cons_succ])
          refine takeL (i := 12) (v := ?_) rfl (by kernel_rfl) (by kernel_rfl) (by kernel_rfl) (fun _ _ _ h => h) (Or.inl ⟨by rfl, ?_⟩) (unhide HH) ?_
          rotate_left 1
          · intro W hSW; go_simp; all_goals (with_reducible rfl)
          (try simp only [Act.put, List.setIfInBounds_toArray, List.set_cons_zero, List.set_cons_succ])
          refine takeL (i := 13) (v := ?_) rfl (by kernel_rfl) (by kernel_rfl) (by kernel_rfl) (fun _ _ _ h => h) (Or.inl ⟨by rfl, ?_⟩) (unhide HH) ?_
          rotate_left 1
          · intro W hSW; go_simp; all_goals (with_reducible rfl)
          (try simp only [Act.put, List.setIfInBounds_toArray, List.set_cons_zero, List.set_cons_succ])
          refine takeL (i := 14) (v := ?_) rfl (by kernel_rfl) (by kernel_rfl) (by kernel_rfl) (fun _ _ _ h => h) (Or.inl ⟨by rfl, ?_⟩) (unhide HH) ?_
          rotate_left 1
          · intro W hSW; go_simp; all_goals (with_reducible rfl)
          (try simp only [Act.put, List.setIfInBounds_toArray, List.set_cons_zero, List.set_cons_succ])
          refine takeL (i := 15) (v := ?_) rfl (by kernel_rfl) (by kernel_rfl) (by kernel_rfl) (fun _ _ _ h => h) (Or.inl ⟨by rfl, ?_⟩) (unhide HH) ?_
          rotate_left 1
          · intro W hSW; go_simp; all_goals (with_reducible rfl)
          (try simp only [Act.put, List.setIfInBounds_toArray, List.set_cons_zero, List.set_cons_succ])
          refine wpAnyH_ready (rs := [16]) (by kernel_rfl) (by simp) ?_
          refine consL rfl (fun K hK => ?_) AllReadyH.nil
          have hc4 := ((unhide HB).of (w' := wr.drew) rfl).cell (j := i) (by rw [unhide HTL]; exact hlt)
          have hf4 := ((unhide HB).of (w' := wr.drew) rfl).free (j := i)
          have HH2 := HH
          go_simp
          refine hK.out _ _ ((unhide HH2).setCell ⟨q, i, none⟩ _ (.inl (by simp))) (fun hHeld => ?_)
          clear hHeld hK K hc4 hf4
          (try simp only [Act.put, List.setIfInBounds_toArray, List.set_cons_zero, List.set_cons_succ])
          refine wpAnyH_done (by kernel_rfl) ?_ _
          refine NoPanic.normal ?_
          go_wp2_with fail
          go_roundw
          case rel =>
            refine ⟨i + 1, by go_num, by omega, fun _ => hK0, ?_, (((unhide HK).setCell (p := ⟨q, i, none⟩) h3 _)).drew⟩
            rw [unhide HT]
            refine .inr ⟨q, tc, by rw [List.length_set, unhide HTL], by rw [List.length_set, unhide HTL]; omega, h2, ?_, h3⟩
            exact ((unhide HB).set i _ (by rw [unhide HTL]; exact hlt)).of rfl
          case measure => simp [intOf]; omega
        · have hi2 : i = N := by omega
          subst hi2
          have HM : Hid (mixP a b mask (List.range i) = mixF a b mask) := by have := mixP_all (a := a) (b := b) hm; rwa [unhide HL1] at this
          go_wp2
          go_ret
          exact ⟨_, rfl, by rw [← unhide HM]; exact unhide HFR, unhide HK⟩
  · have hap : mixL a b mask = [] := if_neg hl
    rw [hap]
    have hne : (((a.length : Nat) : Int) != ((b.length : Nat) : Int)) = true := by rw [bne_iff_ne]; omega
    clear hap hl
    go_enter Try.func7, Try.ntmps7
    go_wp2_with fail
    go_ret
    exact ⟨_, rfl, .inl ⟨rfl, rfl⟩, Below.refl _ _⟩

end Go.Proofs.Ytkhpoomajebgoab

namespace Go.Proofs.Ytkhpoomajebgoab
open Go.RowKit Go.Shelf

theorem bt_pow (j k : Nat) : bt (2 ^ j) k = if k = j then 1 else 0 := by
  rw [bt_test, Nat.testBit_two_pow]
  by_cases h : j = k
  · simp [h]
  · rw [if_neg (fun e => h e.symm)]; simp [h]
theorem bfle (f : Nat → Nat) (k : Nat) : bf f k ≤ 1 := bt_le _ _

theorem bf_flip1 {s : List Nat} {j : Nat} (hj : j < 8 * s.length) (k : Nat) : bf (cf (flip1 s j)) k = bf (cf s) k ^^^ (if j = k then 1 else 0) := by
  unfold bf
  rw [flip1, cf_set _ _ _ _ (by omega)]
  by_cases h : k / 8 = j / 8
  · rw [if_pos h, bt_xor, bt_pow, h]
    congr 1
    by_cases h2 : k % 8 = j % 8
    · rw [if_pos h2, if_pos (by omega)]
    · rw [if_neg h2, if_neg (by omega)]
  · rw [if_neg h, if_neg (by omega), Nat.xor_zero]
theorem bf_flZ {s : List Nat} (z : Int) {k : Nat} (hk : k < 8 * s.length) : bf (cf (flZ s z)) k = bf (cf s) k ^^^ (if z = (k : Int) then 1 else 0) := by
  unfold flZ
  by_cases h : 0 ≤ z ∧ z < 8 * (s.length : Int)
  · rw [if_pos h, bf_flip1 (by omega)]
    congr 1
    by_cases e : z = (k : Int)
    · rw [if_pos e, if_pos (by omega)]
    · rw [if_neg e, if_neg (by omega)]
  · rw [if_neg h, if_neg (by omega), Nat.xor_zero]

theorem xor_bits {x c e : Nat} (hx : x ≤ 1) (he : e ≤ 1) : x ^^^ ((c + e) % 2) = (x ^^^ e) ^^^ (c % 2) := by
  have h1 : x = 0 ∨ x = 1 := by omega
  have h2 : e = 0 ∨ e = 1 := by omega
  have h3 : c % 2 = 0 ∨ c % 2 = 1 := by omega
  rcases h1 with rfl | rfl <;> rcases h2 with rfl | rfl <;> rcases h3 with h3 | h3 <;> rw [h3] <;> simp [Nat.add_mod, h3]

/-- Each bit is turned as often as its number stands there. -/
theorem bf_flipZ (zs : List Int) : ∀ (s : List Nat) {k : Nat}, k < 8 * s.length → bf (cf (flipZ s zs)) k = bf (cf s) k ^^^ (zs.count (k : Int) % 2) := by
  induction zs with
  | nil => intro s k hk; simp [flipZ]
  | cons z zs ih =>
    intro s k hk
    rw [flipZ, List.foldl_cons, ← flipZ, ih (flZ s z) (by rw [flZ_len]; exact hk), bf_flZ z hk, List.count_cons]
    by_cases e : z = (k : Int)
    · rw [if_pos e, show ((z == (k : Int)) = true) from by rw [e]; simp, if_pos rfl, xor_bits (bfle _ _) (Nat.le_refl 1)]
    · rw [if_neg e, show ((z == (k : Int)) = false) from by rw [beq_eq_false_iff_ne]; exact e, if_neg (by simp), Nat.xor_zero, Nat.add_zero]

theorem bytes_ext {a b : List Nat} (hl : a.length = b.length) (ha : Bs a) (hb : Bs b) (h : ∀ k, k < 8 * a.length → bf (cf a) k = bf (cf b) k) : a = b := by
  refine eq_of_cf hl (fun i => ?_)
  by_cases hi : i < a.length
  · refine bt_ext (ha i) (hb i) (fun k hk => ?_)
    have := h (8 * i + k) (by omega)
    unfold bf at this
    rwa [show (8 * i + k) / 8 = i from by omega, show (8 * i + k) % 8 = k from by omega] at this
  · rw [cf_ge (by omega), cf_ge (by omega)]

theorem bfxor (f g : Nat → Nat) (k : Nat) : bf (fun i => f i ^^^ g i) k = bf f k ^^^ bf g k := bt_xor _ _ _
theorem ap_mem {a b : List Nat} (hl : a.length = b.length) (k : Nat) : k ∈ apL a b ↔ k < 8 * a.length ∧ bf (cf a) k ≠ bf (cf b) k := by
  rw [apL, if_pos hl, onF, List.mem_filter, List.mem_range, bfxor]
  have h1 := bfle (cf a) k
  have h2 := bfle (cf b) k
  generalize bf (cf a) k = x at *
  generalize bf (cf b) k = y at *
  have hx : x = 0 ∨ x = 1 := by omega
  have hy : y = 0 ∨ y = 1 := by omega
  rcases hx with rfl | rfl <;> rcases hy with rfl | rfl <;> simp
theorem ap_nodup (a b : List Nat) : (apL a b).Nodup := by
  unfold apL
  split
  · exact List.Pairwise.filter _ List.nodup_range
  · exact List.nodup_nil
theorem ap_lt {a b : List Nat} {k : Nat} (h : k ∈ apL a b) : k < 8 * a.length := by
  unfold apL at h
  split at h
  · exact List.mem_range.1 (List.mem_filter.1 h).1
  · simp at h
theorem ap_len (a b : List Nat) : (apL a b).length ≤ 8 * a.length := by
  unfold apL
  split
  · refine Nat.le_trans (List.length_filter_le _ _) ?_
    rw [List.length_range]
    exact Nat.le_refl _
  · simp
theorem count_ints {l : List Nat} (h : l.Nodup) (k : Nat) : (ints l).count (k : Int) = if k ∈ l then 1 else 0 := by
  have hn : (ints l).Nodup := ints_nodup h
  have hm : (k : Int) ∈ ints l ↔ k ∈ l := by
    unfold ints
    rw [List.mem_map]
    constructor
    · rintro ⟨j, hj, e⟩
      have : j = k := by omega
      exact this ▸ hj
    · exact fun h => ⟨k, h, rfl⟩
  by_cases e : k ∈ l
  · rw [if_pos e, hn.count, if_pos (hm.2 e)]
  · rw [if_neg e, List.count_eq_zero]
    exact fun h => e (hm.1 h)

theorem xor_self2 {x y : Nat} (hx : x ≤ 1) (hy : y ≤ 1) : x ^^^ ((if x ≠ y then 1 else 0) % 2) = y := by
  have h1 : x = 0 ∨ x = 1 := by omega
  have h2 : y = 0 ∨ y = 1 := by omega
  rcases h1 with rfl | rfl <;> rcases h2 with rfl | rfl <;> rfl

/-- What is turned where two differ is the other one. -/
theorem flip_apart {a b : List Nat} (hl : a.length = b.length) (ha : Bs a) (hb : Bs b) : flipZ a (ints (apL a b)) = b := by
  refine bytes_ext (by rw [flipZ_len]; exact hl) (flipZ_bs ha _) hb (fun k hk => ?_)
  rw [flipZ_len] at hk
  rw [bf_flipZ _ _ hk, count_ints (ap_nodup _ _)]
  have : (if k ∈ apL a b then 1 else 0) = (if bf (cf a) k ≠ bf (cf b) k then 1 else 0) := by
    by_cases e : k ∈ apL a b
    · rw [if_pos e, if_pos ((ap_mem hl k).1 e).2]
    · rw [if_neg e, if_neg (fun h => e ((ap_mem hl k).2 ⟨hk, h⟩))]
  rw [this]
  exact xor_self2 (bfle _ _) (bfle _ _)
theorem flip_back {a b : List Nat} (hl : a.length = b.length) (ha : Bs a) (hb : Bs b) : flipZ b (ints (apL a b)) = a := by
  refine bytes_ext (by rw [flipZ_len]; exact hl.symm) (flipZ_bs hb _) ha (fun k hk => ?_)
  rw [flipZ_len] at hk
  rw [bf_flipZ _ _ hk, count_ints (ap_nodup _ _)]
  have : (if k ∈ apL a b then 1 else 0) = (if bf (cf b) k ≠ bf (cf a) k then 1 else 0) := by
    by_cases e : k ∈ apL a b
    · rw [if_pos e, if_pos (Ne.symm ((ap_mem hl k).1 e).2)]
    · rw [if_neg e, if_neg (fun h => e ((ap_mem hl k).2 ⟨by omega, Ne.symm h⟩))]
  rw [this]
  exact xor_self2 (bfle _ _) (bfle _ _)
theorem ap_self (a : List Nat) : apL a a = [] := by
  refine List.eq_nil_iff_forall_not_mem.2 (fun k h => ?_)
  exact ((ap_mem rfl k).1 h).2 rfl

end Go.Proofs.Ytkhpoomajebgoab

namespace Go.Proofs.Ytkhpoomajebgoab
open Go.RowKit Go.Shelf

theorem bf_mixF {a b mask : List Nat} {k : Nat} (hk : k < 8 * a.length) (hm : mask ≠ []) : bf (cf (mixF a b mask)) k = if bt (mAt mask (k / 8)) (k % 8) = 1 then bf (cf b) k else bf (cf a) k := by
  unfold bf
  rw [cf_mixF (by omega) hm, bt_mx]
theorem mixL_len {a b : List Nat} (hl : a.length = b.length) (mask : List Nat) : (mixL a b mask).length = a.length := by rw [mixL, if_pos hl, mixF_len]
theorem mixL_bs {a b : List Nat} (mask : List Nat) (ha : Bs a) (hb : Bs b) : Bs (mixL a b mask) := by
  unfold mixL
  split
  · exact mixF_bs ha hb
  · exact Bs.nil
theorem mix_none {a b : List Nat} (hl : a.length = b.length) : mixL a b [] = a := by rw [mixL, if_pos hl, mixF, if_pos rfl]
theorem mix_all {a b : List Nat} (hl : a.length = b.length) (ha : Bs a) (hb : Bs b) : mixL a b [255] = b := by
  refine bytes_ext (by rw [mixL_len hl]; exact hl) (mixL_bs _ ha hb) hb (fun k hk => ?_)
  rw [mixL_len hl] at hk
  rw [mixL, if_pos hl, bf_mixF hk (by simp)]
  have : ∀ j, j < 8 → bt 255 j = 1 := by decide
  rw [if_pos]
  show bt (cf [255] (k / 8 % 1)) (k % 8) = 1
  rw [Nat.mod_one]
  exact this _ (by omega)

theorem filter_sum {p q r : Nat → Bool} (h : ∀ k, (r k).toNat = (p k).toNat + (q k).toNat) (l : List Nat) : (l.filter p).length + (l.filter q).length = (l.filter r).length := by
  induction l with
  | nil => rfl
  | cons x l ih =>
    have hx := h x
    rw [List.filter_cons, List.filter_cons, List.filter_cons]
    cases hp : p x <;> cases hq : q x <;> cases hr : r x <;> simp [hp, hq, hr] at hx ⊢ <;> omega

theorem ap_eq {a b : List Nat} (hl : a.length = b.length) : apL a b = (List.range (8 * a.length)).filter (fun k => decide (bf (cf a) k ≠ bf (cf b) k)) := by
  rw [apL, if_pos hl, onF]
  refine List.filter_congr (fun k _ => ?_)
  rw [bfxor]
  have h1 := bfle (cf a) k
  have h2 := bfle (cf b) k
  generalize bf (cf a) k = x at *
  generalize bf (cf b) k = y at *
  have hx : x = 0 ∨ x = 1 := by omega
  have hy : y = 0 ∨ y = 1 := by omega
  rcases hx with rfl | rfl <;> rcases hy with rfl | rfl <;> rfl

theorem filter_sum' {p q r : Nat → Bool} (l : List Nat) (h : ∀ k ∈ l, (r k).toNat = (p k).toNat + (q k).toNat) : (l.filter p).length + (l.filter q).length = (l.filter r).length := by
  induction l with
  | nil => rfl
  | cons x l ih =>
    have hx := h x List.mem_cons_self
    have ih := ih (fun k hk => h k (List.mem_cons_of_mem _ hk))
    rw [List.filter_cons, List.filter_cons, List.filter_cons]
    cases hp : p x <;> cases hq : q x <;> cases hr : r x <;> simp [hp, hq, hr] at hx ⊢ <;> omega

/-- A mix differs from both nowhere where they are the same. -/
theorem mix_sum {a b : List Nat} (hl : a.length = b.length) (mask : List Nat) : (apL a (mixL a b mask)).length + (apL (mixL a b mask) b).length = (apL a b).length := by
  rw [ap_eq (by rw [mixL_len hl]), ap_eq (by rw [mixL_len hl]; exact hl), ap_eq hl, mixL_len hl]
  refine filter_sum' _ (fun k hk => ?_)
  rw [List.mem_range] at hk
  rw [mixL, if_pos hl]
  by_cases hm : mask = []
  · rw [mixF, if_pos hm]; simp
  · rw [bf_mixF hk hm]
    by_cases e : bt (mAt mask (k / 8)) (k % 8) = 1
    · rw [if_pos e]; simp
    · rw [if_neg e]; simp

theorem nil_arg (w : World) : Arg w (.slice none 0 0) 0 [] := ⟨⟨none, 0, rfl, by simp, by unfold maxLen; omega, fun _ => rfl, .inl rfl⟩, Bs.nil⟩

end Go.Proofs.Ytkhpoomajebgoab

namespace Go.Proofs.Ytkhpoomajebgoab
open Go.RowKit Go.Shelf

theorem min_three (t : TypeId) (ts : Array TypeId) (x y z : Int) (w : World) : (Builtin.min_ ts t #[.int .i64 x, .int .i64 y, .int .i64 z]).run Try.prog w = .ok (.int .i64 (min (min x y) z)) w := by
  unfold Builtin.min_
  simp only [List.foldlM_cons, List.foldlM_nil, Builtin.min2]
  by_cases h1 : y < x
  · by_cases h2 : z < y
    · simp [h1, h2, Sem.run_pure]; omega
    · simp [h1, h2, Sem.run_pure]; omega
  · by_cases h2 : z < x
    · simp [h1, h2, Sem.run_pure]; omega
    · simp [h1, h2, Sem.run_pure]; omega

theorem min_two (t : TypeId) (ts : Array TypeId) (x y : Int) (w : World) : (Builtin.min_ ts t #[.int .i64 x, .int .i64 y]).run Try.prog w = .ok (.int .i64 (min x y)) w := by
  unfold Builtin.min_
  simp only [List.foldlM_cons, List.foldlM_nil, Builtin.min2]
  by_cases h1 : y < x
  · simp [h1, Sem.run_pure]; omega
  · simp [h1, Sem.run_pure]; omega

theorem Arg.front {w : World} {ao : Option Addr} {n c g m : Nat} {s : List Nat} (h : Arg w (.slice ao n c) g s) (hm : m ≤ n) : Arg w (.slice ao m c) g (s.take m) := by
  obtain ⟨⟨ao', c', h1, h2, h3, h4, h5⟩, hb⟩ := h
  injection h1 with e1 e2 e3
  subst e1
  subst e3
  have hl : (s.take m).length = m := by rw [List.length_take]; omega
  refine ⟨⟨ao, c, by rw [hl], by omega, h3, h4, row_front h5⟩, fun i => ?_⟩
  rw [cf_take]
  split
  · exact hb i
  · omega

theorem below_drewN (w : World) (n : Nat) : Below w.heap.size w (w.drewN n) := ⟨rfl, rfl, rfl, Nat.le_refl _, fun _ _ => rfl⟩
theorem arg_row {w : World} {ao : Option Addr} {n c g : Nat} {s : List Nat} (h : Arg w (.slice ao n c) g s) : Row w ao g (ints s) := by
  obtain ⟨⟨ao', c', h1, h2, h3, h4, h5⟩, hb⟩ := h
  injection h1 with e1 e2 e3
  subst e1
  exact h5
theorem str_eq (a : List Nat) : ((strOf (ints a)).toList == (strOf (ints a)).toList) = true := by simp

end Go.Proofs.Ytkhpoomajebgoab

namespace Go.Proofs.Ytkhpoomajebgoab
open Go.RowKit Go.Shelf

theorem blk_one (w : World) (x : Nat) : Blk (w.alloc (.cells #[.int .u8 (x : Int)] 5)) w.heap.size [x] :=
  ⟨_, World.alloc_heap_new w _, fun j hj => by
    have : j = 0 := by simpa using hj
    subst this
    rfl⟩
theorem arg_one (w : World) (x : Nat) (hx : x < 256) : Arg (w.alloc (.cells #[.int .u8 (x : Int)] 5)) (.slice (some ⟨w.heap.size, 0, none⟩) 1 1) w.heap.size [x] :=
  (blk_one w x).arg (c := 1) (Bs.cons hx Bs.nil) (by simp) (by unfold maxLen; omega)

theorem known_apart : apL [1] [2] = [0, 1] := by decide +kernel

theorem OwnI.cells {base : Nat} {w : World} {v : Value} {l : List Nat} (h : OwnI base w v l) (hl : l ≠ []) : ∃ g c, v = .slice (some ⟨g, 0, none⟩) l.length c ∧ ∀ j, j < l.length → w.cell? ⟨g, j, none⟩ = some (.int .i64 ((cf l j : Nat) : Int)) := by
  rcases h.shape with ⟨_, h2⟩ | ⟨q, cq, h1, _, _, _, _, h6⟩
  · exact absurd h2 hl
  · exact ⟨q, cq, h1, h6⟩

theorem known_args (w W : World) (hW : (w.alloc (.cells #[.int .u8 1] 5)).alloc (.cells #[.int .u8 2] 5) = W) :
    Arg W (.slice (some ⟨w.heap.size, 0, none⟩) 1 1) w.heap.size [1] ∧ Arg W (.slice (some ⟨w.heap.size + 1, 0, none⟩) 1 1) (w.heap.size + 1) [2] ∧ Below w.heap.size w W := by
  subst hW
  refine ⟨(arg_one w 1 (by omega)).below ((Below.refl _ _).alloc (Nat.le_refl _) _), ?_, ((Below.refl _ w).alloc (Nat.le_refl _) _).alloc (by simp) _⟩
  have h := arg_one (w.alloc (.cells #[.int .u8 1] 5)) 2 (by omega)
  rwa [World.size_alloc] at h

end Go.Proofs.Ytkhpoomajebgoab

namespace Go.Proofs.Ytkhpoomajebgoab
open Go.RowKit

end Go.Proofs.Ytkhpoomajebgoab

namespace Go.Proofs.Ytkhpoomajebgoab
open Go.RowKit Go.Shelf
attribute [local go_sem] Oper.semAt_some

theorem row_trim {w : World} {ao : Option Addr} {g : Nat} {s : List Nat} (hr : Row w ao g (ints s)) : Row w ao g (ints (trim s)) := by
  have h : trim s = s.take (trim s).length := by
    refine trim_take (trim_len s) (fun j hj => ?_) ?_
    · rw [← cf_trim, cf_ge hj]
    · by_cases h0 : trim s = []
      · left; rw [h0]; rfl
      · exact .inr (trim_last h0)
  rw [h]
  exact row_front hr

end Go.Proofs.Ytkhpoomajebgoab
