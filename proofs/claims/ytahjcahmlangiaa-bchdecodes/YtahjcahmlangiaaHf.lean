/-
  ramekinref6's Flip.
-/
import Derived.Test.YtahjcahmlangiaaBe
namespace Go.Proofs.Ytahjcahmlangiaa
open Go.RowKit

/-- The slice v holds these places. -/
structure IArg (w : World) (v : Value) (g : Nat) (l : List Nat) : Prop where
  ex : ∃ ao c, v = .slice ao l.length c ∧ l.length ≤ c ∧ c ≤ maxLen ∧ (ao = none → c = 0) ∧ IRow w ao g (ints l)

theorem IRow.below {w w' : World} (h : Below w.heap.size w w') {ao : Option Addr} {g : Nat} {zs : List Int} (hr : IRow w ao g zs) : IRow w' ao g zs := by
  rcases hr with h0 | ⟨o, rfl, hc⟩
  · exact .inl h0
  · exact .inr ⟨o, rfl, fun j hj => (h.cell (block_lt_of_cell (hc j hj))).trans (hc j hj)⟩
theorem IArg.below {w w' : World} {v : Value} {g : Nat} {l : List Nat} (h : IArg w v g l) (k : Below w.heap.size w w') : IArg w' v g l := by
  obtain ⟨ao, c, h1, h2, h3, h4, h5⟩ := h
  exact ⟨ao, c, h1, h2, h3, h4, h5.below k⟩
theorem irow_some {w : World} {ao : Option Addr} {g : Nat} {s : List Nat} (hr : IRow w ao g (ints s)) (hs : 0 < s.length) : ∃ o, ao = some ⟨g, o, none⟩ := by
  rcases hr with h | ⟨o, h, _⟩
  · rw [← ints_len, h] at hs; simp at hs
  · exact ⟨o, h⟩
theorem irow_cell {w : World} {g g' o : Nat} {s : List Nat} (hr : IRow w (some ⟨g', o, none⟩) g (ints s)) {j : Nat} (hj : j < s.length) : w.cell? ⟨g', o + j, none⟩ = some (.int .i64 ((cf s j : Nat) : Int)) := by
  rcases hr with h | ⟨o', h, hc⟩
  · rw [← ints_len, h] at hj; simp at hj
  · cases h
    rw [hc j (by rw [ints_len]; exact hj), ints_getD]

theorem empty_owns' (w : World) : (w.alloc (.cells #[] 5)).ownsRow w.heap.size 5 1 (.slice (some ⟨w.heap.size, 0, none⟩) 0 0) 0 ((ints []).map (Value.int .u8)) := by
  refine ⟨by simp [ints], .inr ⟨w.heap.size, 0, _, rfl, Nat.le_refl _, World.alloc_heap_new w _, Nat.le_refl _, by unfold maxLen; omega, by simp, ?_⟩⟩
  simp [ints]

theorem flips_take {s l : List Nat} {i : Nat} (h : i < l.length) : flips s (l.take (i + 1)) = flip1 (flips s (l.take i)) (cf l i) := by
  have : l.take (i + 1) = l.take i ++ [cf l i] := by
    rw [List.take_succ_eq_append_getElem h]
    have := cf_get h
    rw [List.getElem?_eq_getElem h] at this
    simp at this
    rw [this]
  rw [this, flips, List.foldl_append]
  rfl
theorem cf_memb {l : List Nat} {i : Nat} (h : i < l.length) : cf l i ∈ l := List.mem_of_getElem? (cf_get h)

set_option maxRecDepth 100000 in
set_option maxHeartbeats 8000000 in
theorem flip_any (v vl : Value) (g gl : Nat) (s l : List Nat) (w : World) (hA : Arg w v g s) (hI : IArg w vl gl l) (hs : s.length = 28) (hl : ∀ k ∈ l, k < 224) (hll : l.length ≤ 1000) :
    Calls Try.prog 16 #[v, vl] w fun e w' => ∃ v', e = .returned v' ∧ Fr w.heap.size w' v' (flips s l) ∧ Below w.heap.size w w' := by
  obtain ⟨⟨ao, c, rfl, hc1, hc2, hnil, hr⟩, hbs⟩ := hA
  obtain ⟨bo, cl, rfl, hd1, hd2, hnil2, hr2⟩ := hI
  obtain ⟨o, rfl⟩ := row_some hr (by omega)
  obtain ⟨i0, hi0, hz0, hz1, hz2⟩ := info_parts infoE
  have HR := hide hr
  have HR2 := hide hr2
  have HS := hide hs
  have HI := hide hi0
  have HO := hide (empty_owns' w)
  have HK1 : Hid (Kp [] w (w.alloc (.cells #[] 5))) := (Kp.refl [] w).alloc _
  rw [hs]
  clear hr hr2 hnil hnil2 hi0
  go_enter Try.func16, Try.ntmps16
  go_wp2_with (at_builtin; refine wpList_append_row _ rfl _ _ 22 rfl w.heap.size 5 i0 Try.underlying22 (unhide HI) hz0 hz1 hz2 (.slice (some ⟨w.heap.size, 0, none⟩) 0 0) 0 _ rfl (unhide HO) (some ⟨g, o, none⟩) g 28 c (ints s) rfl (by rw [ints_len]; exact unhide HS) ((unhide HR).keep (unhide HK1) (by simp)) (fun h => by cases h) (by omega) (by simp) ?_)
  intro v' w1 ho hg _
  have hF := (owns_fr (s := s) ho).2
  obtain ⟨q, cq, rfl, hq1, hq2, hB, hq3⟩ := hF.blk (by intro h; rw [h] at hs; simp at hs)
  rw [hs] at hq1 ⊢
  have HB1 := hide hB
  have HK2 := hide ((unhide HK1).grown hg (fun k e => by cases e; exact .inr (Nat.le_refl _)))
  clear ho hg hF hB HK1 HO
  go_wp2_with fail
  go_loopw [6] (fun p wr => ∃ (i : Nat), p = .int .i64 i ∧ i ≤ l.length ∧ Blk wr q (flips s (l.take i)) ∧ Kp [] w wr) (fun p _ => l.length - (intOf p).toNat)
  case atStart => exact ⟨0, rfl, by omega, unhide HB1, unhide HK2⟩
  case round =>
    obtain ⟨i, rfl, hi, hB, hK⟩ := hrel
    have HK := hide hK
    clear hK
    by_cases hlt : i < l.length
    · have hi1 : (i : Int) < (l.length : Int) := by omega
      obtain ⟨ol, rfl⟩ := irow_some (unhide HR2) (by omega)
      have hcl := irow_cell (unhide HR2) (j := i) hlt
      have hgl := block_lt_of_cell hcl
      dsimp only at hgl
      have hcw := (unhide HK).cell hcl (by simp)
      have hk := hl _ (cf_memb hlt)
      have hft := flips_take (s := s) hlt
      obtain ⟨t, ht⟩ : ∃ t, flips s (l.take i) = t := ⟨_, rfl⟩
      have htl : t.length = 28 := by rw [← ht, flips_len]; exact hs
      have htb : Bs t := by rw [← ht]; exact flips_bs hbs _
      rw [ht] at hB hft
      have HB := hide hB
      have HFT := hide hft
      clear hB hft ht
      obtain ⟨k, hkk⟩ : ∃ k, cf l i = k := ⟨_, rfl⟩
      rw [hkk] at hcw hk HFT
      clear hkk hcl
      obtain ⟨j, hj⟩ : ∃ j, k / 8 = j := ⟨_, rfl⟩
      obtain ⟨m, hm⟩ : ∃ m, k % 8 = m := ⟨_, rfl⟩
      have hj28 : j < 28 := by omega
      have hm8 : m < 8 := by omega
      have hj1 : (j : Int) < 28 := by omega
      have q0 : (k : Int) / 8 = (j : Int) := by omega
      have q1 : IntKind.i64.wrap ((k : Int) / 8) = (j : Int) := by rw [IntWalk.i64_in _ ⟨by omega, by omega⟩]; omega
      have q1' : IntKind.i64.wrap (j : Int) = (j : Int) := by rw [IntWalk.i64_in _ ⟨by omega, by omega⟩]
      have q2 : (k : Int).tmod 8 = (m : Int) := by rw [Int.tmod_eq_emod_of_nonneg (by omega)]; omega
      have q2' : (k : Int) % 8 = (m : Int) := by omega
      have q3 : IntKind.u64.wrap (m : Int) = (m : Int) := IntWalk.u64_in _ ⟨by omega, by omega⟩
      have hpm : 2 ^ m < 256 := by have := pow_lt8 k; rw [hm] at this; exact this
      obtain ⟨p, hp⟩ : ∃ p, 2 ^ m = p := ⟨_, rfl⟩
      rw [hp] at hpm
      have q4 : IntKind.u8.wrap ((2 : Int) ^ m) = (p : Int) := by rw [show (2 : Int) ^ m = ((2 ^ m : Nat) : Int) from by simp, hp]; exact wraps_u8 _ (by omega) (by omega)
      have HFL : Hid (flip1 t k = t.set j (cf t j ^^^ p)) := by show _ = _; rw [← hp, ← hj, ← hm]; rfl
      have hxor := bits_xor_u8 (htb j) hpm
      clear hj hm hp
      go_wp2_with fail
      have HCW := hide hcw
      clear hcw
      refine wp_region_noPanic ?_
      refine wp_region_held_drew (S := fun W => Kp [q] wr W) (by kernel_rfl) ((Kp.refl _ _).drew) (fun hHeld => ?_)
      have HH := hide hHeld
      clear hHeld
      refine takeL (i := 0) (v := ?_) rfl (by kernel_rfl) (by kernel_rfl) (by kernel_rfl) (fun _ _ _ h => h) (Or.inl ⟨by rfl, ?_⟩) (unhide HH) ?_
      rotate_left 1
      · intro W hSW; go_simp; all_goals (with_reducible rfl)
      (try simp only [Act.put, List.setIfInBounds_toArray, List.set_cons_zero, List.set_cons_succ])
      refine takeL (i := 1) (v := ?_) rfl (by kernel_rfl) (by kernel_rfl) (by kernel_rfl) (fun _ _ _ h => h) (Or.inl ⟨by rfl, ?_⟩) (unhide HH) ?_
      rotate_left 1
      · intro W hSW; go_simp; all_goals (with_reducible rfl)
      (try simp only [Act.put, List.setIfInBounds_toArray, List.set_cons_zero, List.set_cons_succ])
      refine takeL (i := 2) (v := ?_) rfl (by kernel_rfl) (by kernel_rfl) (by kernel_rfl) (fun _ _ _ h => h) (Or.inl ⟨by rfl, ?_⟩) (unhide HH) ?_
      rotate_left 1
      · intro W hSW; go_simp; all_goals (with_reducible rfl)
      (try simp only [Act.put, List.setIfInBounds_toArray, List.set_cons_zero, List.set_cons_succ])
      refine takeL (i := 3) (v := ?_) rfl (by kernel_rfl) (by kernel_rfl) (by kernel_rfl) (fun _ _ _ h => h) (Or.inl ⟨by rfl, ?_⟩) (unhide HH) ?_
      rotate_left 1
      · intro W hSW; go_simp; all_goals (with_reducible rfl)
      (try simp only [Act.put, List.setIfInBounds_toArray, List.set_cons_zero, List.set_cons_succ])
      refine takeL (i := 4) (v := ?_) rfl (by kernel_rfl) (by kernel_rfl) (by kernel_rfl) (fun _ _ _ h => h) (Or.inl ⟨by rfl, ?_⟩) (unhide HH) ?_
      rotate_left 1
      · intro W1 hSW; have hc := hSW.cell (unhide HCW) (by simp; omega); clear hSW; go_simp; all_goals (with_reducible rfl)
      (try simp only [Act.put, List.setIfInBounds_toArray, List.set_cons_zero, List.set_cons_succ])
      refine takeL (i := 5) (v := ?_) rfl (by kernel_rfl) (by kernel_rfl) (by kernel_rfl) (fun _ _ _ h => h) (Or.inl ⟨by rfl, ?_⟩) (unhide HH) ?_
      rotate_left 1
      · intro W hSW; go_simp; all_goals (with_reducible rfl)
      (try simp only [Act.put, List.setIfInBounds_toArray, List.set_cons_zero, List.set_cons_succ])
      refine takeL (i := 6) (v := ?_) rfl (by kernel_rfl) (by kernel_rfl) (by kernel_rfl) (fun _ _ _ h => h) (Or.inl ⟨by rfl, ?_⟩) (unhide HH) ?_
      rotate_left 1
      · intro W hSW; go_simp; all_goals (with_reducible rfl)
      (try simp only [Act.put, List.setIfInBounds_toArray, List.set_cons_zero, List.set_cons_succ])
      refine takeL (i := 7) (v := ?_) rfl (by kernel_rfl) (by kernel_rfl) (by kernel_rfl) (fun _ _ _ h => h) (Or.inl ⟨by rfl, ?_⟩) (unhide HH) ?_
      rotate_left 1
      · intro W hSW; go_simp; all_goals (with_reducible rfl)
      (try simp only [Act.put, List.setIfInBounds_toArray, List.set_cons_zero, List.set_cons_succ])
      refine takeL (i := 8) (v := ?_) rfl (by kernel_rfl) (by kernel_rfl) (by kernel_rfl) (fun _ _ _ h => h) (Or.inl ⟨by rfl, ?_⟩) (unhide HH) ?_
      rotate_left 1
      · intro W hSW; go_simp; all_goals (with_reducible rfl)
      (try simp only [Act.put, List.setIfInBounds_toArray, List.set_cons_zero, List.set_cons_succ])
      refine takeL (i := 9) (v := ?_) rfl (by kernel_rfl) (by kernel_rfl) (by kernel_rfl) (fun _ _ _ h => h) (Or.inl ⟨by rfl, ?_⟩) (unhide HH) ?_
      rotate_left 1
      · intro W hSW; go_simp; all_goals (with_reducible rfl)
      (try simp only [Act.put, List.setIfInBounds_toArray, List.set_cons_zero, List.set_cons_succ])
      refine takeL (i := 10) (v := ?_) rfl (by kernel_rfl) (by kernel_rfl) (by kernel_rfl) (fun _ _ _ h => h) (Or.inl ⟨by rfl, ?_⟩) (unhide HH) ?_
      rotate_left 1
      · intro W1 hSW; have hc := hSW.cell (unhide HCW) (by simp; omega); clear hSW; go_simp; all_goals (with_reducible rfl)
      (try simp only [Act.put, List.setIfInBounds_toArray, List.set_cons_zero, List.set_cons_succ])
      refine takeL (i := 11) (v := ?_) rfl (by kernel_rfl) (by kernel_rfl) (by kernel_rfl) (fun _ _ _ h => h) (Or.inl ⟨by rfl, ?_⟩) (unhide HH) ?_
      rotate_left 1
      · intro W hSW; go_simp; all_goals (with_reducible rfl)
      (try simp only [Act.put, List.setIfInBounds_toArray, List.set_cons_zero, List.set_cons_succ])
      refine takeL (i := 12) (v := ?_) rfl (by kernel_rfl) (by kernel_rfl) (by kernel_rfl) (fun _ _ _ h => h) (Or.inl ⟨by rfl, ?_⟩) (unhide HH) ?_
      rotate_left 1
      · intro W hSW; go_simp; all_goals (with_reducible rfl)
      (try simp only [Act.put, List.setIfInBounds_toArray, List.set_cons_zero, List.set_cons_succ])
      refine takeL (i := 14) (v := ?_) rfl (by kernel_rfl) (by kernel_rfl) (by kernel_rfl) (fun _ _ _ h => h) (Or.inl ⟨by rfl, ?_⟩) (unhide HH) ?_
      rotate_left 1
      · intro W hSW; go_simp; all_goals (with_reducible rfl)
      (try simp only [Act.put, List.setIfInBounds_toArray, List.set_cons_zero, List.set_cons_succ])
      refine takeL (i := 15) (v := ?_) rfl (by kernel_rfl) (by kernel_rfl) (by kernel_rfl) (fun _ _ _ h => h) (Or.inl ⟨by rfl, ?_⟩) (unhide HH) ?_
      rotate_left 1
      · intro W hSW; go_simp; all_goals (with_reducible rfl)
      (try simp only [Act.put, List.setIfInBounds_toArray, List.set_cons_zero, List.set_cons_succ])
      refine takeL (i := 16) (v := ?_) rfl (by kernel_rfl) (by kernel_rfl) (by kernel_rfl) (fun _ _ _ h => h) (Or.inl ⟨by rfl, ?_⟩) (unhide HH) ?_
      rotate_left 1
      · intro W hSW; go_simp; all_goals (with_reducible rfl)
      (try simp only [Act.put, List.setIfInBounds_toArray, List.set_cons_zero, List.set_cons_succ])
      refine takeL (i := 17) (v := ?_) rfl (by kernel_rfl) (by kernel_rfl) (by kernel_rfl) (fun _ _ _ h => h) (Or.inl ⟨by rfl, ?_⟩) (unhide HH) ?_
      rotate_left 1
      · intro W1 hSW; have hc := hSW.cell (unhide HCW) (by simp; omega); clear hSW; go_simp; all_goals (with_reducible rfl)
      (try simp only [Act.put, List.setIfInBounds_toArray, List.set_cons_zero, List.set_cons_succ])
      refine takeL (i := 18) (v := ?_) rfl (by kernel_rfl) (by kernel_rfl) (by kernel_rfl) (fun _ _ _ h => h) (Or.inl ⟨by rfl, ?_⟩) (unhide HH) ?_
      rotate_left 1
      · intro W hSW; go_simp; all_goals (with_reducible rfl)
      (try simp only [Act.put, List.setIfInBounds_toArray, List.set_cons_zero, List.set_cons_succ])
      refine takeL (i := 19) (v := ?_) rfl (by kernel_rfl) (by kernel_rfl) (by kernel_rfl) (fun _ _ _ h => h) (Or.inl ⟨by rfl, ?_⟩) (unhide HH) ?_
      rotate_left 1
      · intro W hSW; go_simp; all_goals (with_reducible rfl)
      (try simp only [Act.put, List.setIfInBounds_toArray, List.set_cons_zero, List.set_cons_succ])
      refine takeL (i := 20) (v := ?_) rfl (by kernel_rfl) (by kernel_rfl) (by kernel_rfl) (fun _ _ _ h => h) (Or.inl ⟨by rfl, ?_⟩) (unhide HH) ?_
      rotate_left 1
      · intro W hSW; go_simp; all_goals (with_reducible rfl)
      (try simp only [Act.put, List.setIfInBounds_toArray, List.set_cons_zero, List.set_cons_succ])
      refine wpAnyH_ready (rs := [13]) (by kernel_rfl) (by simp) ?_
      refine consL rfl (fun K hK => ?_) AllReadyH.nil
      have hc4 := ((unhide HB).of (w' := wr.drew) rfl).cell (j := j) (by omega)
      go_simp
      refine hK.out _ _ (unhide HH) (fun hHeld => ?_)
      clear hK K HH
      have HH := hide hHeld
      clear hHeld
      (try simp only [Act.put, List.setIfInBounds_toArray, List.set_cons_zero, List.set_cons_succ])
      clear hc4
      refine takeL (i := 21) (v := ?_) rfl (by kernel_rfl) (by kernel_rfl) (by kernel_rfl) (fun _ _ _ h => h) (Or.inl ⟨by rfl, ?_⟩) (unhide HH) ?_
      rotate_left 1
      · intro W hSW; go_simp; all_goals (with_reducible rfl)
      (try simp only [Act.put, List.setIfInBounds_toArray, List.set_cons_zero, List.set_cons_succ])
      refine takeL (i := 22) (v := ?_) rfl (by kernel_rfl) (by kernel_rfl) (by kernel_rfl) (fun _ _ _ h => h) (Or.inl ⟨by rfl, ?_⟩) (unhide HH) ?_
      rotate_left 1
      · intro W hSW; go_simp; all_goals (with_reducible rfl)
      (try simp only [Act.put, List.setIfInBounds_toArray, List.set_cons_zero, List.set_cons_succ])
      refine wpAnyH_ready (rs := [23]) (by kernel_rfl) (by simp) ?_
      refine consL rfl (fun K hK => ?_) AllReadyH.nil
      have hc4 := ((unhide HB).of (w' := wr.drew) rfl).cell (j := j) (by omega)
      have hf4 := ((unhide HB).of (w' := wr.drew) rfl).free (j := j)
      have HH2 := HH
      go_simp
      refine hK.out _ _ ((unhide HH2).setCell ⟨q, j, none⟩ _ (.inl (by simp))) (fun hHeld => ?_)
      clear hHeld hK K hc4 hf4
      (try simp only [Act.put, List.setIfInBounds_toArray, List.set_cons_zero, List.set_cons_succ])
      refine wpAnyH_done (by kernel_rfl) ?_ _
      refine NoPanic.normal ?_
      go_wp2_with fail
      go_roundw
      case rel => exact ⟨i + 1, by go_num, by omega, by rw [unhide HFT, unhide HFL]; exact ((unhide HB).set j _ (by omega)).of rfl, ((unhide HK).setCell ⟨q, j, none⟩ _ (.inr (by omega))).drew⟩
      case measure => simp [intOf]; omega
    · have hi2 : i = l.length := by omega
      subst hi2
      rw [List.take_length] at hB
      have HB := hide hB
      clear hB
      go_wp2
      go_ret
      exact ⟨_, rfl, .inr ⟨q, cq, by rw [flips_len, unhide HS]; rfl, by rw [flips_len, unhide HS]; exact hq1, hq2, unhide HB, by omega⟩, (unhide HK).below⟩

end Go.Proofs.Ytahjcahmlangiaa
