/-
  The second telling's polynomials (ramekinref3): Trim, Add, Mul.
-/
import Derived.Test.YtibmfblppjcenaaPs
namespace Go.Proofs.Ytibmfblppjcenaa
open Go.RowKit

set_option maxRecDepth 100000 in
set_option maxHeartbeats 2000000 in
theorem rtrim_any (v : Value) (g : Nat) (s : List Nat) (w : World) (hA : Arg w v g s) (hs : s.length ≤ 100000) :
    Calls Try.prog 17 #[v] w fun e w' => ∃ v', e = .returned v' ∧ Fr w.heap.size w' v' (trim s) ∧ Below w.heap.size w w' := by
  obtain ⟨⟨ao, c, rfl, hnc, hcm, hnil, hr⟩, hbs⟩ := hA
  obtain ⟨n, hl⟩ : ∃ n, s.length = n := ⟨_, rfl⟩
  rw [hl] at hnc hs ⊢
  have HR := hide hr
  have HN := hide hnil
  have HL := hide hl
  unfold maxLen at hcm
  clear hr hnil hl
  obtain ⟨i0, hi0, hz0, hz1, hz2⟩ := info_parts infoE
  have HI := hide hi0
  clear hi0
  have HO := hide (World.ownsRow_lit (base := w.heap.size) (e := 5) (size := 1) w #[] 0 (Nat.le_refl _) (by unfold maxLen; omega) rfl)
  have HR2 : Hid (Row (w.alloc (.cells #[] 5)) ao g (ints s)) := (unhide HR).keep ((Kp.refl [] w).alloc _) (by simp)
  go_enter Try.func17, Try.ntmps17
  go_wp2_with fail
  go_loop [3] (fun p => ∃ e : Nat, p = .int .i64 e ∧ e ≤ n ∧ ∀ j, e ≤ j → cf s j = 0) (fun p => (intOf p).toNat)
  case atStart => exact ⟨n, rfl, Nat.le_refl _, fun j hj => cf_ge (by rw [unhide HL]; exact hj)⟩
  case round =>
    obtain ⟨e, rfl, he, hz⟩ := hrel
    have HZ := hide hz
    clear hz
    by_cases h0 : e = 0
    · subst h0
      have ht : Hid (trim s = []) := by show _ = _; rw [trim_take (Nat.zero_le _) (unhide HZ) (.inl rfl)]; rfl
      cases ao with
      | none =>
        obtain rfl := unhide HN rfl
        go_wp2_with (at_builtin; refine wpList_append_row _ rfl _ _ 22 rfl w.heap.size 5 i0 Try.underlying22 (unhide HI) hz0 hz1 hz2 (.slice (some ⟨w.heap.size, 0, none⟩) 0 0) 0 [] rfl (unhide HO) none g 0 0 (ints []) rfl (by rw [ints_len]; exact rfl) (by first | exact .inl rfl | exact row_front (unhide HR2)) (fun _ => ⟨rfl, rfl⟩) (by omega) (by simp) ?_)
        intro v' w' ho hg hv
        have HF : Hid (Fr w.heap.size w' v' (trim s)) := by rw [unhide ht]; exact (owns_fr (by simpa using ho)).2
        have HB := hide (((Kp.refl [] w).alloc _).grown hg (by intro k hk; cases hk; exact .inr (Nat.le_refl _))).below
        clear ho hg hv
        go_wp2
        go_ret
        exact ⟨_, rfl, unhide HF, unhide HB⟩
      | some ad =>
        go_wp2_with (at_builtin; refine wpList_append_row _ rfl _ _ 22 rfl w.heap.size 5 i0 Try.underlying22 (unhide HI) hz0 hz1 hz2 (.slice (some ⟨w.heap.size, 0, none⟩) 0 0) 0 [] rfl (unhide HO) (some ad) g 0 c (ints []) rfl (by rw [ints_len]; exact rfl) (by first | exact .inl rfl | exact row_front (unhide HR2)) (fun h => by simp at h) (by omega) (by simp) ?_)
        intro v' w' ho hg hv
        have HF : Hid (Fr w.heap.size w' v' (trim s)) := by rw [unhide ht]; exact (owns_fr (by simpa using ho)).2
        have HB := hide (((Kp.refl [] w).alloc _).grown hg (by intro k hk; cases hk; exact .inr (Nat.le_refl _))).below
        clear ho hg hv
        go_wp2
        go_ret
        exact ⟨_, rfl, unhide HF, unhide HB⟩
    · obtain ⟨k, rfl⟩ : ∃ k, e = k + 1 := ⟨e - 1, by omega⟩
      have HL' := unhide HL
      obtain ⟨o, rfl⟩ := row_some (unhide HR) (by omega)
      have hc := row_cell (unhide HR) (j := k) (by omega)
      have h3 : (k : Int) < (n : Int) := by omega
      have h4 : (k : Int) + 1 ≤ (c : Int) := by omega
      clear HL' h0
      by_cases hk : cf s k = 0
      · have hk' : (((cf s k : Nat) : Int) == 0) = true := by rw [hk]; rfl
        go_wp2
        go_round
        case rel => exact ⟨k, by go_num, by omega, fun j hj => by
          by_cases e : j = k
          · rw [e]; exact hk
          · exact unhide HZ j (by omega)⟩
        case measure => simp [intOf]
      · have hk' : (((cf s k : Nat) : Int) == 0) = false := by rw [beq_eq_false_iff_ne]; omega
        have ht : Hid (trim s = s.take (k + 1)) := trim_take (by rw [unhide HL]; exact he) (unhide HZ) (.inr hk)
        have HTL : Hid ((s.take (k + 1)).length = k + 1) := by show _ = _; rw [List.length_take, unhide HL, Nat.min_eq_left he]
        go_wp2_with (at_builtin; refine wpList_append_row _ rfl _ _ 22 rfl w.heap.size 5 i0 Try.underlying22 (unhide HI) hz0 hz1 hz2 (.slice (some ⟨w.heap.size, 0, none⟩) 0 0) 0 [] rfl (unhide HO) (some ⟨g, o, none⟩) g (k + 1) c (ints (s.take (k + 1))) rfl (by rw [ints_len]; exact unhide HTL) (by first | exact .inl rfl | exact row_front (unhide HR2)) (fun h => by simp at h) (by omega) (by simp) ?_)
        intro v' w' ho hg hv
        have HF : Hid (Fr w.heap.size w' v' (trim s)) := by rw [unhide ht]; exact (owns_fr (by simpa using ho)).2
        have HB := hide (((Kp.refl [] w).alloc _).grown hg (by intro k hk; cases hk; exact .inr (Nat.le_refl _))).below
        clear ho hg hv
        go_wp2
        go_ret
        exact ⟨_, rfl, unhide HF, unhide HB⟩

set_option maxRecDepth 100000 in
set_option maxHeartbeats 4000000 in
theorem radd_any (va vb : Value) (ga gb : Nat) (a b : List Nat) (w : World) (hA : Arg w va ga a) (hB : Arg w vb gb b) (ha : a.length ≤ 100000) (hb : b.length ≤ 100000) :
    Calls Try.prog 13 #[va, vb] w fun e w' => ∃ v', e = .returned v' ∧ Fr w.heap.size w' v' (trim (padd a b)) ∧ Below w.heap.size w w' := by
  obtain ⟨⟨ao, c, rfl, hc1, hc2, hnil, hr⟩, hbs⟩ := hA
  obtain ⟨⟨bo, d, rfl, hd1, hd2, hnil2, hr2⟩, hbs2⟩ := hB
  have HR := hide hr
  have HR2 := hide hr2
  clear hr hr2 hnil hnil2
  rcases Nat.lt_or_ge a.length b.length with h | h
  · have h' : (a.length : Int) < (b.length : Int) := by omega
    have hmk := run_zeros b.length (by omega)
    have hma : a.length ≤ b.length := by omega
    have hmb : b.length ≤ b.length := by omega
    go_enter Try.func13, Try.ntmps13
    go_wp2_with fail
    have HZ := hide (blk_zeros b.length w)
    have HK1 : Hid (Kp [] w (w.alloc (.cells (List.replicate b.length (Value.int .u8 0)).toArray 5))) := (Kp.refl [] w).alloc _
    clear hmk
    go_loopw [6] (fun p wr => ∃ (i : Nat) (s : List Nat), p = .int .i64 i ∧ i ≤ a.length ∧ s.length = b.length ∧ Bs s ∧ (∀ j, cf s j = if j < i then cf a j else 0) ∧ Blk wr w.heap.size s ∧ Kp [] w wr) (fun p _ => a.length - (intOf p).toNat)
    case atStart => exact ⟨0, _, rfl, by omega, by simp, Bs.zeros _, fun j => by rw [cf_zeros]; simp, unhide HZ, unhide HK1⟩
    case round =>
      obtain ⟨i, s, rfl, hi, hsl, hsb, hsc, hB, hK⟩ := hrel
      have HSC := hide hsc
      have HB := hide hB
      have HK := hide hK
      clear hsc hB hK
      by_cases hlt : i < a.length
      · have hi1 : (i : Int) < (a.length : Int) := by omega
        have hi2 : (i : Int) < (b.length : Int) := by omega
        obtain ⟨o, rfl⟩ := row_some (unhide HR) (by omega)
        have hc := (unhide HK).cell (row_cell (unhide HR) (j := i) (by omega)) (by simp)
        have hd := (unhide HB).cell (j := i) (by omega)
        have hf : wr.frozen? ⟨w.heap.size, i, none⟩ = false := (unhide HB).free
        go_wp2
        go_roundw
        case rel =>
          refine ⟨i + 1, s.set i (cf a i), by go_num, by omega, by simp [hsl], ?_, ?_, (unhide HB).set i _ (by omega), (unhide HK).setCell _ _ (.inr (Nat.le_refl _))⟩
          · intro j; rw [cf_set _ _ _ _ (by omega)]; split
            · exact hbs i
            · exact hsb j
          · intro j
            rw [cf_set _ _ _ _ (by omega), unhide HSC]
            by_cases e : j = i
            · rw [if_pos e, if_pos (by omega), e]
            · rw [if_neg e]
              by_cases e2 : j < i
              · rw [if_pos e2, if_pos (by omega)]
              · rw [if_neg e2, if_neg (by omega)]
        case measure => simp [intOf]; omega
      · have hi1 : (a.length : Int) ≤ (i : Int) := by omega
        have HSC2 : Hid (∀ j, cf s j = cf a j ^^^ 0) := fun j => by
          rw [unhide HSC, Nat.xor_zero]
          split
          · rfl
          · exact (cf_ge (by omega)).symm
        go_wp2_with fail
        clear hlt
        go_loopw [7] (fun p wr => ∃ (i : Nat) (s : List Nat), p = .int .i64 i ∧ i ≤ b.length ∧ s.length = b.length ∧ Bs s ∧ (∀ j, cf s j = cf a j ^^^ (if j < i then cf b j else 0)) ∧ Blk wr w.heap.size s ∧ Kp [] w wr) (fun p _ => b.length - (intOf p).toNat)
        case atStart => exact ⟨0, s, rfl, by omega, hsl, hsb, fun j => by rw [unhide HSC2, if_neg (by omega)], unhide HB, unhide HK⟩
        case round =>
          clear hsl hsb
          obtain ⟨k, s2, rfl, hk, hsl, hsb, hsc, hB2, hK2⟩ := hrel
          have HSC3 := hide hsc
          have HB2 := hide hB2
          have HK2 := hide hK2
          clear hsc hB2 hK2
          by_cases hlt : k < b.length
          · have hk1 : (k : Int) < (b.length : Int) := by omega
            have hk2 : (k : Int) < (b.length : Int) := by omega
            obtain ⟨o, rfl⟩ := row_some (unhide HR2) (by omega)
            have hgb2 : gb < w.heap.size := (unhide HR2).block_lt (by intro e; rw [e] at hlt; simp at hlt)
            have HC := hide ((unhide HK2).cell (row_cell (unhide HR2) (j := k) (by omega)) (by simp))
            have HD := hide ((unhide HB2).cell (j := k) (by omega))
            have HF : Hid (wr.frozen? ⟨w.heap.size, k, none⟩ = false) := (unhide HB2).free
            have hv := hsb k
            have hu := hbs2 k
            have hxor := bits_xor_u8 hv hu
            go_wp2_with fail
            refine wp_region_noPanic ?_
            refine wp_region_held_drew (S := fun W' => Kp [w.heap.size] wr W') (by kernel_rfl) ((Kp.refl _ _).drew) (fun hHeld => ?_)
            have HH := hide hHeld
            clear hHeld
            refine takeL (i := 0) (v := ?_) rfl (by kernel_rfl) (by kernel_rfl) (by kernel_rfl) (fun _ _ _ h => h) (Or.inl ⟨by rfl, ?_⟩) (unhide HH) ?_
            rotate_left 1
            · intro W hSW; go_simp; all_goals (with_reducible rfl)
            (try simp only [Act.put, List.setIfInBounds_toArray, List.set_cons_zero, List.set_cons_succ])
            refine takeL (i := 1) (v := ?_) rfl (by kernel_rfl) (by kernel_rfl) (by kernel_rfl) (fun _ _ _ h => h) (Or.inl ⟨by rfl, ?_⟩) (unhide HH) ?_
            rotate_left 1
            · intro W hSW; go_simp; all_goals (with_reducible rfl)
            (try simp only [Act.put, List.setIfInBounds_toArray, List.set_cons_zero, List.set_cons_succ])
            refine takeL (i := 2) (v := ?_) rfl (by kernel_rfl) (by kernel_rfl) (by kernel_rfl) (fun _ _ _ h => h) (Or.inl ⟨by rfl, ?_⟩) (unhide HH) ?_
            rotate_left 1
            · intro W hSW; go_simp; all_goals (with_reducible rfl)
            (try simp only [Act.put, List.setIfInBounds_toArray, List.set_cons_zero, List.set_cons_succ])
            refine takeL (i := 3) (v := ?_) rfl (by kernel_rfl) (by kernel_rfl) (by kernel_rfl) (fun _ _ _ h => h) (Or.inl ⟨by rfl, ?_⟩) (unhide HH) ?_
            rotate_left 1
            · intro W hSW; go_simp; all_goals (with_reducible rfl)
            (try simp only [Act.put, List.setIfInBounds_toArray, List.set_cons_zero, List.set_cons_succ])
            refine takeL (i := 4) (v := ?_) rfl (by kernel_rfl) (by kernel_rfl) (by kernel_rfl) (fun _ _ _ h => h) (Or.inl ⟨by rfl, ?_⟩) (unhide HH) ?_
            rotate_left 1
            · intro W hSW; go_simp; all_goals (with_reducible rfl)
            (try simp only [Act.put, List.setIfInBounds_toArray, List.set_cons_zero, List.set_cons_succ])
            refine takeL (i := 6) (v := ?_) rfl (by kernel_rfl) (by kernel_rfl) (by kernel_rfl) (fun _ _ _ h => h) (Or.inl ⟨by rfl, ?_⟩) (unhide HH) ?_
            rotate_left 1
            · intro W hSW; go_simp; all_goals (with_reducible rfl)
            (try simp only [Act.put, List.setIfInBounds_toArray, List.set_cons_zero, List.set_cons_succ])
            refine takeL (i := 7) (v := ?_) rfl (by kernel_rfl) (by kernel_rfl) (by kernel_rfl) (fun _ _ _ h => h) (Or.inl ⟨by rfl, ?_⟩) (unhide HH) ?_
            rotate_left 1
            · intro W hSW; go_simp; all_goals (with_reducible rfl)
            (try simp only [Act.put, List.setIfInBounds_toArray, List.set_cons_zero, List.set_cons_succ])
            refine takeL (i := 8) (v := ?_) rfl (by kernel_rfl) (by kernel_rfl) (by kernel_rfl) (fun _ _ _ h => h) (Or.inl ⟨by rfl, ?_⟩) (unhide HH) ?_
            rotate_left 1
            · intro W hSW; go_simp; all_goals (with_reducible rfl)
            (try simp only [Act.put, List.setIfInBounds_toArray, List.set_cons_zero, List.set_cons_succ])
            refine takeL (i := 9) (v := ?_) rfl (by kernel_rfl) (by kernel_rfl) (by kernel_rfl) (fun _ _ _ h => h) (Or.inl ⟨by rfl, ?_⟩) (unhide HH) ?_
            rotate_left 1
            · intro W1 hSW; have hc := hSW.cell (unhide HC) (by simp; omega); clear hSW; go_simp; all_goals (with_reducible rfl)
            (try simp only [Act.put, List.setIfInBounds_toArray, List.set_cons_zero, List.set_cons_succ])
            refine wpAnyH_ready (rs := [5]) (by kernel_rfl) (by simp) ?_
            refine consL rfl (fun K hK => ?_) AllReadyH.nil
            have hd : wr.drew.cell? ⟨w.heap.size, k, none⟩ = _ := unhide HD
            go_simp
            refine hK.out _ _ (unhide HH) (fun hHeld => ?_)
            clear hK K HH
            have HH := hide hHeld
            clear hHeld
            (try simp only [Act.put, List.setIfInBounds_toArray, List.set_cons_zero, List.set_cons_succ])
            clear hd
            refine takeL (i := 10) (v := ?_) rfl (by kernel_rfl) (by kernel_rfl) (by kernel_rfl) (fun _ _ _ h => h) (Or.inl ⟨by rfl, ?_⟩) (unhide HH) ?_
            rotate_left 1
            · intro W hSW; go_simp; all_goals (with_reducible rfl)
            (try simp only [Act.put, List.setIfInBounds_toArray, List.set_cons_zero, List.set_cons_succ])
            refine takeL (i := 11) (v := ?_) rfl (by kernel_rfl) (by kernel_rfl) (by kernel_rfl) (fun _ _ _ h => h) (Or.inl ⟨by rfl, ?_⟩) (unhide HH) ?_
            rotate_left 1
            · intro W hSW; go_simp; all_goals (with_reducible rfl)
            (try simp only [Act.put, List.setIfInBounds_toArray, List.set_cons_zero, List.set_cons_succ])
            refine wpAnyH_ready (rs := [12]) (by kernel_rfl) (by simp) ?_
            refine consL rfl (fun K hK => ?_) AllReadyH.nil
            have hd : wr.drew.cell? ⟨w.heap.size, k, none⟩ = _ := unhide HD
            have hf : wr.drew.frozen? ⟨w.heap.size, k, none⟩ = false := unhide HF
            go_simp
            refine hK.out _ _ (((Kp.refl _ wr).setCell ⟨w.heap.size, k, none⟩ _ (.inl (by simp))).drew) (fun hHeld => ?_)
            clear hHeld hK K HH hd hf
            (try simp only [Act.put, List.setIfInBounds_toArray, List.set_cons_zero, List.set_cons_succ])
            refine wpAnyH_done (by kernel_rfl) ?_ _
            refine NoPanic.normal ?_
            go_wp2
            go_roundw
            case rel =>
              refine ⟨k + 1, s2.set k (cf s2 k ^^^ cf b k), by go_num, by omega, by simp [hsl], ?_, ?_, ((unhide HB2).set k _ (by omega)).of rfl, ((unhide HK2).setCell _ _ (.inr (Nat.le_refl _))).drew⟩
              · intro j; rw [cf_set _ _ _ _ (by omega)]; split
                · exact xor_lt hv hu
                · exact hsb j
              · intro j
                rw [cf_set _ _ _ _ (by omega)]
                by_cases e : j = k
                · rw [if_pos e, if_pos (by omega), e, unhide HSC3, if_neg (by omega), Nat.xor_zero]
                · rw [if_neg e, unhide HSC3]
                  by_cases e2 : j < k
                  · rw [if_pos e2, if_pos (by omega)]
                  · rw [if_neg e2, if_neg (by omega)]
            case measure => simp [intOf]; omega
          · have hk1 : (b.length : Int) ≤ (k : Int) := by omega
            have HE : Hid (trim s2 = trim (padd a b)) := trim_congr (fun j => by
              rw [cf_padd, unhide HSC3]
              split
              · rfl
              · rw [cf_ge (p := b) (by omega)])
            have HA2 : Hid (Arg wr (.slice (some ⟨w.heap.size, 0, none⟩) b.length b.length) w.heap.size s2) := by
              refine ⟨⟨some ⟨w.heap.size, 0, none⟩, b.length, by rw [hsl], by rw [hsl]; exact Nat.le_refl _, by unfold maxLen; omega, fun h => by simp at h, ?_⟩, hsb⟩
              have h := (unhide HB2).row (o := 0) (n := b.length)
              rw [List.drop_zero, List.take_of_length_le (by rw [hsl]; exact Nat.le_refl _)] at h
              exact h
            go_wp2_with fail
            refine (rtrim_any _ w.heap.size s2 wr (unhide HA2) (by omega)).mono ?_
            rintro e w3 ⟨v3, rfl, hF3, hk3⟩
            rw [unhide HE] at hF3
            have HF3 := hide hF3
            have HK3 := hide hk3
            clear hF3 hk3
            go_wp2
            go_ret
            have hz := (unhide HK2).size
            refine ⟨_, rfl, ?_, ((unhide HK2).ofBelow (unhide HK3)).below⟩
            rcases unhide HF3 with h | ⟨g3, c3, k1, k2, k3, k4, k5⟩
            · exact .inl h
            · exact .inr ⟨g3, c3, k1, k2, k3, k4, by omega⟩
  · have h' : (b.length : Int) ≤ (a.length : Int) := by omega
    have hmk := run_zeros a.length (by omega)
    have hma : a.length ≤ a.length := by omega
    have hmb : b.length ≤ a.length := by omega
    go_enter Try.func13, Try.ntmps13
    go_wp2_with fail
    have HZ := hide (blk_zeros a.length w)
    have HK1 : Hid (Kp [] w (w.alloc (.cells (List.replicate a.length (Value.int .u8 0)).toArray 5))) := (Kp.refl [] w).alloc _
    clear hmk
    go_loopw [6] (fun p wr => ∃ (i : Nat) (s : List Nat), p = .int .i64 i ∧ i ≤ a.length ∧ s.length = a.length ∧ Bs s ∧ (∀ j, cf s j = if j < i then cf a j else 0) ∧ Blk wr w.heap.size s ∧ Kp [] w wr) (fun p _ => a.length - (intOf p).toNat)
    case atStart => exact ⟨0, _, rfl, by omega, by simp, Bs.zeros _, fun j => by rw [cf_zeros]; simp, unhide HZ, unhide HK1⟩
    case round =>
      obtain ⟨i, s, rfl, hi, hsl, hsb, hsc, hB, hK⟩ := hrel
      have HSC := hide hsc
      have HB := hide hB
      have HK := hide hK
      clear hsc hB hK
      by_cases hlt : i < a.length
      · have hi1 : (i : Int) < (a.length : Int) := by omega
        have hi2 : (i : Int) < (a.length : Int) := by omega
        obtain ⟨o, rfl⟩ := row_some (unhide HR) (by omega)
        have hc := (unhide HK).cell (row_cell (unhide HR) (j := i) (by omega)) (by simp)
        have hd := (unhide HB).cell (j := i) (by omega)
        have hf : wr.frozen? ⟨w.heap.size, i, none⟩ = false := (unhide HB).free
        go_wp2
        go_roundw
        case rel =>
          refine ⟨i + 1, s.set i (cf a i), by go_num, by omega, by simp [hsl], ?_, ?_, (unhide HB).set i _ (by omega), (unhide HK).setCell _ _ (.inr (Nat.le_refl _))⟩
          · intro j; rw [cf_set _ _ _ _ (by omega)]; split
            · exact hbs i
            · exact hsb j
          · intro j
            rw [cf_set _ _ _ _ (by omega), unhide HSC]
            by_cases e : j = i
            · rw [if_pos e, if_pos (by omega), e]
            · rw [if_neg e]
              by_cases e2 : j < i
              · rw [if_pos e2, if_pos (by omega)]
              · rw [if_neg e2, if_neg (by omega)]
        case measure => simp [intOf]; omega
      · have hi1 : (a.length : Int) ≤ (i : Int) := by omega
        have HSC2 : Hid (∀ j, cf s j = cf a j ^^^ 0) := fun j => by
          rw [unhide HSC, Nat.xor_zero]
          split
          · rfl
          · exact (cf_ge (by omega)).symm
        go_wp2_with fail
        clear hlt
        go_loopw [7] (fun p wr => ∃ (i : Nat) (s : List Nat), p = .int .i64 i ∧ i ≤ b.length ∧ s.length = a.length ∧ Bs s ∧ (∀ j, cf s j = cf a j ^^^ (if j < i then cf b j else 0)) ∧ Blk wr w.heap.size s ∧ Kp [] w wr) (fun p _ => b.length - (intOf p).toNat)
        case atStart => exact ⟨0, s, rfl, by omega, hsl, hsb, fun j => by rw [unhide HSC2, if_neg (by omega)], unhide HB, unhide HK⟩
        case round =>
          clear hsl hsb
          obtain ⟨k, s2, rfl, hk, hsl, hsb, hsc, hB2, hK2⟩ := hrel
          have HSC3 := hide hsc
          have HB2 := hide hB2
          have HK2 := hide hK2
          clear hsc hB2 hK2
          by_cases hlt : k < b.length
          · have hk1 : (k : Int) < (b.length : Int) := by omega
            have hk2 : (k : Int) < (a.length : Int) := by omega
            obtain ⟨o, rfl⟩ := row_some (unhide HR2) (by omega)
            have hgb2 : gb < w.heap.size := (unhide HR2).block_lt (by intro e; rw [e] at hlt; simp at hlt)
            have HC := hide ((unhide HK2).cell (row_cell (unhide HR2) (j := k) (by omega)) (by simp))
            have HD := hide ((unhide HB2).cell (j := k) (by omega))
            have HF : Hid (wr.frozen? ⟨w.heap.size, k, none⟩ = false) := (unhide HB2).free
            have hv := hsb k
            have hu := hbs2 k
            have hxor := bits_xor_u8 hv hu
            go_wp2_with fail
            refine wp_region_noPanic ?_
            refine wp_region_held_drew (S := fun W' => Kp [w.heap.size] wr W') (by kernel_rfl) ((Kp.refl _ _).drew) (fun hHeld => ?_)
            have HH := hide hHeld
            clear hHeld
            refine takeL (i := 0) (v := ?_) rfl (by kernel_rfl) (by kernel_rfl) (by kernel_rfl) (fun _ _ _ h => h) (Or.inl ⟨by rfl, ?_⟩) (unhide HH) ?_
            rotate_left 1
            · intro W hSW; go_simp; all_goals (with_reducible rfl)
            (try simp only [Act.put, List.setIfInBounds_toArray, List.set_cons_zero, List.set_cons_succ])
            refine takeL (i := 1) (v := ?_) rfl (by kernel_rfl) (by kernel_rfl) (by kernel_rfl) (fun _ _ _ h => h) (Or.inl ⟨by rfl, ?_⟩) (unhide HH) ?_
            rotate_left 1
            · intro W hSW; go_simp; all_goals (with_reducible rfl)
            (try simp only [Act.put, List.setIfInBounds_toArray, List.set_cons_zero, List.set_cons_succ])
            refine takeL (i := 2) (v := ?_) rfl (by kernel_rfl) (by kernel_rfl) (by kernel_rfl) (fun _ _ _ h => h) (Or.inl ⟨by rfl, ?_⟩) (unhide HH) ?_
            rotate_left 1
            · intro W hSW; go_simp; all_goals (with_reducible rfl)
            (try simp only [Act.put, List.setIfInBounds_toArray, List.set_cons_zero, List.set_cons_succ])
            refine takeL (i := 3) (v := ?_) rfl (by kernel_rfl) (by kernel_rfl) (by kernel_rfl) (fun _ _ _ h => h) (Or.inl ⟨by rfl, ?_⟩) (unhide HH) ?_
            rotate_left 1
            · intro W hSW; go_simp; all_goals (with_reducible rfl)
            (try simp only [Act.put, List.setIfInBounds_toArray, List.set_cons_zero, List.set_cons_succ])
            refine takeL (i := 4) (v := ?_) rfl (by kernel_rfl) (by kernel_rfl) (by kernel_rfl) (fun _ _ _ h => h) (Or.inl ⟨by rfl, ?_⟩) (unhide HH) ?_
            rotate_left 1
            · intro W hSW; go_simp; all_goals (with_reducible rfl)
            (try simp only [Act.put, List.setIfInBounds_toArray, List.set_cons_zero, List.set_cons_succ])
            refine takeL (i := 6) (v := ?_) rfl (by kernel_rfl) (by kernel_rfl) (by kernel_rfl) (fun _ _ _ h => h) (Or.inl ⟨by rfl, ?_⟩) (unhide HH) ?_
            rotate_left 1
            · intro W hSW; go_simp; all_goals (with_reducible rfl)
            (try simp only [Act.put, List.setIfInBounds_toArray, List.set_cons_zero, List.set_cons_succ])
            refine takeL (i := 7) (v := ?_) rfl (by kernel_rfl) (by kernel_rfl) (by kernel_rfl) (fun _ _ _ h => h) (Or.inl ⟨by rfl, ?_⟩) (unhide HH) ?_
            rotate_left 1
            · intro W hSW; go_simp; all_goals (with_reducible rfl)
            (try simp only [Act.put, List.setIfInBounds_toArray, List.set_cons_zero, List.set_cons_succ])
            refine takeL (i := 8) (v := ?_) rfl (by kernel_rfl) (by kernel_rfl) (by kernel_rfl) (fun _ _ _ h => h) (Or.inl ⟨by rfl, ?_⟩) (unhide HH) ?_
            rotate_left 1
            · intro W hSW; go_simp; all_goals (with_reducible rfl)
            (try simp only [Act.put, List.setIfInBounds_toArray, List.set_cons_zero, List.set_cons_succ])
            refine takeL (i := 9) (v := ?_) rfl (by kernel_rfl) (by kernel_rfl) (by kernel_rfl) (fun _ _ _ h => h) (Or.inl ⟨by rfl, ?_⟩) (unhide HH) ?_
            rotate_left 1
            · intro W1 hSW; have hc := hSW.cell (unhide HC) (by simp; omega); clear hSW; go_simp; all_goals (with_reducible rfl)
            (try simp only [Act.put, List.setIfInBounds_toArray, List.set_cons_zero, List.set_cons_succ])
            refine wpAnyH_ready (rs := [5]) (by kernel_rfl) (by simp) ?_
            refine consL rfl (fun K hK => ?_) AllReadyH.nil
            have hd : wr.drew.cell? ⟨w.heap.size, k, none⟩ = _ := unhide HD
            go_simp
            refine hK.out _ _ (unhide HH) (fun hHeld => ?_)
            clear hK K HH
            have HH := hide hHeld
            clear hHeld
            (try simp only [Act.put, List.setIfInBounds_toArray, List.set_cons_zero, List.set_cons_succ])
            clear hd
            refine takeL (i := 10) (v := ?_) rfl (by kernel_rfl) (by kernel_rfl) (by kernel_rfl) (fun _ _ _ h => h) (Or.inl ⟨by rfl, ?_⟩) (unhide HH) ?_
            rotate_left 1
            · intro W hSW; go_simp; all_goals (with_reducible rfl)
            (try simp only [Act.put, List.setIfInBounds_toArray, List.set_cons_zero, List.set_cons_succ])
            refine takeL (i := 11) (v := ?_) rfl (by kernel_rfl) (by kernel_rfl) (by kernel_rfl) (fun _ _ _ h => h) (Or.inl ⟨by rfl, ?_⟩) (unhide HH) ?_
            rotate_left 1
            · intro W hSW; go_simp; all_goals (with_reducible rfl)
            (try simp only [Act.put, List.setIfInBounds_toArray, List.set_cons_zero, List.set_cons_succ])
            refine wpAnyH_ready (rs := [12]) (by kernel_rfl) (by simp) ?_
            refine consL rfl (fun K hK => ?_) AllReadyH.nil
            have hd : wr.drew.cell? ⟨w.heap.size, k, none⟩ = _ := unhide HD
            have hf : wr.drew.frozen? ⟨w.heap.size, k, none⟩ = false := unhide HF
            go_simp
            refine hK.out _ _ (((Kp.refl _ wr).setCell ⟨w.heap.size, k, none⟩ _ (.inl (by simp))).drew) (fun hHeld => ?_)
            clear hHeld hK K HH hd hf
            (try simp only [Act.put, List.setIfInBounds_toArray, List.set_cons_zero, List.set_cons_succ])
            refine wpAnyH_done (by kernel_rfl) ?_ _
            refine NoPanic.normal ?_
            go_wp2
            go_roundw
            case rel =>
              refine ⟨k + 1, s2.set k (cf s2 k ^^^ cf b k), by go_num, by omega, by simp [hsl], ?_, ?_, ((unhide HB2).set k _ (by omega)).of rfl, ((unhide HK2).setCell _ _ (.inr (Nat.le_refl _))).drew⟩
              · intro j; rw [cf_set _ _ _ _ (by omega)]; split
                · exact xor_lt hv hu
                · exact hsb j
              · intro j
                rw [cf_set _ _ _ _ (by omega)]
                by_cases e : j = k
                · rw [if_pos e, if_pos (by omega), e, unhide HSC3, if_neg (by omega), Nat.xor_zero]
                · rw [if_neg e, unhide HSC3]
                  by_cases e2 : j < k
                  · rw [if_pos e2, if_pos (by omega)]
                  · rw [if_neg e2, if_neg (by omega)]
            case measure => simp [intOf]; omega
          · have hk1 : (b.length : Int) ≤ (k : Int) := by omega
            have HE : Hid (trim s2 = trim (padd a b)) := trim_congr (fun j => by
              rw [cf_padd, unhide HSC3]
              split
              · rfl
              · rw [cf_ge (p := b) (by omega)])
            have HA2 : Hid (Arg wr (.slice (some ⟨w.heap.size, 0, none⟩) a.length a.length) w.heap.size s2) := by
              refine ⟨⟨some ⟨w.heap.size, 0, none⟩, a.length, by rw [hsl], by rw [hsl]; exact Nat.le_refl _, by unfold maxLen; omega, fun h => by simp at h, ?_⟩, hsb⟩
              have h := (unhide HB2).row (o := 0) (n := a.length)
              rw [List.drop_zero, List.take_of_length_le (by rw [hsl]; exact Nat.le_refl _)] at h
              exact h
            go_wp2_with fail
            refine (rtrim_any _ w.heap.size s2 wr (unhide HA2) (by omega)).mono ?_
            rintro e w3 ⟨v3, rfl, hF3, hk3⟩
            rw [unhide HE] at hF3
            have HF3 := hide hF3
            have HK3 := hide hk3
            clear hF3 hk3
            go_wp2
            go_ret
            have hz := (unhide HK2).size
            refine ⟨_, rfl, ?_, ((unhide HK2).ofBelow (unhide HK3)).below⟩
            rcases unhide HF3 with h | ⟨g3, c3, k1, k2, k3, k4, k5⟩
            · exact .inl h
            · exact .inr ⟨g3, c3, k1, k2, k3, k4, by omega⟩

end Go.Proofs.Ytibmfblppjcenaa
