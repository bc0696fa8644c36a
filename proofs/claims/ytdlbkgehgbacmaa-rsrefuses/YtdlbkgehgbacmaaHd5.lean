/-
  The laws' own within and Data.
-/
import Derived.Test.YtdlbkgehgbacmaaBa
namespace Go.Proofs.Ytdlbkgehgbacmaa
open Go.RowKit

theorem within4_any (a n : Int) (w : World) (hn : 0 < n) (hn2 : n < 100000) :
    Calls Try.prog 28 #[.int .i64 a, .int .i64 n] w fun e w' => e = .returned (.int .i64 (a % n)) ∧ w' = w := by
  obtain ⟨h1, h2, h3, h4⟩ := tmod_emod a n hn
  have H1 := hide h1
  have H2 := hide h2
  clear h1 h2
  go_enter Try.func28, Try.ntmps28
  go_wp2
  · have h5 : a.tmod n < 0 := by assumption
    go_ret
    exact ⟨by rw [← unhide H1 h5]; rfl, rfl⟩
  · have h5 : 0 ≤ a.tmod n := by assumption
    go_ret
    exact ⟨by rw [← unhide H2 h5]; rfl, rfl⟩

theorem within_any (a n : Int) (w : World) (hn : 0 < n) (hn2 : n < 100000) :
    Calls Try.prog 12 #[.int .i64 a, .int .i64 n] w fun e w' => e = .returned (.int .i64 (a % n)) ∧ w' = w := by
  obtain ⟨h1, h2, h3, h4⟩ := tmod_emod a n hn
  have H1 := hide h1
  have H2 := hide h2
  clear h1 h2
  go_enter Try.func12, Try.ntmps12
  go_wp2
  · have h5 : a.tmod n < 0 := by assumption
    go_ret
    exact ⟨by rw [← unhide H1 h5]; rfl, rfl⟩
  · have h5 : 0 ≤ a.tmod n := by assumption
    go_ret
    exact ⟨by rw [← unhide H2 h5]; rfl, rfl⟩

set_option maxRecDepth 100000 in
set_option maxHeartbeats 4000000 in
theorem data_any (v : Value) (g : Nat) (b : List Nat) (n : Nat) (hn : n ≤ 1000) (w : World) (hA : Arg w v g b) :
    Calls Try.prog 23 #[v, .int .i64 (n : Int)] w fun e w' => ∃ d, e = .returned (.slice (some ⟨w.heap.size, 0, none⟩) n n) ∧ d.length = n ∧ Bs d ∧ Blk w' w.heap.size d ∧ Below w.heap.size w w' := by
  obtain ⟨⟨ao, c, rfl, hc1, hc2, hnil, hr⟩, hbs⟩ := hA
  have HR := hide hr
  clear hr hnil
  have hmk := run_zeros n (by omega)
  have HZ := hide (blk_zeros n w)
  have HK1 : Hid (Kp [] w (w.alloc (.cells (List.replicate n (Value.int .u8 0)).toArray 5))) := (Kp.refl [] w).alloc _
  obtain ⟨L, hL⟩ : ∃ L, b.length = L := ⟨_, rfl⟩
  rw [hL] at hc1 ⊢
  have HL := hide hL
  clear hL
  have hLm : (L : Int) ≤ 9223372036854775807 := by unfold maxLen at hc2; omega
  go_enter Try.func23, Try.ntmps23
  go_wp2_with fail
  clear hmk
  go_loopw [6] (fun p wr => ∃ (i : Nat) (s : List Nat), p = .int .i64 i ∧ i ≤ n ∧ s.length = n ∧ Bs s ∧ Blk wr w.heap.size s ∧ Kp [] w wr) (fun p _ => n - (intOf p).toNat)
  case atStart => exact ⟨0, _, rfl, by omega, by simp, Bs.zeros _, unhide HZ, unhide HK1⟩
  case round =>
    obtain ⟨i, s, rfl, hi, hsl, hsb, hB, hK⟩ := hrel
    have HB := hide hB
    have HK := hide hK
    have HSB := hide hsb
    clear hB hK hsb
    by_cases hlt : i < n
    · have hi1 : (i : Int) < (n : Int) := by omega
      by_cases hL0 : 0 < L
      · have hL1 : (0 : Int) < (L : Int) := by omega
        have hL2 : ¬ (L : Int) = 0 := by omega
        have hL3 : ¬ L = 0 := by omega
        obtain ⟨o, rfl⟩ := row_some (unhide HR) (by rw [unhide HL]; exact hL0)
        obtain ⟨m, hm⟩ : ∃ m, i % L = m := ⟨_, rfl⟩
        obtain ⟨q, hq⟩ : ∃ q, i / L = q := ⟨_, rfl⟩
        have hmL : m < L := by rw [← hm]; exact Nat.mod_lt _ hL0
        have hqi : q ≤ i := by rw [← hq]; exact Nat.div_le_self _ _
        have q1 : (i : Int).tmod (L : Int) = (m : Int) := by rw [Int.tmod_eq_emod_of_nonneg (by omega), ← hm]; simp
        have q2 : (i : Int).tdiv (L : Int) = (q : Int) := by rw [Int.tdiv_eq_ediv_of_nonneg (by omega), ← hq]; simp
        have q2' : (i : Int) / (L : Int) = (q : Int) := by rw [← hq]; simp
        have q1' : (i : Int) % (L : Int) = (m : Int) := by rw [← hm]; simp
        have q3 : IntKind.i64.wrap (q : Int) = (q : Int) := IntWalk.i64_in _ ⟨by omega, by omega⟩
        obtain ⟨r, hr8⟩ : ∃ r, q % 256 = r := ⟨_, rfl⟩
        have q4 : IntKind.u8.wrap (q : Int) = (r : Int) := by rw [wrap_u8]; omega
        have hr9 : r < 256 := by omega
        clear hr8
        have hm1 : (m : Int) < (L : Int) := by omega
        have hcm := row_cell (unhide HR) (j := m) (by rw [unhide HL]; exact hmL)
        have hgl := block_lt_of_cell hcm
        dsimp only at hgl
        have HC := hide ((unhide HK).cell hcm (by simp))
        have hcx := hbs m
        obtain ⟨x, hx⟩ : ∃ x, cf b m = x := ⟨_, rfl⟩
        rw [hx] at HC hcx
        have q5 : IntKind.u8.wrap ((x : Int) + (r : Int)) = (((x + r) % 256 : Nat) : Int) := by rw [wrap_u8]; omega
        clear hm hq hcm hx
        go_wp2_with fail
        refine wp_region_noPanic ?_
        refine wp_region_held_drew (S := fun W => Kp [w.heap.size] wr W) (by kernel_rfl) ((Kp.refl _ _).drew) (fun hHeld => ?_)
        have HH := hide hHeld
        clear hHeld
        refine takeL (i := 0) (v := ?_) rfl (by kernel_rfl) (by kernel_rfl) (by kernel_rfl) (fun _ _ _ h => h) (Or.inl ⟨by rfl, ?_⟩) (unhide HH) ?_
        rotate_left 1
        · intro W hSW; go_simp; all_goals (with_reducible rfl)
        (try simp only [Act.put, List.setIfInBounds_toArray, List.set_cons_zero, List.set_cons_succ])
        refine takeL (i := 1) (v := ?_) rfl (by kernel_rfl) (by kernel_rfl) (by kernel_rfl) (fun _ _ _ h => h) (Or.inl ⟨by rfl, ?_⟩) (unhide HH) ?_
        rotate_left 1
        · intro W hSW; go_simp; all_goals (with_reducible rfl)
        (try simp only [Act.put, List.setIfInBounds_toArray, List.set_cons_zero, List.set_cons_succ])
        refine takeL (i := 2) (v := ?_) rfl (by kernel_rfl) (by kernel_rfl) (by kernel_rfl) (fun _ _ _ h => h) (Or.inl ⟨by rfl, ?_⟩) (unhide HH) ?_
        rotate_left 1
        · intro W hSW; go_simp; all_goals (with_reducible rfl)
        (try simp only [Act.put, List.setIfInBounds_toArray, List.set_cons_zero, List.set_cons_succ])
        refine takeL (i := 3) (v := ?_) rfl (by kernel_rfl) (by kernel_rfl) (by kernel_rfl) (fun _ _ _ h => h) (Or.inl ⟨by rfl, ?_⟩) (unhide HH) ?_
        rotate_left 1
        · intro W hSW; go_simp; all_goals (with_reducible rfl)
        (try simp only [Act.put, List.setIfInBounds_toArray, List.set_cons_zero, List.set_cons_succ])
        refine takeL (i := 4) (v := ?_) rfl (by kernel_rfl) (by kernel_rfl) (by kernel_rfl) (fun _ _ _ h => h) (Or.inl ⟨by rfl, ?_⟩) (unhide HH) ?_
        rotate_left 1
        · intro W hSW; go_simp; all_goals (with_reducible rfl)
        (try simp only [Act.put, List.setIfInBounds_toArray, List.set_cons_zero, List.set_cons_succ])
        refine takeL (i := 5) (v := ?_) rfl (by kernel_rfl) (by kernel_rfl) (by kernel_rfl) (fun _ _ _ h => h) (Or.inl ⟨by rfl, ?_⟩) (unhide HH) ?_
        rotate_left 1
        · intro W hSW; go_simp; all_goals (with_reducible rfl)
        (try simp only [Act.put, List.setIfInBounds_toArray, List.set_cons_zero, List.set_cons_succ])
        refine takeL (i := 6) (v := ?_) rfl (by kernel_rfl) (by kernel_rfl) (by kernel_rfl) (fun _ _ _ h => h) (Or.inl ⟨by rfl, ?_⟩) (unhide HH) ?_
        rotate_left 1
        · intro W hSW; go_simp; all_goals (with_reducible rfl)
        (try simp only [Act.put, List.setIfInBounds_toArray, List.set_cons_zero, List.set_cons_succ])
        refine takeL (i := 7) (v := ?_) rfl (by kernel_rfl) (by kernel_rfl) (by kernel_rfl) (fun _ _ _ h => h) (Or.inl ⟨by rfl, ?_⟩) (unhide HH) ?_
        rotate_left 1
        · intro W hSW; go_simp; all_goals (with_reducible rfl)
        (try simp only [Act.put, List.setIfInBounds_toArray, List.set_cons_zero, List.set_cons_succ])
        refine takeL (i := 8) (v := ?_) rfl (by kernel_rfl) (by kernel_rfl) (by kernel_rfl) (fun _ _ _ h => h) (Or.inl ⟨by rfl, ?_⟩) (unhide HH) ?_
        rotate_left 1
        · intro W1 hSW; have hc := hSW.cell (unhide HC) (by simp; omega); clear hSW; go_simp; all_goals (with_reducible rfl)
        (try simp only [Act.put, List.setIfInBounds_toArray, List.set_cons_zero, List.set_cons_succ])
        refine takeL (i := 9) (v := ?_) rfl (by kernel_rfl) (by kernel_rfl) (by kernel_rfl) (fun _ _ _ h => h) (Or.inl ⟨by rfl, ?_⟩) (unhide HH) ?_
        rotate_left 1
        · intro W hSW; go_simp; all_goals (with_reducible rfl)
        (try simp only [Act.put, List.setIfInBounds_toArray, List.set_cons_zero, List.set_cons_succ])
        refine takeL (i := 10) (v := ?_) rfl (by kernel_rfl) (by kernel_rfl) (by kernel_rfl) (fun _ _ _ h => h) (Or.inl ⟨by rfl, ?_⟩) (unhide HH) ?_
        rotate_left 1
        · intro W hSW; go_simp; all_goals (with_reducible rfl)
        (try simp only [Act.put, List.setIfInBounds_toArray, List.set_cons_zero, List.set_cons_succ])
        refine takeL (i := 11) (v := ?_) rfl (by kernel_rfl) (by kernel_rfl) (by kernel_rfl) (fun _ _ _ h => h) (Or.inl ⟨by rfl, ?_⟩) (unhide HH) ?_
        rotate_left 1
        · intro W hSW; go_simp; all_goals (with_reducible rfl)
        (try simp only [Act.put, List.setIfInBounds_toArray, List.set_cons_zero, List.set_cons_succ])
        refine takeL (i := 12) (v := ?_) rfl (by kernel_rfl) (by kernel_rfl) (by kernel_rfl) (fun _ _ _ h => h) (Or.inl ⟨by rfl, ?_⟩) (unhide HH) ?_
        rotate_left 1
        · intro W hSW; go_simp; all_goals (with_reducible rfl)
        (try simp only [Act.put, List.setIfInBounds_toArray, List.set_cons_zero, List.set_cons_succ])
        refine takeL (i := 13) (v := ?_) rfl (by kernel_rfl) (by kernel_rfl) (by kernel_rfl) (fun _ _ _ h => h) (Or.inl ⟨by rfl, ?_⟩) (unhide HH) ?_
        rotate_left 1
        · intro W hSW; go_simp; all_goals (with_reducible rfl)
        (try simp only [Act.put, List.setIfInBounds_toArray, List.set_cons_zero, List.set_cons_succ])
        refine takeL (i := 14) (v := ?_) rfl (by kernel_rfl) (by kernel_rfl) (by kernel_rfl) (fun _ _ _ h => h) (Or.inl ⟨by rfl, ?_⟩) (unhide HH) ?_
        rotate_left 1
        · intro W hSW; go_simp; all_goals (with_reducible rfl)
        (try simp only [Act.put, List.setIfInBounds_toArray, List.set_cons_zero, List.set_cons_succ])
        refine takeL (i := 15) (v := ?_) rfl (by kernel_rfl) (by kernel_rfl) (by kernel_rfl) (fun _ _ _ h => h) (Or.inl ⟨by rfl, ?_⟩) (unhide HH) ?_
        rotate_left 1
        · intro W hSW; go_simp; all_goals (with_reducible rfl)
        (try simp only [Act.put, List.setIfInBounds_toArray, List.set_cons_zero, List.set_cons_succ])
        refine wpAnyH_ready (rs := [16]) (by kernel_rfl) (by simp) ?_
        refine consL rfl (fun K hK => ?_) AllReadyH.nil
        have hc4 := ((unhide HB).of (w' := wr.drew) rfl).cell (j := i) (by omega)
        have hf4 := ((unhide HB).of (w' := wr.drew) rfl).free (j := i)
        have HH2 := HH
        go_simp
        refine hK.out _ _ ((unhide HH2).setCell ⟨w.heap.size, i, none⟩ _ (.inl (by simp))) (fun hHeld => ?_)
        clear hHeld hK K hc4 hf4
        (try simp only [Act.put, List.setIfInBounds_toArray, List.set_cons_zero, List.set_cons_succ])
        refine wpAnyH_done (by kernel_rfl) ?_ _
        refine NoPanic.normal ?_
        go_wp2_with fail
        go_roundw
        case rel =>
          refine ⟨i + 1, s.set i ((x + r) % 256), by go_num, by omega, by simp [hsl], ?_, ?_, ?_⟩
          · intro j
            rw [cf_set _ _ _ _ (by omega)]
            split
            · omega
            · exact unhide HSB j
          · exact ((unhide HB).of (w' := wr.drew) rfl).set i _ (by omega)
          · exact (unhide HK).drew.setCell _ _ (.inr (Nat.le_refl _))
        case measure => simp [intOf]; omega
      · have hL2 : L = 0 := by omega
        subst hL2
        go_wp2
        go_ret
        exact ⟨s, rfl, hsl, unhide HSB, unhide HB, (unhide HK).below⟩
    · have hi2 : i = n := by omega
      subst hi2
      go_wp2
      go_ret
      exact ⟨s, rfl, hsl, unhide HSB, unhide HB, (unhide HK).below⟩

end Go.Proofs.Ytdlbkgehgbacmaa
