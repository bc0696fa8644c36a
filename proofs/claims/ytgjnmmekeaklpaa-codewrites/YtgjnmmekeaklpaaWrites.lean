/-
  The walk of CodeWrites.
-/
import Derived.Test.YtgjnmmekeaklpaaByte
import Derived.Test.YtgjnmmekeaklpaaWr
namespace Go.Proofs.Ytgjnmmekeaklpaa
open Go.RowKit
attribute [local go_sem ↓] Go.wp_at_zero Go.wp_at_succ

set_option maxRecDepth 100000 in
set_option maxHeartbeats 8000000 in
theorem writes_walk (a : Option Addr) (g len cap : Nat) (zs : List Int) (n m : Int) (w : World) (hl : zs.length = len) (hr : Row w a g zs) (hnil : a = none → len = 0 ∧ cap = 0) :
    Calls Try.prog 3 #[.slice a len cap, .int .i64 n, .int .i64 m] w fun x w' => x = .returned (.bool true) ∧ Below w.heap.size w w' := by
  have HR := hide hr
  have HL := hide hl
  have HNL := hide hnil
  clear hr hl hnil
  by_cases h100 : 100 < len
  · go_enter Try.func3, Try.ntmps3
    go_wp2_with fail
    refine (known_any w).mono ?_
    rintro x w1 ⟨rfl, hk1⟩
    have HK1 := hide hk1
    clear hk1
    go_wp2
    go_ret
    exact ⟨rfl, (unhide HK1).below⟩
  · go_enter Try.func3, Try.ntmps3
    go_wp2_with fail
    refine (known_any w).mono ?_
    rintro x w1 ⟨rfl, hk1⟩
    have HR1 := hide ((unhide HR).keep hk1 (by simp))
    have HK1 := hide hk1
    clear hk1
    obtain ⟨i0, hi0, hz0, hz1, hz2⟩ := info_parts infoE
    have hw1 := (unhide HK1).size
    have HR2 := hide (show Row (w1.alloc (.cells #[] 5)) a g zs from (unhide HR1).keep ((Kp.refl [] _).alloc _) (by simp))
    have HO2 := hide (World.ownsRow_lit (base := w1.heap.size) (e := 5) (size := 1) w1 #[] 0 (Nat.le_refl _) (by unfold maxLen; omega) rfl)
    go_wp2_with (at_builtin; refine wpList_append_row _ rfl _ _ 22 rfl w1.heap.size 5 i0 Try.underlying22 hi0 hz0 hz1 hz2 (.slice (some ⟨w1.heap.size, 0, none⟩) 0 0) 0 [] rfl (unhide HO2) a g len cap zs rfl (unhide HL) (unhide HR2) (unhide HNL) (by omega) (by simp) ?_)
    intro v3 w3 ho3 hg3 hv3
    obtain ⟨q3, c3, rfl, hq3, hq3'⟩ := owns_shape ho3 hv3
    have hk3 : Kp [] w w3 := ((unhide HK1).alloc _).grown hg3 (by intro k hk; cases hk; exact .inr hw1)
    have hz3 := hk3.size
    have HR3 := hide (row_of_owns ho3)
    have HA3 := hide ((unhide HR).keep hk3 (by simp))
    have HK3 := hide hk3
    clear ho3 hg3 hv3 hk3 HO2 HR2 HR1
    have HRc : Hid (∀ W, Kp [] w3 W → Row W (some ⟨q3, 0, none⟩) q3 zs) := fun W hW => (unhide HR3).keep hW (by simp)
    have HRa : Hid (∀ W, Kp [] w3 W → Row W a g zs) := fun W hW => (unhide HA3).keep hW (by simp)
    obtain ⟨X8, hX8⟩ : ∃ X, zs ++ by8 8 (IntKind.u64.wrap n) = X := ⟨_, rfl⟩
    have HX8 := hide hX8
    have HL8 : Hid (X8.length = len + 8) := by show _ = _; rw [← hX8, List.length_append, by8_length, unhide HL]
    obtain ⟨X1, hX1⟩ : ∃ X, zs ++ by8 1 (IntKind.u64.wrap m) = X := ⟨_, rfl⟩
    have HX1 := hide hX1
    have HL1 : Hid (X1.length = len + 1) := by show _ = _; rw [← hX1, List.length_append, by8_length, unhide HL]
    have HM1 : Hid (zs ++ [m % 256] = X1) := by
      show _ = _
      rw [← hX1]
      simp only [by8]
      rw [IntKind.wrap_u64]
      congr 2
      omega
    clear hX8 hX1
    go_wp2_with fail
    refine wp_region_noPanic ?_
    refine wp_region_held_drew (S := fun W => Kp [] w3 W) (by kernel_rfl) ?_ (fun hHeld => ?_)
    · exact (Kp.refl _ _).drew
    have HH := hide hHeld
    clear hHeld
    refine takeL (i := 0) (v := ?_) rfl (by kernel_rfl) (by kernel_rfl) (by kernel_rfl) (fun _ _ _ h => h) (Or.inl ⟨by rfl, ?_⟩) (unhide HH) ?_
    rotate_left 1
    · intro W hSW; go_simp; all_goals (with_reducible rfl)
    (try simp only [Act.put, List.setIfInBounds_toArray, List.set_cons_zero, List.set_cons_succ])
    refine takeL (i := 1) (v := ?_) rfl (by kernel_rfl) (by kernel_rfl) (by kernel_rfl) (fun _ _ _ h => h) (Or.inl ⟨by rfl, ?_⟩) (unhide HH) ?_
    rotate_left 1
    · intro W hSW; go_simp; all_goals (with_reducible rfl)
    (try simp only [Act.put, List.setIfInBounds_toArray, List.set_cons_zero, List.set_cons_succ])
    refine takeL (i := 5) (v := ?_) rfl (by kernel_rfl) (by kernel_rfl) (by kernel_rfl) (fun _ _ _ h => h) (Or.inl ⟨by rfl, ?_⟩) (unhide HH) ?_
    rotate_left 1
    · intro W hSW; go_simp; all_goals (with_reducible rfl)
    (try simp only [Act.put, List.setIfInBounds_toArray, List.set_cons_zero, List.set_cons_succ])
    refine takeL (i := 7) (v := ?_) rfl (by kernel_rfl) (by kernel_rfl) (by kernel_rfl) (fun _ _ _ h => h) (Or.inl ⟨by rfl, ?_⟩) (unhide HH) ?_
    rotate_left 1
    · intro W hSW; go_simp; all_goals (with_reducible rfl)
    (try simp only [Act.put, List.setIfInBounds_toArray, List.set_cons_zero, List.set_cons_succ])
    refine wpAnyH_ready (rs := [2, 4]) (by kernel_rfl) (by simp) ?_
    refine consL rfl (fun K hK => ?_) (consL rfl (fun K hK => ?_) AllReadyH.nil)
    focus
      go_simp
      refine (int_any (some ⟨q3, 0, none⟩) q3 len c3 n zs _ (by omega) (unhide HL) (unhide HRc _ (by exact (unhide HH)))).mono ?_
      rintro e w4 ⟨q18, rfl, hq_q18, ho_q18, hk_q18⟩
      rw [unhide HX8] at ho_q18
      have hlt_q18 : q18 < (w4).heap.size := (ho_q18.lt q18 rfl).2
      have hsz_q18 := hk_q18.size
      simp only [World.size_drew] at hq_q18 hsz_q18
      have HRW_q18 := hide (row_of_owns ho_q18)
      clear ho_q18
      go_wp2_with fail
      refine hK.out _ _ (((unhide HH)).trans hk_q18 (by simp)) (fun hHeld => ?_)
      clear hK K HH
      have HH := hide hHeld
      clear hHeld
      (try simp only [Act.put, List.setIfInBounds_toArray, List.set_cons_zero, List.set_cons_succ])
      refine stronger (S' := fun W => (Kp [] w3 W) ∧ W.heap[q18]? = w4.heap[q18]?) (fun W h => h.1) _ _ _ _ ?_
      replace HH := hide (And.intro (unhide HH) (Eq.refl (w4.heap[q18]?)))
      refine takeL (i := 3) (v := ?_) rfl (by kernel_rfl) (by kernel_rfl) (by kernel_rfl) (fun _ _ _ h => h) (Or.inl ⟨by rfl, ?_⟩) (unhide HH) ?_
      rotate_left 1
      · intro W hSW; have hcv := run_conv W (some ⟨q18, 0, none⟩) q18 (len + 8) (len + 8) X8 (unhide HL8) (row_blk (unhide HRW_q18) hSW.2); clear hSW; go_simp; all_goals (with_reducible rfl)
      (try simp only [Act.put, List.setIfInBounds_toArray, List.set_cons_zero, List.set_cons_succ])
      refine wpAnyH_ready (rs := [4]) (by kernel_rfl) (by simp) ?_
      refine consL rfl (fun K hK => ?_) AllReadyH.nil
      rw [if_pos (by rfl)]
      refine wp_build0 (by rfl) ?_
      intro WB1 hob hkb hsb
      have hszb := hkb.size
      obtain ⟨h20, hh20⟩ : ∃ x, x = w4.heap.size := ⟨_, rfl⟩
      rw [← hh20] at hob hsb ⊢
      have HOBx := hide hob
      have hgeh20 : w4.heap.size ≤ h20 := by omega
      clear hob hh20
      have HOB1 := HOBx
      refine hK.out _ _ (⟨((unhide HH).1).trans hkb (by simp), (hkb.at (by first | omega | (simp only [World.size_drew]; omega)) (by simp)).trans (unhide HH).2⟩) (fun hHeld => ?_)
      clear hK K HH
      have HH := hide hHeld
      clear hHeld
      (try simp only [Act.put, List.setIfInBounds_toArray, List.set_cons_zero, List.set_cons_succ])
      refine wpAnyH_ready (rs := [6]) (by kernel_rfl) (by simp) ?_
      refine consL rfl (fun K hK => ?_) AllReadyH.nil
      rw [if_pos (by rfl)]
      refine wp_append_at (.tmp 20) (.tmp 21) (by rfl) h20 h20 a g len cap zs (by rfl) (by rfl) (unhide HOB1) (unhide HL) (unhide HRa _ (by exact (unhide HH).1)) (unhide HNL) (by omega) (by omega) ?_
      intro g22 c22 w5 ho5 hk5 hg5
      have hsz5 := hk5.size
      have hg5' : h20 ≤ g22 ∧ g22 < w5.heap.size := ho5.lt g22 rfl
      have HO5 := hide ho5
      clear ho5
      refine hK.out _ _ (⟨((unhide HH).1).trans hk5 (by simp; omega), (hk5.at (by omega) (by simp; omega)).trans (unhide HH).2⟩) (fun hHeld => ?_)
      clear hK K HH
      have HH := hide hHeld
      clear hHeld
      (try simp only [Act.put, List.setIfInBounds_toArray, List.set_cons_zero, List.set_cons_succ])
      refine wpAnyH_ready (rs := [8]) (by kernel_rfl) (by simp) ?_
      refine consL rfl (fun K hK => ?_) AllReadyH.nil
      go_simp
      refine (xwint (.slice (some ⟨g22, 0, none⟩) len c22) len zs n h20 _ (by exact unhide HO5) (by omega) (by omega)).mono ?_
      rintro e w6 ⟨g24, c24, rfl, ho6, hk6, hg6⟩
      rw [unhide HX8] at ho6
      have hcv6 := run_conv w6 (some ⟨g24, 0, none⟩) g24 (len + 8) c24 X8 (unhide HL8) (row_of_owns ho6)
      simp only [Value.ownBlock, Option.toList] at hk6
      have hsz6 := hk6.size
      clear ho6 hg6
      go_wp2_with fail
      refine hK.out _ _ (⟨((unhide HH).1).trans hk6 (by simp; omega), (hk6.at (by omega) (by simp; omega)).trans (unhide HH).2⟩) (fun hHeld => ?_)
      clear hK K HH
      have HH := hide hHeld
      clear hHeld
      (try simp only [Act.put, List.setIfInBounds_toArray, List.set_cons_zero, List.set_cons_succ])
      refine wpAnyH_ready (rs := [9]) (by kernel_rfl) (by simp) ?_
      refine consL rfl (fun K hK => ?_) AllReadyH.nil
      go_simp
      refine hK.out _ _ ((unhide HH)) (fun hHeld => ?_)
      clear hK K HH
      have HH := hide hHeld
      clear hHeld
      (try simp only [Act.put, List.setIfInBounds_toArray, List.set_cons_zero, List.set_cons_succ])
      clear hcv6
    rotate_left 1
    focus
      rw [if_pos (by rfl)]
      refine wp_build0 (by rfl) ?_
      intro WB1 hob hkb hsb
      simp only [World.size_drew] at hob hsb ⊢
      have hszb := hkb.size
      simp only [World.size_drew] at hszb
      obtain ⟨h20, hh20⟩ : ∃ x, x = w3.heap.size := ⟨_, rfl⟩
      rw [← hh20] at hob hsb ⊢
      have HOBx := hide hob
      have hgeh20 : w3.heap.size ≤ h20 := by omega
      clear hob hh20
      refine hK.out _ _ (((unhide HH)).trans hkb (by simp)) (fun hHeld => ?_)
      clear hK K HH
      have HH := hide hHeld
      clear hHeld
      (try simp only [Act.put, List.setIfInBounds_toArray, List.set_cons_zero, List.set_cons_succ])
      refine wpAnyH_ready (rs := [2]) (by kernel_rfl) (by simp) ?_
      refine consL rfl (fun K hK => ?_) AllReadyH.nil
      go_simp
      refine (int_any (some ⟨q3, 0, none⟩) q3 len c3 n zs _ (by omega) (unhide HL) (unhide HRc _ (by exact (unhide HH)))).mono ?_
      rintro e w4 ⟨q18, rfl, hq_q18, ho_q18, hk_q18⟩
      rw [unhide HX8] at ho_q18
      have hlt_q18 : q18 < (w4).heap.size := (ho_q18.lt q18 rfl).2
      have hsz_q18 := hk_q18.size
      have HRW_q18 := hide (row_of_owns ho_q18)
      clear ho_q18
      have HOB1 := hide (hk_q18.owns (unhide HOBx) (by simp))
      go_wp2_with fail
      refine hK.out _ _ (((unhide HH)).trans hk_q18 (by simp)) (fun hHeld => ?_)
      clear hK K HH
      have HH := hide hHeld
      clear hHeld
      (try simp only [Act.put, List.setIfInBounds_toArray, List.set_cons_zero, List.set_cons_succ])
      refine stronger (S' := fun W => (Kp [] w3 W) ∧ W.heap[q18]? = w4.heap[q18]?) (fun W h => h.1) _ _ _ _ ?_
      replace HH := hide (And.intro (unhide HH) (Eq.refl (w4.heap[q18]?)))
      refine takeL (i := 3) (v := ?_) rfl (by kernel_rfl) (by kernel_rfl) (by kernel_rfl) (fun _ _ _ h => h) (Or.inl ⟨by rfl, ?_⟩) (unhide HH) ?_
      rotate_left 1
      · intro W hSW; have hcv := run_conv W (some ⟨q18, 0, none⟩) q18 (len + 8) (len + 8) X8 (unhide HL8) (row_blk (unhide HRW_q18) hSW.2); clear hSW; go_simp; all_goals (with_reducible rfl)
      (try simp only [Act.put, List.setIfInBounds_toArray, List.set_cons_zero, List.set_cons_succ])
      refine wpAnyH_ready (rs := [6]) (by kernel_rfl) (by simp) ?_
      refine consL rfl (fun K hK => ?_) AllReadyH.nil
      rw [if_pos (by rfl)]
      refine wp_append_at (.tmp 20) (.tmp 21) (by rfl) h20 h20 a g len cap zs (by rfl) (by rfl) (unhide HOB1) (unhide HL) (unhide HRa _ (by exact (unhide HH).1)) (unhide HNL) (by omega) (by omega) ?_
      intro g22 c22 w5 ho5 hk5 hg5
      have hsz5 := hk5.size
      have hg5' : h20 ≤ g22 ∧ g22 < w5.heap.size := ho5.lt g22 rfl
      have HO5 := hide ho5
      clear ho5
      refine hK.out _ _ (⟨((unhide HH).1).trans hk5 (by simp; omega), (hk5.at (by omega) (by simp; omega)).trans (unhide HH).2⟩) (fun hHeld => ?_)
      clear hK K HH
      have HH := hide hHeld
      clear hHeld
      (try simp only [Act.put, List.setIfInBounds_toArray, List.set_cons_zero, List.set_cons_succ])
      refine wpAnyH_ready (rs := [8]) (by kernel_rfl) (by simp) ?_
      refine consL rfl (fun K hK => ?_) AllReadyH.nil
      go_simp
      refine (xwint (.slice (some ⟨g22, 0, none⟩) len c22) len zs n h20 _ (by exact unhide HO5) (by omega) (by omega)).mono ?_
      rintro e w6 ⟨g24, c24, rfl, ho6, hk6, hg6⟩
      rw [unhide HX8] at ho6
      have hcv6 := run_conv w6 (some ⟨g24, 0, none⟩) g24 (len + 8) c24 X8 (unhide HL8) (row_of_owns ho6)
      simp only [Value.ownBlock, Option.toList] at hk6
      have hsz6 := hk6.size
      clear ho6 hg6
      go_wp2_with fail
      refine hK.out _ _ (⟨((unhide HH).1).trans hk6 (by simp; omega), (hk6.at (by omega) (by simp; omega)).trans (unhide HH).2⟩) (fun hHeld => ?_)
      clear hK K HH
      have HH := hide hHeld
      clear hHeld
      (try simp only [Act.put, List.setIfInBounds_toArray, List.set_cons_zero, List.set_cons_succ])
      refine wpAnyH_ready (rs := [9]) (by kernel_rfl) (by simp) ?_
      refine consL rfl (fun K hK => ?_) AllReadyH.nil
      go_simp
      refine hK.out _ _ ((unhide HH)) (fun hHeld => ?_)
      clear hK K HH
      have HH := hide hHeld
      clear hHeld
      (try simp only [Act.put, List.setIfInBounds_toArray, List.set_cons_zero, List.set_cons_succ])
      clear hcv6
    all_goals
      refine takeL (i := 10) (v := ?_) rfl (by kernel_rfl) (by kernel_rfl) (by kernel_rfl) (fun _ _ _ h => h) (Or.inl ⟨by rfl, ?_⟩) (unhide HH) ?_
      rotate_left 1
      · intro W hSW; go_simp; all_goals (with_reducible rfl)
      (try simp only [Act.put, List.setIfInBounds_toArray, List.set_cons_zero, List.set_cons_succ])
      refine takeL (i := 11) (v := ?_) rfl (by kernel_rfl) (by kernel_rfl) (by kernel_rfl) (fun _ _ _ h => h) (Or.inl ⟨by rfl, ?_⟩) (unhide HH) ?_
      rotate_left 1
      · intro W hSW; go_simp; all_goals (with_reducible rfl)
      (try simp only [Act.put, List.setIfInBounds_toArray, List.set_cons_zero, List.set_cons_succ])
      have h18 : q18 < w6.heap.size := by omega
      have h3w6 : w3.heap.size ≤ w6.heap.size := by omega
      clear hk5 hg5 hg5' HO5 hk6 hsz5 hsz6
      refine takeL (i := 12) (v := ?_) rfl (by kernel_rfl) (by kernel_rfl) (by kernel_rfl) (fun _ _ _ h => h) (Or.inl ⟨by rfl, ?_⟩) (unhide HH) ?_
      rotate_left 1
      · intro W hSW; go_simp; all_goals (with_reducible rfl)
      (try simp only [Act.put, List.setIfInBounds_toArray, List.set_cons_zero, List.set_cons_succ])
      refine takeL (i := 13) (v := ?_) rfl (by kernel_rfl) (by kernel_rfl) (by kernel_rfl) (fun _ _ _ h => h) (Or.inl ⟨by rfl, ?_⟩) (unhide HH) ?_
      rotate_left 1
      · intro W hSW; go_simp; all_goals (with_reducible rfl)
      (try simp only [Act.put, List.setIfInBounds_toArray, List.set_cons_zero, List.set_cons_succ])
      refine takeL (i := 17) (v := ?_) rfl (by kernel_rfl) (by kernel_rfl) (by kernel_rfl) (fun _ _ _ h => h) (Or.inl ⟨by rfl, ?_⟩) (unhide HH) ?_
      rotate_left 1
      · intro W hSW; go_simp; all_goals (with_reducible rfl)
      (try simp only [Act.put, List.setIfInBounds_toArray, List.set_cons_zero, List.set_cons_succ])
      refine takeL (i := 19) (v := ?_) rfl (by kernel_rfl) (by kernel_rfl) (by kernel_rfl) (fun _ _ _ h => h) (Or.inl ⟨by rfl, ?_⟩) (unhide HH) ?_
      rotate_left 1
      · intro W hSW; go_simp; all_goals (with_reducible rfl)
      (try simp only [Act.put, List.setIfInBounds_toArray, List.set_cons_zero, List.set_cons_succ])
      refine wpAnyH_ready (rs := [14, 16]) (by kernel_rfl) (by simp) ?_
      refine consL rfl (fun K hK => ?_) (consL rfl (fun K hK => ?_) AllReadyH.nil)
      focus
        go_simp
        refine (byte_any (some ⟨q3, 0, none⟩) q3 len c3 m zs _ (by omega) (unhide HL) (unhide HRc _ (by exact (unhide HH).1))).mono ?_
        rintro e w14 ⟨q30, rfl, hq_q30, ho_q30, hk_q30⟩
        rw [unhide HX1] at ho_q30
        have hlt_q30 : q30 < (w14).heap.size := (ho_q30.lt q30 rfl).2
        have hsz_q30 := hk_q30.size
        have HRW_q30 := hide (row_of_owns ho_q30)
        clear ho_q30
        go_wp2_with fail
        refine hK.out _ _ (⟨((unhide HH).1).trans hk_q30 (by simp), (hk_q30.at (by first | omega | (simp only [World.size_drew]; omega)) (by simp)).trans (unhide HH).2⟩) (fun hHeld => ?_)
        clear hK K HH
        have HH := hide hHeld
        clear hHeld
        (try simp only [Act.put, List.setIfInBounds_toArray, List.set_cons_zero, List.set_cons_succ])
        refine stronger (S' := fun W => ((Kp [] w3 W) ∧ W.heap[q18]? = w4.heap[q18]?) ∧ W.heap[q30]? = w14.heap[q30]?) (fun W h => h.1) _ _ _ _ ?_
        replace HH := hide (And.intro (unhide HH) (Eq.refl (w14.heap[q30]?)))
        refine takeL (i := 15) (v := ?_) rfl (by kernel_rfl) (by kernel_rfl) (by kernel_rfl) (fun _ _ _ h => h) (Or.inl ⟨by rfl, ?_⟩) (unhide HH) ?_
        rotate_left 1
        · intro W hSW; have hcv := run_conv W (some ⟨q30, 0, none⟩) q30 (len + 1) (len + 1) X1 (unhide HL1) (row_blk (unhide HRW_q30) hSW.2); clear hSW; go_simp; all_goals (with_reducible rfl)
        (try simp only [Act.put, List.setIfInBounds_toArray, List.set_cons_zero, List.set_cons_succ])
        refine wpAnyH_ready (rs := [16]) (by kernel_rfl) (by simp) ?_
        refine consL rfl (fun K hK => ?_) AllReadyH.nil
        rw [if_pos (by rfl)]
        refine wp_build0 (by rfl) ?_
        intro WB2 hob hkb hsb
        have hszb := hkb.size
        obtain ⟨h32, hh32⟩ : ∃ x, x = w14.heap.size := ⟨_, rfl⟩
        rw [← hh32] at hob hsb ⊢
        have HOBx := hide hob
        have hgeh32 : w14.heap.size ≤ h32 := by omega
        clear hob hh32
        have HOB2 := HOBx
        refine hK.out _ _ (⟨⟨((unhide HH).1.1).trans hkb (by simp), (hkb.at (by first | omega | (simp only [World.size_drew]; omega)) (by simp)).trans (unhide HH).1.2⟩, (hkb.at (by first | omega | (simp only [World.size_drew]; omega)) (by simp)).trans (unhide HH).2⟩) (fun hHeld => ?_)
        clear hK K HH
        have HH := hide hHeld
        clear hHeld
        (try simp only [Act.put, List.setIfInBounds_toArray, List.set_cons_zero, List.set_cons_succ])
        refine wpAnyH_ready (rs := [18]) (by kernel_rfl) (by simp) ?_
        refine consL rfl (fun K hK => ?_) AllReadyH.nil
        rw [if_pos (by rfl)]
        refine wp_append_at (.tmp 32) (.tmp 33) (by rfl) h32 h32 a g len cap zs (by rfl) (by rfl) (unhide HOB2) (unhide HL) (unhide HRa _ (by exact (unhide HH).1.1)) (unhide HNL) (by omega) (by omega) ?_
        intro g22 c22 w5 ho5 hk5 hg5
        have hsz5 := hk5.size
        have hg5' : h32 ≤ g22 ∧ g22 < w5.heap.size := ho5.lt g22 rfl
        have HO5 := hide ho5
        clear ho5
        refine hK.out _ _ (⟨⟨((unhide HH).1.1).trans hk5 (by simp; omega), (hk5.at (by omega) (by simp; omega)).trans (unhide HH).1.2⟩, (hk5.at (by omega) (by simp; omega)).trans (unhide HH).2⟩) (fun hHeld => ?_)
        clear hK K HH
        have HH := hide hHeld
        clear hHeld
        (try simp only [Act.put, List.setIfInBounds_toArray, List.set_cons_zero, List.set_cons_succ])
        refine wpAnyH_ready (rs := [20]) (by kernel_rfl) (by simp) ?_
        refine consL rfl (fun K hK => ?_) AllReadyH.nil
        go_simp
        refine (xwbyte (.slice (some ⟨g22, 0, none⟩) len c22) len zs m h32 _ (by exact unhide HO5) (by omega) (by omega)).mono ?_
        rintro e w6 ⟨g24, c24, rfl, ho6, hk6, hg6⟩
        rw [unhide HM1] at ho6
        have hcv6 := run_conv w6 (some ⟨g24, 0, none⟩) g24 (len + 1) c24 X1 (unhide HL1) (row_of_owns ho6)
        simp only [Value.ownBlock, Option.toList] at hk6
        have hsz6 := hk6.size
        clear ho6 hg6
        go_wp2_with fail
        refine hK.out _ _ (⟨⟨((unhide HH).1.1).trans hk6 (by simp; omega), (hk6.at (by omega) (by simp; omega)).trans (unhide HH).1.2⟩, (hk6.at (by omega) (by simp; omega)).trans (unhide HH).2⟩) (fun hHeld => ?_)
        clear hK K HH
        have HH := hide hHeld
        clear hHeld
        (try simp only [Act.put, List.setIfInBounds_toArray, List.set_cons_zero, List.set_cons_succ])
        refine wpAnyH_ready (rs := [21]) (by kernel_rfl) (by simp) ?_
        refine consL rfl (fun K hK => ?_) AllReadyH.nil
        go_simp
        refine hK.out _ _ ((unhide HH)) (fun hHeld => ?_)
        clear hK K HH
        have HH := hide hHeld
        clear hHeld
        (try simp only [Act.put, List.setIfInBounds_toArray, List.set_cons_zero, List.set_cons_succ])
        clear hcv6
      rotate_left 1
      focus
        rw [if_pos (by rfl)]
        refine wp_build0 (by rfl) ?_
        intro WB2 hob hkb hsb
        have hszb := hkb.size
        obtain ⟨h32, hh32⟩ : ∃ x, x = w6.heap.size := ⟨_, rfl⟩
        rw [← hh32] at hob hsb ⊢
        have HOBx := hide hob
        have hgeh32 : w6.heap.size ≤ h32 := by omega
        clear hob hh32
        refine hK.out _ _ (⟨((unhide HH).1).trans hkb (by simp), (hkb.at (by first | omega | (simp only [World.size_drew]; omega)) (by simp)).trans (unhide HH).2⟩) (fun hHeld => ?_)
        clear hK K HH
        have HH := hide hHeld
        clear hHeld
        (try simp only [Act.put, List.setIfInBounds_toArray, List.set_cons_zero, List.set_cons_succ])
        refine wpAnyH_ready (rs := [14]) (by kernel_rfl) (by simp) ?_
        refine consL rfl (fun K hK => ?_) AllReadyH.nil
        go_simp
        refine (byte_any (some ⟨q3, 0, none⟩) q3 len c3 m zs _ (by omega) (unhide HL) (unhide HRc _ (by exact (unhide HH).1))).mono ?_
        rintro e w14 ⟨q30, rfl, hq_q30, ho_q30, hk_q30⟩
        rw [unhide HX1] at ho_q30
        have hlt_q30 : q30 < (w14).heap.size := (ho_q30.lt q30 rfl).2
        have hsz_q30 := hk_q30.size
        have HRW_q30 := hide (row_of_owns ho_q30)
        clear ho_q30
        have HOB2 := hide (hk_q30.owns (unhide HOBx) (by simp))
        go_wp2_with fail
        refine hK.out _ _ (⟨((unhide HH).1).trans hk_q30 (by simp), (hk_q30.at (by first | omega | (simp only [World.size_drew]; omega)) (by simp)).trans (unhide HH).2⟩) (fun hHeld => ?_)
        clear hK K HH
        have HH := hide hHeld
        clear hHeld
        (try simp only [Act.put, List.setIfInBounds_toArray, List.set_cons_zero, List.set_cons_succ])
        refine stronger (S' := fun W => ((Kp [] w3 W) ∧ W.heap[q18]? = w4.heap[q18]?) ∧ W.heap[q30]? = w14.heap[q30]?) (fun W h => h.1) _ _ _ _ ?_
        replace HH := hide (And.intro (unhide HH) (Eq.refl (w14.heap[q30]?)))
        refine takeL (i := 15) (v := ?_) rfl (by kernel_rfl) (by kernel_rfl) (by kernel_rfl) (fun _ _ _ h => h) (Or.inl ⟨by rfl, ?_⟩) (unhide HH) ?_
        rotate_left 1
        · intro W hSW; have hcv := run_conv W (some ⟨q30, 0, none⟩) q30 (len + 1) (len + 1) X1 (unhide HL1) (row_blk (unhide HRW_q30) hSW.2); clear hSW; go_simp; all_goals (with_reducible rfl)
        (try simp only [Act.put, List.setIfInBounds_toArray, List.set_cons_zero, List.set_cons_succ])
        refine wpAnyH_ready (rs := [18]) (by kernel_rfl) (by simp) ?_
        refine consL rfl (fun K hK => ?_) AllReadyH.nil
        rw [if_pos (by rfl)]
        refine wp_append_at (.tmp 32) (.tmp 33) (by rfl) h32 h32 a g len cap zs (by rfl) (by rfl) (unhide HOB2) (unhide HL) (unhide HRa _ (by exact (unhide HH).1.1)) (unhide HNL) (by omega) (by omega) ?_
        intro g22 c22 w5 ho5 hk5 hg5
        have hsz5 := hk5.size
        have hg5' : h32 ≤ g22 ∧ g22 < w5.heap.size := ho5.lt g22 rfl
        have HO5 := hide ho5
        clear ho5
        refine hK.out _ _ (⟨⟨((unhide HH).1.1).trans hk5 (by simp; omega), (hk5.at (by omega) (by simp; omega)).trans (unhide HH).1.2⟩, (hk5.at (by omega) (by simp; omega)).trans (unhide HH).2⟩) (fun hHeld => ?_)
        clear hK K HH
        have HH := hide hHeld
        clear hHeld
        (try simp only [Act.put, List.setIfInBounds_toArray, List.set_cons_zero, List.set_cons_succ])
        refine wpAnyH_ready (rs := [20]) (by kernel_rfl) (by simp) ?_
        refine consL rfl (fun K hK => ?_) AllReadyH.nil
        go_simp
        refine (xwbyte (.slice (some ⟨g22, 0, none⟩) len c22) len zs m h32 _ (by exact unhide HO5) (by omega) (by omega)).mono ?_
        rintro e w6 ⟨g24, c24, rfl, ho6, hk6, hg6⟩
        rw [unhide HM1] at ho6
        have hcv6 := run_conv w6 (some ⟨g24, 0, none⟩) g24 (len + 1) c24 X1 (unhide HL1) (row_of_owns ho6)
        simp only [Value.ownBlock, Option.toList] at hk6
        have hsz6 := hk6.size
        clear ho6 hg6
        go_wp2_with fail
        refine hK.out _ _ (⟨⟨((unhide HH).1.1).trans hk6 (by simp; omega), (hk6.at (by omega) (by simp; omega)).trans (unhide HH).1.2⟩, (hk6.at (by omega) (by simp; omega)).trans (unhide HH).2⟩) (fun hHeld => ?_)
        clear hK K HH
        have HH := hide hHeld
        clear hHeld
        (try simp only [Act.put, List.setIfInBounds_toArray, List.set_cons_zero, List.set_cons_succ])
        refine wpAnyH_ready (rs := [21]) (by kernel_rfl) (by simp) ?_
        refine consL rfl (fun K hK => ?_) AllReadyH.nil
        go_simp
        refine hK.out _ _ ((unhide HH)) (fun hHeld => ?_)
        clear hK K HH
        have HH := hide hHeld
        clear hHeld
        (try simp only [Act.put, List.setIfInBounds_toArray, List.set_cons_zero, List.set_cons_succ])
        clear hcv6
      all_goals
        refine takeL (i := 22) (v := ?_) rfl (by kernel_rfl) (by kernel_rfl) (by kernel_rfl) (fun _ _ _ h => h) (Or.inl ⟨by rfl, ?_⟩) (unhide HH) ?_
        rotate_left 1
        · intro W hSW; go_simp; all_goals (with_reducible rfl)
        (try simp only [Act.put, List.setIfInBounds_toArray, List.set_cons_zero, List.set_cons_succ])
        refine takeL (i := 23) (v := ?_) rfl (by kernel_rfl) (by kernel_rfl) (by kernel_rfl) (fun _ _ _ h => h) (Or.inl ⟨by rfl, ?_⟩) (unhide HH) ?_
        rotate_left 1
        · intro W hSW; go_simp; all_goals (with_reducible rfl)
        (try simp only [Act.put, List.setIfInBounds_toArray, List.set_cons_zero, List.set_cons_succ])
        refine takeL (i := 24) (v := ?_) rfl (by kernel_rfl) (by kernel_rfl) (by kernel_rfl) (fun _ _ _ h => h) (Or.inl ⟨by rfl, ?_⟩) (unhide HH) ?_
        rotate_left 1
        · intro W hSW; go_simp; all_goals (with_reducible rfl)
        (try simp only [Act.put, List.setIfInBounds_toArray, List.set_cons_zero, List.set_cons_succ])
        refine takeL (i := 25) (v := ?_) rfl (by kernel_rfl) (by kernel_rfl) (by kernel_rfl) (fun _ _ _ h => h) (Or.inl ⟨by rfl, ?_⟩) (unhide HH) ?_
        rotate_left 1
        · intro W hSW; go_simp; all_goals (with_reducible rfl)
        (try simp only [Act.put, List.setIfInBounds_toArray, List.set_cons_zero, List.set_cons_succ])
        refine takeL (i := 26) (v := ?_) rfl (by kernel_rfl) (by kernel_rfl) (by kernel_rfl) (fun _ _ _ h => h) (Or.inl ⟨by rfl, ?_⟩) (unhide HH) ?_
        rotate_left 1
        · intro W hSW; have hcv := run_conv W (some ⟨q3, 0, none⟩) q3 len c3 zs (unhide HL) (unhide HRc W hSW.1.1); clear hSW; go_simp; all_goals (with_reducible rfl)
        (try simp only [Act.put, List.setIfInBounds_toArray, List.set_cons_zero, List.set_cons_succ])
        refine takeL (i := 27) (v := ?_) rfl (by kernel_rfl) (by kernel_rfl) (by kernel_rfl) (fun _ _ _ h => h) (Or.inl ⟨by rfl, ?_⟩) (unhide HH) ?_
        rotate_left 1
        · intro W hSW; go_simp; all_goals (with_reducible rfl)
        (try simp only [Act.put, List.setIfInBounds_toArray, List.set_cons_zero, List.set_cons_succ])
        refine takeL (i := 28) (v := ?_) rfl (by kernel_rfl) (by kernel_rfl) (by kernel_rfl) (fun _ _ _ h => h) (Or.inl ⟨by rfl, ?_⟩) (unhide HH) ?_
        rotate_left 1
        · intro W hSW; have hcv := run_conv W a g len cap zs (unhide HL) (unhide HRa W hSW.1.1); clear hSW; go_simp; all_goals (with_reducible rfl)
        (try simp only [Act.put, List.setIfInBounds_toArray, List.set_cons_zero, List.set_cons_succ])
        refine takeL (i := 29) (v := ?_) rfl (by kernel_rfl) (by kernel_rfl) (by kernel_rfl) (fun _ _ _ h => h) (Or.inl ⟨by rfl, ?_⟩) (unhide HH) ?_
        rotate_left 1
        · intro W hSW; go_simp; all_goals (with_reducible rfl)
        (try simp only [Act.put, List.setIfInBounds_toArray, List.set_cons_zero, List.set_cons_succ])
        refine takeL (i := 30) (v := ?_) rfl (by kernel_rfl) (by kernel_rfl) (by kernel_rfl) (fun _ _ _ h => h) (Or.inl ⟨by rfl, ?_⟩) (unhide HH) ?_
        rotate_left 1
        · intro W hSW; go_simp; all_goals (with_reducible rfl)
        (try simp only [Act.put, List.setIfInBounds_toArray, List.set_cons_zero, List.set_cons_succ])
        refine takeL (i := 31) (v := ?_) rfl (by kernel_rfl) (by kernel_rfl) (by kernel_rfl) (fun _ _ _ h => h) (Or.inl ⟨by rfl, ?_⟩) (unhide HH) ?_
        rotate_left 1
        · intro W hSW; go_simp; all_goals (with_reducible rfl)
        (try simp only [Act.put, List.setIfInBounds_toArray, List.set_cons_zero, List.set_cons_succ])
        refine wpAnyH_done (by kernel_rfl) ?_ _
        refine NoPanic.normal ?_
        go_wp2
        go_ret
        exact ⟨rfl, ((unhide HK3).trans (unhide HH).1.1 (by simp)).below⟩

end Go.Proofs.Ytgjnmmekeaklpaa
