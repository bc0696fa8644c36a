/-
  The laws' own Good (ramekinlaw10).
-/
import Derived.Test.YtjdikhelabibnaaGreatH10
namespace Go.Proofs.YtjdikhelabibnaaGreat
open Go.RowKit Go.Shelf

set_option maxRecDepth 100000 in
set_option maxHeartbeats 16000000 in
theorem good_any (k l s : Int) (d : List Nat) (hd : d.length = 16) (w : World) : Calls Tryz.prog 29 #[.agg (entA k l s d)] w fun e w' => e = .returned (.agg (entA (gdK k) (gdLb k l) (gdS k s) (gdD k d))) ∧ Below w.heap.size w w' := by
  obtain ⟨W1, hW1, hE, hb1⟩ := EntAt.new w k l s d
  obtain ⟨W, hW, hR, hb2⟩ : ∃ W, W1.alloc (.cells #[.int .i64 0, .int .i64 0, .int .i64 0, .int .u8 0, .int .u8 0, .int .u8 0, .int .u8 0, .int .u8 0, .int .u8 0, .int .u8 0, .int .u8 0, .int .u8 0, .int .u8 0, .int .u8 0, .int .u8 0, .int .u8 0, .int .u8 0, .int .u8 0, .int .u8 0] 44) = W ∧ EntAt W W1.heap.size 0 0 0 zer16 ∧ Below W1.heap.size W1 W := ⟨_, rfl, ⟨World.alloc_heap_new W1 _⟩, (Below.refl _ _).alloc (Nat.le_refl _) _⟩
  have hT := hb1.trans (hb2.mono hb1.size)
  have HT := hide hT
  have HE := hide (hE.below hb2)
  have HR := hide hR
  have c0 := (hE.below hb2).c0
  have hsz := hb1.size
  have HLT : Hid (w.heap.size < W1.heap.size) := hE.lt
  obtain ⟨K, hK, k1, k2⟩ : ∃ r : Int, k % 4 = r ∧ 0 ≤ r ∧ r < 4 := ⟨_, rfl, Int.emod_nonneg _ (by omega), Int.emod_lt_of_pos _ (by omega)⟩
  have HK := hide hK
  have hbt := fun W => build_TE1 K W
  clear hb1 hb2 hE hR hT
  have hgk : Hid (gdK k = K) := hK
  have hgl : Hid (gdLb k l = if K = 1 ∨ K = 2 then l % 100 else 0) := by show _ = _; rw [gdLb, hK]
  have hgs : Hid (gdS k s = if K = 1 ∨ K = 2 then 1 + s % 1000 else 0) := by show _ = _; rw [gdS, hK]
  have hgd : Hid (gdD k d = if K = 1 then d else zer16) := by show _ = _; rw [gdD, hK]
  clear hK
  rw [unhide hgk, unhide hgl, unhide hgs, unhide hgd]
  clear hgk hgl hgs hgd
  rcases (show K = 1 ∨ K = 2 ∨ (K ≠ 1 ∧ K ≠ 2) by omega) with hk | hk | ⟨hk, hk'⟩
  · subst hk
    rw [if_pos (.inl rfl), if_pos (.inl rfl), if_pos rfl]
    obtain ⟨L, hL, l1, l2⟩ : ∃ r : Int, l % 100 = r ∧ 0 ≤ r ∧ r < 100 := ⟨_, rfl, Int.emod_nonneg _ (by omega), Int.emod_lt_of_pos _ (by omega)⟩
    obtain ⟨S, hS, s1, s2⟩ : ∃ r : Int, s % 1000 = r ∧ 0 ≤ r ∧ r < 1000 := ⟨_, rfl, Int.emod_nonneg _ (by omega), Int.emod_lt_of_pos _ (by omega)⟩
    rw [hL, hS]
    have HL := hide hL
    have HS := hide hS
    clear hL hS hbt
    have hbt := fun W => build_TE 1 L (1 + S) d hd W
    go_enter Tryz.func29, Tryz.ntmps29
    go_wp2_with fail
    refine (within10_any k 4 _ (by omega) (by omega)).mono ?_
    rintro e w2 ⟨rfl, hw2⟩
    rw [unhide HK, hw2]
    clear hw2 w2 HK c0 hW hW1
    go_wp2_with fail
    replace HT := hide ((unhide HT).drew)
    replace HE := hide ((unhide HE).below (Below.refl _ _).drew)
    replace HR := hide ((unhide HR).below (Below.refl _ _).drew)
    refine wp_region_noPanic ?_
    refine wp_region_held_drew (S := fun V => Below W1.heap.size W.drew V) (by kernel_rfl) (Below.refl _ _) (fun hHeld => ?_)
    have HH := hide hHeld
    clear hHeld
    have HEB : Hid (w.heap.size < W1.heap.size ∧ W1.heap.size ≤ W.drew.heap.size) := ⟨unhide HLT, Nat.le_of_lt (unhide HR).lt⟩
    generalize W.drew = w5 at HT HE HR HH HEB ⊢
    refine takeL (i := 0) (v := ?_) rfl (by kernel_rfl) (by kernel_rfl) (by kernel_rfl) (fun _ _ _ h => h) (Or.inl ⟨by rfl, ?_⟩) (unhide HH) ?_
    rotate_left 1
    · intro W hSW; go_simp; all_goals (with_reducible rfl)
    (try simp only [Act.put, List.setIfInBounds_toArray, List.set_cons_zero, List.set_cons_succ])
    refine takeL (i := 1) (v := ?_) rfl (by kernel_rfl) (by kernel_rfl) (by kernel_rfl) (fun _ _ _ h => h) (Or.inl ⟨by rfl, ?_⟩) (unhide HH) ?_
    rotate_left 1
    · intro W hSW; go_simp; all_goals (with_reducible rfl)
    (try simp only [Act.put, List.setIfInBounds_toArray, List.set_cons_zero, List.set_cons_succ])
    refine takeL (i := 2) (v := ?_) rfl (by kernel_rfl) (by kernel_rfl) (by kernel_rfl) (fun _ _ _ h => h) (Or.inl ⟨by rfl, ?_⟩) (unhide HH) ?_
    rotate_left 1
    · intro V hSV; have hcl := (hSV.cell (p := ⟨w.heap.size, 1, none⟩) (unhide HEB).1).trans (unhide HE).c1; clear hSV; go_simp; all_goals (with_reducible rfl)
    (try simp only [Act.put, List.setIfInBounds_toArray, List.set_cons_zero, List.set_cons_succ])
    refine takeL (i := 4) (v := ?_) rfl (by kernel_rfl) (by kernel_rfl) (by kernel_rfl) (fun _ _ _ h => h) (Or.inl ⟨by rfl, ?_⟩) (unhide HH) ?_
    rotate_left 1
    · intro W hSW; go_simp; all_goals (with_reducible rfl)
    (try simp only [Act.put, List.setIfInBounds_toArray, List.set_cons_zero, List.set_cons_succ])
    refine takeL (i := 5) (v := ?_) rfl (by kernel_rfl) (by kernel_rfl) (by kernel_rfl) (fun _ _ _ h => h) (Or.inl ⟨by rfl, ?_⟩) (unhide HH) ?_
    rotate_left 1
    · intro V hSV; have hcl := (hSV.cell (p := ⟨w.heap.size, 2, none⟩) (unhide HEB).1).trans (unhide HE).c2; clear hSV; go_simp; all_goals (with_reducible rfl)
    (try simp only [Act.put, List.setIfInBounds_toArray, List.set_cons_zero, List.set_cons_succ])
    refine takeL (i := 8) (v := ?_) rfl (by kernel_rfl) (by kernel_rfl) (by kernel_rfl) (fun _ _ _ h => h) (Or.inl ⟨by rfl, ?_⟩) (unhide HH) ?_
    rotate_left 1
    · intro W hSW; go_simp; all_goals (with_reducible rfl)
    (try simp only [Act.put, List.setIfInBounds_toArray, List.set_cons_zero, List.set_cons_succ])
    refine takeL (i := 9) (v := .agg (datL d).toArray) rfl (by kernel_rfl) (by kernel_rfl) (by kernel_rfl) (fun _ _ _ h => h) (Or.inl ⟨by rfl, fun W1 hSW => run_load_agg9 rfl rfl (EntAt.data ⟨(hSW.block _ (unhide HEB).1).trans (unhide HE).blk⟩ hd)⟩) (unhide HH) ?_
    (try simp only [Act.put, List.setIfInBounds_toArray, List.set_cons_zero, List.set_cons_succ])
    refine wpAnyH_ready (rs := [3]) (by kernel_rfl) (by simp) ?_
    refine consL rfl (fun K hK => ?_) AllReadyH.nil
    go_simp
    refine (within10_any l 100 _ (by omega) (by omega)).mono ?_
    rintro e wq ⟨rfl, hwq⟩
    rw [unhide HL, hwq]
    clear hwq wq
    go_wp2_with fail
    refine hK.out _ _ (unhide HH) (fun hHeld => ?_)
    clear hK K HH
    have HH := hide hHeld
    clear hHeld
    (try simp only [Act.put, List.setIfInBounds_toArray, List.set_cons_zero, List.set_cons_succ])
    refine wpAnyH_ready (rs := [6]) (by kernel_rfl) (by simp) ?_
    refine consL rfl (fun K hK => ?_) AllReadyH.nil
    go_simp
    refine (within10_any s 1000 _ (by omega) (by omega)).mono ?_
    rintro e wq ⟨rfl, hwq⟩
    rw [unhide HS, hwq]
    clear hwq wq
    go_wp2_with fail
    refine hK.out _ _ (unhide HH) (fun hHeld => ?_)
    clear hK K HH
    have HH := hide hHeld
    clear hHeld
    (try simp only [Act.put, List.setIfInBounds_toArray, List.set_cons_zero, List.set_cons_succ])
    refine takeL (i := 7) (v := .int .i64 (1 + S)) rfl (by kernel_rfl) (by kernel_rfl) (by kernel_rfl) (fun _ _ _ h => h) (Or.inl ⟨by rfl, ?_⟩) (unhide HH) ?_
    · intro W hSW; go_simp; rw [IntWalk.i64_in _ ⟨by omega, by omega⟩]
    (try simp only [Act.put, List.setIfInBounds_toArray, List.set_cons_zero, List.set_cons_succ])
    refine takeL (i := 10) (v := .agg (entA 1 L (1 + S) d)) rfl (by kernel_rfl) (by kernel_rfl) (by kernel_rfl) (fun _ _ _ h => h) (Or.inl ⟨by rfl, ?_⟩) (unhide HH) ?_
    · intro W hSW; exact run_build9 rfl (by simp only [List.map_toArray, List.map_cons, List.map_nil]; rfl) (build_TE 1 L (1 + S) d hd W)
    (try simp only [Act.put, List.setIfInBounds_toArray, List.set_cons_zero, List.set_cons_succ])
    refine wpAnyH_ready (rs := [11]) (by kernel_rfl) (by simp) ?_
    refine consL rfl (fun K hK => ?_) AllReadyH.nil
    refine wp_store_mid (P := Tryz.prog) 44 (.tmp 2) (.tmp 22) (by rfl) W1.heap.size 0 (entA 1 L (1 + S) d) (by rfl) (by rfl) ((unhide HR).there zer16_len (entA_size hd)) (by rw [sizeTE, entA_size hd]) (entA_one _ _ _ _) ?_
    have hbs := below10_setCells (n := W1.heap.size) (a := w5) W1.heap.size (entA 1 L (1 + S) d).toList 0 w5 (Below.refl _ _) (Nat.le_refl _)
    have hsl := stored_TE (k' := 1) (l' := L) (s' := 1 + S) (d' := d) (unhide HR) zer16_len hd
    generalize w5.setCells W1.heap.size 0 (entA 1 L (1 + S) d).toList = w6 at hbs hsl ⊢
    have HBS := hide hbs
    have HSL := hide hsl
    clear hsl
    refine hK.out _ _ hbs (fun hHeld => ?_)
    clear hK K HH hbs
    have HH := hide hHeld
    clear hHeld
    refine wpAnyH_done (by kernel_rfl) ?_ _
    refine NoPanic.normal ?_
    go_wp2_with fail
    refine bodyPost_ret (results_cell7 rfl _ _ ⟨W1.heap.size, 0, none⟩ _ rfl (unhide HSL)) rfl ?_
    exact ⟨rfl, (unhide HT).trans ((unhide HBS).mono hsz)⟩
  · subst hk
    rw [if_pos (.inr rfl), if_pos (.inr rfl), if_neg (by omega)]
    obtain ⟨L, hL, l1, l2⟩ : ∃ r : Int, l % 100 = r ∧ 0 ≤ r ∧ r < 100 := ⟨_, rfl, Int.emod_nonneg _ (by omega), Int.emod_lt_of_pos _ (by omega)⟩
    obtain ⟨S, hS, s1, s2⟩ : ∃ r : Int, s % 1000 = r ∧ 0 ≤ r ∧ r < 1000 := ⟨_, rfl, Int.emod_nonneg _ (by omega), Int.emod_lt_of_pos _ (by omega)⟩
    rw [hL, hS]
    have HL := hide hL
    have HS := hide hS
    clear hL hS hbt
    have hbt := fun W => build_TE3 2 L (1 + S) W
    go_enter Tryz.func29, Tryz.ntmps29
    go_wp2_with fail
    refine (within10_any k 4 _ (by omega) (by omega)).mono ?_
    rintro e w2 ⟨rfl, hw2⟩
    rw [unhide HK, hw2]
    clear hw2 w2 HK c0 hW hW1
    go_wp2_with fail
    replace HT := hide ((unhide HT).drew)
    replace HE := hide ((unhide HE).below (Below.refl _ _).drew)
    replace HR := hide ((unhide HR).below (Below.refl _ _).drew)
    refine wp_region_noPanic ?_
    refine wp_region_held_drew (S := fun V => Below W1.heap.size W.drew V) (by kernel_rfl) (Below.refl _ _) (fun hHeld => ?_)
    have HH := hide hHeld
    clear hHeld
    have HEB : Hid (w.heap.size < W1.heap.size ∧ W1.heap.size ≤ W.drew.heap.size) := ⟨unhide HLT, Nat.le_of_lt (unhide HR).lt⟩
    generalize W.drew = w5 at HT HE HR HH HEB ⊢
    refine takeL (i := 0) (v := ?_) rfl (by kernel_rfl) (by kernel_rfl) (by kernel_rfl) (fun _ _ _ h => h) (Or.inl ⟨by rfl, ?_⟩) (unhide HH) ?_
    rotate_left 1
    · intro W hSW; go_simp; all_goals (with_reducible rfl)
    (try simp only [Act.put, List.setIfInBounds_toArray, List.set_cons_zero, List.set_cons_succ])
    refine takeL (i := 1) (v := ?_) rfl (by kernel_rfl) (by kernel_rfl) (by kernel_rfl) (fun _ _ _ h => h) (Or.inl ⟨by rfl, ?_⟩) (unhide HH) ?_
    rotate_left 1
    · intro W hSW; go_simp; all_goals (with_reducible rfl)
    (try simp only [Act.put, List.setIfInBounds_toArray, List.set_cons_zero, List.set_cons_succ])
    refine takeL (i := 2) (v := ?_) rfl (by kernel_rfl) (by kernel_rfl) (by kernel_rfl) (fun _ _ _ h => h) (Or.inl ⟨by rfl, ?_⟩) (unhide HH) ?_
    rotate_left 1
    · intro V hSV; have hcl := (hSV.cell (p := ⟨w.heap.size, 1, none⟩) (unhide HEB).1).trans (unhide HE).c1; clear hSV; go_simp; all_goals (with_reducible rfl)
    (try simp only [Act.put, List.setIfInBounds_toArray, List.set_cons_zero, List.set_cons_succ])
    refine takeL (i := 4) (v := ?_) rfl (by kernel_rfl) (by kernel_rfl) (by kernel_rfl) (fun _ _ _ h => h) (Or.inl ⟨by rfl, ?_⟩) (unhide HH) ?_
    rotate_left 1
    · intro W hSW; go_simp; all_goals (with_reducible rfl)
    (try simp only [Act.put, List.setIfInBounds_toArray, List.set_cons_zero, List.set_cons_succ])
    refine takeL (i := 5) (v := ?_) rfl (by kernel_rfl) (by kernel_rfl) (by kernel_rfl) (fun _ _ _ h => h) (Or.inl ⟨by rfl, ?_⟩) (unhide HH) ?_
    rotate_left 1
    · intro V hSV; have hcl := (hSV.cell (p := ⟨w.heap.size, 2, none⟩) (unhide HEB).1).trans (unhide HE).c2; clear hSV; go_simp; all_goals (with_reducible rfl)
    (try simp only [Act.put, List.setIfInBounds_toArray, List.set_cons_zero, List.set_cons_succ])
    refine wpAnyH_ready (rs := [3]) (by kernel_rfl) (by simp) ?_
    refine consL rfl (fun K hK => ?_) AllReadyH.nil
    go_simp
    refine (within10_any l 100 _ (by omega) (by omega)).mono ?_
    rintro e wq ⟨rfl, hwq⟩
    rw [unhide HL, hwq]
    clear hwq wq
    go_wp2_with fail
    refine hK.out _ _ (unhide HH) (fun hHeld => ?_)
    clear hK K HH
    have HH := hide hHeld
    clear hHeld
    (try simp only [Act.put, List.setIfInBounds_toArray, List.set_cons_zero, List.set_cons_succ])
    refine wpAnyH_ready (rs := [6]) (by kernel_rfl) (by simp) ?_
    refine consL rfl (fun K hK => ?_) AllReadyH.nil
    go_simp
    refine (within10_any s 1000 _ (by omega) (by omega)).mono ?_
    rintro e wq ⟨rfl, hwq⟩
    rw [unhide HS, hwq]
    clear hwq wq
    go_wp2_with fail
    refine hK.out _ _ (unhide HH) (fun hHeld => ?_)
    clear hK K HH
    have HH := hide hHeld
    clear hHeld
    (try simp only [Act.put, List.setIfInBounds_toArray, List.set_cons_zero, List.set_cons_succ])
    refine takeL (i := 7) (v := .int .i64 (1 + S)) rfl (by kernel_rfl) (by kernel_rfl) (by kernel_rfl) (fun _ _ _ h => h) (Or.inl ⟨by rfl, ?_⟩) (unhide HH) ?_
    · intro W hSW; go_simp; rw [IntWalk.i64_in _ ⟨by omega, by omega⟩]
    (try simp only [Act.put, List.setIfInBounds_toArray, List.set_cons_zero, List.set_cons_succ])
    refine takeL (i := 8) (v := .agg (entA 2 L (1 + S) zer16)) rfl (by kernel_rfl) (by kernel_rfl) (by kernel_rfl) (fun _ _ _ h => h) (Or.inl ⟨by rfl, ?_⟩) (unhide HH) ?_
    · intro W hSW; exact run_build9 rfl (by simp only [List.map_toArray, List.map_cons, List.map_nil]; rfl) (build_TE3 2 L (1 + S) W)
    (try simp only [Act.put, List.setIfInBounds_toArray, List.set_cons_zero, List.set_cons_succ])
    refine wpAnyH_ready (rs := [9]) (by kernel_rfl) (by simp) ?_
    refine consL rfl (fun K hK => ?_) AllReadyH.nil
    refine wp_store_mid (P := Tryz.prog) 44 (.tmp 2) (.tmp 33) (by rfl) W1.heap.size 0 (entA 2 L (1 + S) zer16) (by rfl) (by rfl) ((unhide HR).there zer16_len (entA_size zer16_len)) (by rw [sizeTE, entA_size zer16_len]) (entA_one _ _ _ _) ?_
    have hbs := below10_setCells (n := W1.heap.size) (a := w5) W1.heap.size (entA 2 L (1 + S) zer16).toList 0 w5 (Below.refl _ _) (Nat.le_refl _)
    have hsl := stored_TE (k' := 2) (l' := L) (s' := 1 + S) (d' := zer16) (unhide HR) zer16_len zer16_len
    generalize w5.setCells W1.heap.size 0 (entA 2 L (1 + S) zer16).toList = w6 at hbs hsl ⊢
    have HBS := hide hbs
    have HSL := hide hsl
    clear hsl
    refine hK.out _ _ hbs (fun hHeld => ?_)
    clear hK K HH hbs
    have HH := hide hHeld
    clear hHeld
    refine wpAnyH_done (by kernel_rfl) ?_ _
    refine NoPanic.normal ?_
    go_wp2_with fail
    refine bodyPost_ret (results_cell7 rfl _ _ ⟨W1.heap.size, 0, none⟩ _ rfl (unhide HSL)) rfl ?_
    exact ⟨rfl, (unhide HT).trans ((unhide HBS).mono hsz)⟩
  · rw [if_neg (by omega), if_neg (by omega), if_neg hk]
    have q1 : (K == 1) = false := by rw [beq_eq_false_iff_ne]; exact hk
    have q2 : (K == 2) = false := by rw [beq_eq_false_iff_ne]; exact hk'
    have hbs := below10_setCells (n := W1.heap.size) (a := W) W1.heap.size (entA K 0 0 zer16).toList 0 W (Below.refl _ _) (Nat.le_refl _)
    have hsl := stored_TE (k' := K) (l' := 0) (s' := 0) (d' := zer16) (unhide HR) zer16_len zer16_len
    obtain ⟨w6, hw6⟩ : ∃ w6, W.setCells W1.heap.size 0 (entA K 0 0 zer16).toList = w6 := ⟨_, rfl⟩
    rw [hw6] at hbs hsl
    have HBS := hide hbs
    have HSL := hide hsl
    have HW6 := hide hw6
    clear hsl hw6
    have HTH := hide ((unhide HR).there zer16_len (n := (entA K 0 0 zer16).size) (entA_size zer16_len))
    clear hbs hk hk' HE HR
    go_enter Tryz.func29, Tryz.ntmps29
    go_wp2_with fail
    refine (within10_any k 4 _ (by omega) (by omega)).mono ?_
    rintro e w2 ⟨rfl, hw2⟩
    rw [unhide HK, hw2]
    clear hw2 w2 HK c0 hW hW1
    go_wp2_with (refine wpList_store_mid rfl 44 _ _ rfl W1.heap.size 0 (entA K 0 0 zer16) rfl rfl (unhide HTH) (by rw [sizeTE, entA_size zer16_len]) (entA_one _ _ _ _) ?_; rw [unhide HW6])
    refine bodyPost_ret (results_cell7 rfl _ _ ⟨W1.heap.size, 0, none⟩ _ rfl (unhide HSL)) rfl ?_
    exact ⟨rfl, (unhide HT).trans ((unhide HBS).mono hsz)⟩

end Go.Proofs.YtjdikhelabibnaaGreat
