/-
  The walk of EntryPlaces.
-/
import Derived.Test.YtabfaehpopeckaaXCut
import Derived.Test.YtabfaehpopeckaaE10v
import Derived.Test.YtabfaehpopeckaaRefW
import Derived.Test.YtabfaehpopeckaaR10b
namespace Go.Proofs.Ytabfaehpopeckaa
open Go.RowKit Go.Shelf

/-- A part of such bytes. -/
theorem row_part {w : World} {g o : Nat} {zs pre mid post : List Int} (h : ∀ j, j < zs.length → w.cell? ⟨g, o + j, none⟩ = some (.int .u8 (zs.getD j 0))) (e : zs = pre ++ (mid ++ post)) {n : Nat} (hn : pre.length = n) : Row w (some ⟨g, o + n, none⟩) g mid := by
  subst hn
  subst e
  refine .inr ⟨o + pre.length, rfl, fun j hj => ?_⟩
  have h1 := h (pre.length + j) (by simp; omega)
  rw [← Nat.add_assoc] at h1
  rw [h1]
  congr 2
  rw [List.getD_eq_getElem?_getD, List.getD_eq_getElem?_getD, List.getElem?_append_right (by omega), Nat.add_sub_cancel_left, List.getElem?_append_left hj]
/-- Such a row, told by its cells. -/
structure Cz (w : World) (g o : Nat) (zs : List Int) : Prop where
  c : ∀ j, j < zs.length → w.cell? ⟨g, o + j, none⟩ = some (.int .u8 (zs.getD j 0))
theorem Cz.below {w w' : World} {g o : Nat} {zs : List Int} (h : Cz w g o zs) (k : Below w.heap.size w w') : Cz w' g o zs := ⟨fun j hj => (World.cell?_of_block (k.block _ (block_lt_of_cell (h.c j hj)))).trans (h.c j hj)⟩

set_option maxRecDepth 100000 in
set_option maxHeartbeats 32000000 in
theorem places_law (k l s : Int) (d : List Nat) (hd : d.length = 16) (hdb : ∀ j, cf d j < 256) (x0 x1 x2 x3 : Int) (h1 : 0 ≤ x1 ∧ x1 ≤ 255) (h2 : 0 ≤ x2 ∧ x2 ≤ 255) (h3 : 0 ≤ x3 ∧ x3 ≤ 255) (w : World) : Calls Try.prog 6 #[.agg (entA k l s d), .int .i64 x0, .int .u8 x1, .int .u8 x2, .int .u8 x3] w fun e w' => e = .returned (.bool true) ∧ Below w.heap.size w w' := by
  obtain ⟨h1, h1'⟩ := h1
  obtain ⟨h2, h2'⟩ := h2
  obtain ⟨h3, h3'⟩ := h3
  obtain ⟨w1, hw1⟩ : ∃ w1, w.alloc (.cells (entA k l s d) 24) = w1 := ⟨_, rfl⟩
  have HBE : Hid (AtB w1 w.heap.size (entA k l s d) 24) := ⟨by rw [← hw1]; exact World.alloc_heap_new w _⟩
  have HT : Hid (Below w.heap.size w w1) := by rw [← hw1]; exact (Below.refl _ w).alloc (Nat.le_refl _) _
  have HOK := hide (gd_ok k l s d)
  have HGL := hide (gdD_len (k := k) hd)
  have HGB := hide (gd_lt k hdb)
  clear hdb
  have hmk4 : ∀ w : World, (Instr.makeSlice 30 (.int .i64 4) (.int .i64 4)).run Try.prog w = .ok (.slice (some ⟨w.heap.size, 0, none⟩) 4 4) (w.alloc (.cells (List.replicate 4 (Value.int .u8 0)).toArray 5)) := run_zeros 4 (by omega)
  have HZ4 := hide (fun W : World => zeros_arg 4 (by omega) W)

  obtain ⟨z4, hz4⟩ : ∃ z, (List.replicate 4 (Value.int .u8 0)).toArray = z := ⟨_, rfl⟩
  rw [hz4] at HZ4
  simp only [hz4] at hmk4
  clear hz4
  go_enter Try.func6, Try.ntmps6
  go_wp2_with fail
  clear hw1
  refine (known10_any _).mono ?_
  rintro e w2 ⟨rfl, hk⟩
  replace HT := hide ((unhide HT).trans (hk.mono (unhide HT).size))
  replace HBE := hide ((unhide HBE).below hk)
  clear hk
  go_wp2_with (refine wpList_load_want10 rfl 24 _ rfl w.heap.size rfl 24 (entA k l s d) _ _ (unhide HBE).blk Try.underlying24 rfl (by rw [sizeTE, entA_size hd]) ?_)
  refine (good_any k l s d hd _).mono ?_
  rintro e w3 ⟨rfl, hk⟩
  replace HT := hide ((unhide HT).trans (hk.mono (unhide HT).size))
  clear hk HBE
  obtain ⟨w4, hW⟩ : ∃ W, (w3.alloc (.cells #[.int .i64 0, .int .i64 0, .int .i64 0, .int .u8 0, .int .u8 0, .int .u8 0, .int .u8 0, .int .u8 0, .int .u8 0, .int .u8 0, .int .u8 0, .int .u8 0, .int .u8 0, .int .u8 0, .int .u8 0, .int .u8 0, .int .u8 0, .int .u8 0, .int .u8 0] 24)).setRow w3.heap.size (entA (gdK k) (gdLb k l) (gdS k s) (gdD k d)) = W := ⟨_, rfl⟩
  have HBw4 := hide (blk_new10 w3 #[.int .i64 0, .int .i64 0, .int .i64 0, .int .u8 0, .int .u8 0, .int .u8 0, .int .u8 0, .int .u8 0, .int .u8 0, .int .u8 0, .int .u8 0, .int .u8 0, .int .u8 0, .int .u8 0, .int .u8 0, .int .u8 0, .int .u8 0, .int .u8 0, .int .u8 0] (entA (gdK k) (gdLb k l) (gdS k s) (gdD k d)) 24)
  have HKw4 := hide (kp_new10 w3 (.cells #[.int .i64 0, .int .i64 0, .int .i64 0, .int .u8 0, .int .u8 0, .int .u8 0, .int .u8 0, .int .u8 0, .int .u8 0, .int .u8 0, .int .u8 0, .int .u8 0, .int .u8 0, .int .u8 0, .int .u8 0, .int .u8 0, .int .u8 0, .int .u8 0, .int .u8 0] 24) (entA (gdK k) (gdLb k l) (gdS k s) (gdD k d)))
  rw [hW] at HBw4 HKw4
  have HNw4 := hide (World.alloc_heap_new w3 (.cells #[.int .i64 0, .int .i64 0, .int .i64 0, .int .u8 0, .int .u8 0, .int .u8 0, .int .u8 0, .int .u8 0, .int .u8 0, .int .u8 0, .int .u8 0, .int .u8 0, .int .u8 0, .int .u8 0, .int .u8 0, .int .u8 0, .int .u8 0, .int .u8 0, .int .u8 0] 24))
  have HWw4 := hide hW
  clear hW
  replace HT := hide ((unhide HT).trans ((unhide HKw4).below.mono (unhide HT).size))
  go_wp2_with (first | (refine wpList_store_row rfl 24 _ _ rfl w3.heap.size (entA (gdK k) (gdLb k l) (gdS k s) (gdD k d)) rfl rfl 24 #[.int .i64 0, .int .i64 0, .int .i64 0, .int .u8 0, .int .u8 0, .int .u8 0, .int .u8 0, .int .u8 0, .int .u8 0, .int .u8 0, .int .u8 0, .int .u8 0, .int .u8 0, .int .u8 0, .int .u8 0, .int .u8 0, .int .u8 0, .int .u8 0, .int .u8 0] (unhide HNw4) (by rw [sizeTE, entA_size (unhide HGL)]) (by rw [entA_size (unhide HGL)]; rfl) (entA_one _ _ _ _) ?_; rw [unhide HWw4]) | (refine wpList_load_want10 rfl 24 _ rfl w3.heap.size rfl 24 (entA (gdK k) (gdLb k l) (gdS k s) (gdD k d)) _ _ (unhide HBw4).blk Try.underlying24 rfl (by rw [sizeTE, entA_size (unhide HGL)]) ?_))
  obtain ⟨bg, hbg⟩ : ∃ b, w3.heap.size = b := ⟨_, rfl⟩
  rw [hbg] at HBw4 ⊢
  clear HKw4 HNw4 HWw4 hbg
  have HBG := HBw4
  clear HBw4
  refine (bytes_cap x0 x1 x2 x3 (gdK k) (gdLb k l) (gdS k s) (gdD k d) (unhide HGL) (unhide HGB) _).mono ?_
  rintro e w6 ⟨ab, gb, cb, rfl, hcb, hrw, hk⟩
  replace HT := hide ((unhide HT).trans (hk.mono (unhide HT).size))
  replace HBG := hide ((unhide HBG).below hk)
  obtain ⟨K, hK⟩ : ∃ K, gdK k = K := ⟨_, rfl⟩
  obtain ⟨L, hL⟩ : ∃ L, gdLb k l = L := ⟨_, rfl⟩
  obtain ⟨Q, hQ⟩ : ∃ Q, gdS k s = Q := ⟨_, rfl⟩
  obtain ⟨D, hD⟩ : ∃ D, gdD k d = D := ⟨_, rfl⟩
  have hK1 : 0 ≤ K ∧ K ≤ 3 := by rw [← hK]; unfold gdK; omega
  obtain ⟨hK1, hK2⟩ := hK1
  rw [hK, hL, hQ, hD] at hrw HBG
  rw [hD] at HGL
  clear hK hL hQ hD HOK HGB hk
  have hln : (byT x0 x1 x2 x3 K L Q D).length = 48 := byW_len (unhide HGL) rfl
  obtain ⟨o, hz⟩ : ∃ o, ab = some ⟨gb, o, none⟩ ∧ Cz w6 gb o (byT x0 x1 x2 x3 K L Q D) := by
    rcases hrw with h | ⟨o, h, h'⟩
    · rw [h] at hln; simp at hln
    · exact ⟨o, h, ⟨h'⟩⟩
  obtain ⟨rfl, hz⟩ := hz
  have HZ := hide hz
  clear hrw hz
  have hv : ∀ j v, (byT x0 x1 x2 x3 K L Q D).getD j 0 = v → (byT x0 x1 x2 x3 K L Q D).getD j 0 = v := fun _ _ h => h
  clear hv
  obtain ⟨U0, hU0⟩ : ∃ U, by8 8 (IntKind.u64.wrap x0) = U := ⟨_, rfl⟩
  obtain ⟨UL, hUL⟩ : ∃ U, by8 8 (IntKind.u64.wrap L) = U := ⟨_, rfl⟩
  obtain ⟨UQ, hUQ⟩ : ∃ U, by8 8 (IntKind.u64.wrap Q) = U := ⟨_, rfl⟩
  have HBY : Hid (byT x0 x1 x2 x3 K L Q D = U0 ++ ([x1, x2, x3, K] ++ (UL ++ (UQ ++ (ints D ++ ints [0, 0, 0, 0]))))) := by
    unfold Hid byT byW
    rw [hU0, hUL, hUQ, show x1 % 256 = x1 by omega, show x2 % 256 = x2 by omega, show x3 % 256 = x3 by omega, show K % 256 = K by omega]
  have L0 : Hid (U0.length = 8) := by rw [← hU0]; exact by8_length _ _
  have LL : Hid (UL.length = 8) := by rw [← hUL]; exact by8_length _ _
  have LQ : Hid (UQ.length = 8) := by rw [← hUQ]; exact by8_length _ _
  have LD : Hid ((ints D).length = 16) := by unfold Hid; rw [ints_len10]; exact unhide HGL
  have HU0 := hide hU0
  have HUL := hide hUL
  have HUQ := hide hUQ
  clear hU0 hUL hUQ hln
  obtain ⟨t0, ht0⟩ : ∃ t, strOf U0 = t := ⟨_, rfl⟩
  obtain ⟨tL, htL⟩ : ∃ t, strOf UL = t := ⟨_, rfl⟩
  obtain ⟨tQ, htQ⟩ : ∃ t, strOf UQ = t := ⟨_, rfl⟩
  obtain ⟨tD, htD⟩ : ∃ t, strOf (ints D) = t := ⟨_, rfl⟩
  obtain ⟨tZ, htZ⟩ : ∃ t, strOf (ints [0, 0, 0, 0]) = t := ⟨_, rfl⟩
  have T0 := hide ht0
  have TL := hide htL
  have TQ := hide htQ
  have TD := hide htD
  have TZ := hide htZ
  clear ht0 htL htQ htD htZ
  have e0 := beq_self_eq_true t0.toList
  have eL := beq_self_eq_true tL.toList
  have eQ := beq_self_eq_true tQ.toList
  have eD := beq_self_eq_true tD.toList
  have eZ := beq_self_eq_true tZ.toList
  have HR0 := hide (fun (W : World) (h : Cz W gb o (byT x0 x1 x2 x3 K L Q D)) => row_part (mid := U0) h.c (unhide HBY : _ = [] ++ (U0 ++ _)) (n := 0) rfl)
  have HRL := hide (fun (W : World) (h : Cz W gb o (byT x0 x1 x2 x3 K L Q D)) => row_part (pre := U0 ++ [x1, x2, x3, K]) (mid := UL) (post := UQ ++ (ints D ++ ints [0, 0, 0, 0])) h.c (by rw [unhide HBY]; simp) (n := 12) (by simp [unhide L0]))
  have HRQ := hide (fun (W : World) (h : Cz W gb o (byT x0 x1 x2 x3 K L Q D)) => row_part (pre := U0 ++ ([x1, x2, x3, K] ++ UL)) (mid := UQ) (post := ints D ++ ints [0, 0, 0, 0]) h.c (by rw [unhide HBY]; simp) (n := 20) (by simp [unhide L0, unhide LL]))
  have HRD := hide (fun (W : World) (h : Cz W gb o (byT x0 x1 x2 x3 K L Q D)) => row_part (pre := U0 ++ ([x1, x2, x3, K] ++ (UL ++ UQ))) (mid := ints D) (post := ints [0, 0, 0, 0]) h.c (by rw [unhide HBY]; simp) (n := 28) (by simp [unhide L0, unhide LL, unhide LQ]))
  have HRZ := hide (fun (W : World) (h : Cz W gb o (byT x0 x1 x2 x3 K L Q D)) => row_part (pre := U0 ++ ([x1, x2, x3, K] ++ (UL ++ (UQ ++ ints D)))) (mid := ints [0, 0, 0, 0]) (post := []) h.c (by rw [unhide HBY]; simp) (n := 44) (by simp [unhide L0, unhide LL, unhide LQ, unhide LD]))
  have HRM := hide (fun (W : World) (h : Cz W gb o (byT x0 x1 x2 x3 K L Q D)) => row_part (pre := U0) (mid := [x1, x2, x3, K]) (post := UL ++ (UQ ++ (ints D ++ ints [0, 0, 0, 0]))) h.c (unhide HBY) (n := 8) (unhide L0))
  have HM := hide (fun (W : World) (h : Cz W gb o (byT x0 x1 x2 x3 K L Q D)) => (show W.cell? ⟨gb, o + 8, none⟩ = some (.int .u8 x1) ∧ W.cell? ⟨gb, o + 9, none⟩ = some (.int .u8 x2) ∧ W.cell? ⟨gb, o + 10, none⟩ = some (.int .u8 x3) ∧ W.cell? ⟨gb, o + 11, none⟩ = some (.int .u8 K) by
    rcases unhide HRM W h with h | ⟨o', h, h'⟩
    · cases h
    · cases h
      exact ⟨h' 0 (by simp), h' 1 (by simp), h' 2 (by simp), h' 3 (by simp)⟩))
  have HRG := hide (fun (W : World) (h : AtB W bg (entA K L Q D) 24) => (show Row W (some ⟨bg, 3, none⟩) bg (ints D) from .inr ⟨3, rfl, fun j hj => by
    rw [ints_len10, unhide HGL] at hj
    have h1 := cell_blk h.blk ((entA_d K L Q D j).trans (datL_get (by rw [unhide HGL]; exact hj)))
    rw [h1, ints_getD10]⟩))
  have q8 : (8 : Int) ≤ (cb : Int) := by omega
  have q20 : (20 : Int) ≤ (cb : Int) := by omega
  have q28 : (28 : Int) ≤ (cb : Int) := by omega
  have q44 : (44 : Int) ≤ (cb : Int) := by omega
  have q48 : (48 : Int) ≤ (cb : Int) := by omega
  clear hcb
  go_wp2_with fail
  replace HT := hide ((unhide HT).drew)
  replace HBG := hide ((unhide HBG).below (Below.refl _ _).drew)
  replace HZ := hide ((unhide HZ).below (Below.refl _ _).drew)
  refine wp_region_noPanic ?_
  refine wp_region_held_drew (S := fun W => Below w6.drew.heap.size w6.drew W) (by kernel_rfl) (Below.refl _ _) (fun hHeld => ?_)
  have HH := hide hHeld
  clear hHeld
  generalize w6.drew = w21 at HT HBG HZ HH ⊢
  refine takeL (i := 0) (v := ?_) rfl (by kernel_rfl) (by kernel_rfl) (by kernel_rfl) (fun _ _ _ h => h) (Or.inl ⟨by rfl, ?_⟩) (unhide HH) ?_
  rotate_left 1
  · intro W hSW; go_simp; all_goals (with_reducible rfl)
  (try simp only [Act.put, List.setIfInBounds_toArray, List.set_cons_zero, List.set_cons_succ])
  refine takeL (i := 1) (v := .slice (some ⟨gb, o, none⟩) 8 (cb)) rfl (by kernel_rfl) (by kernel_rfl) (by kernel_rfl) (fun _ _ _ h => h) (Or.inl ⟨by rfl, ?_⟩) (unhide HH) ?_
  · intro W hSW; clear hSW; go_simp; all_goals (first | (with_reducible rfl) | omega | simp)
  (try simp only [Act.put, List.setIfInBounds_toArray, List.set_cons_zero, List.set_cons_succ])
  refine takeL (i := 2) (v := .string t0) rfl (by kernel_rfl) (by kernel_rfl) (by kernel_rfl) (fun _ _ _ h => h) (Or.inl ⟨by rfl, ?_⟩) (unhide HH) ?_
  · intro W hSW; have hcv : (convert 30 9 (.slice (some ⟨gb, o, none⟩) 8 (cb))).run Try.prog W = .ok (.string t0) W := (by rw [← unhide T0]; exact run_conv _ _ gb 8 _ U0 (unhide L0) (unhide HR0 W ((unhide HZ).below hSW))); clear hSW; go_simp; all_goals (first | (with_reducible rfl) | omega | simp)
  (try simp only [Act.put, List.setIfInBounds_toArray, List.set_cons_zero, List.set_cons_succ])
  refine takeL (i := 3) (v := ?_) rfl (by kernel_rfl) (by kernel_rfl) (by kernel_rfl) (fun _ _ _ h => h) (Or.inl ⟨by rfl, ?_⟩) (unhide HH) ?_
  rotate_left 1
  · intro W hSW; go_simp; all_goals (with_reducible rfl)
  (try simp only [Act.put, List.setIfInBounds_toArray, List.set_cons_zero, List.set_cons_succ])
  refine wpAnyH_ready (rs := [4]) (by kernel_rfl) (by simp) ?_
  refine consL rfl (fun K hK => ?_) AllReadyH.nil
  go_simp
  refine (xwint (.slice none 0 0) 0 [] x0 w21.heap.size w21 (World.ownsRow_nil _ _ _ _) (by omega) (Nat.le_refl _)).mono ?_
  rintro e w22 ⟨g22, c22, rfl, ho, hk0, -⟩
  have hk : Below w21.heap.size w21 w22 := Kp.below (show Kp [] _ _ from hk0)
  rw [List.nil_append, unhide HU0] at ho
  have HRW22 := hide (row_of_owns ho)
  clear ho hk0
  replace HBG := hide ((unhide HBG).below hk)
  replace HZ := hide ((unhide HZ).below hk)
  replace HT := hide ((unhide HT).trans (hk.mono (unhide HT).size))
  refine hK.out _ _ hk (fun hHeld => ?_)
  clear hK K HH hHeld
  (try simp only [Act.put, List.setIfInBounds_toArray, List.set_cons_zero, List.set_cons_succ])
  refine stronger (S' := fun W => Below w22.heap.size w22 W) (fun W h => hk.trans (h.mono hk.size)) _ _ _ _ ?_
  have HH : Hid (Below w22.heap.size w22 w22) := Below.refl _ _
  clear hk
  refine takeL (i := 5) (v := .string t0) rfl (by kernel_rfl) (by kernel_rfl) (by kernel_rfl) (fun _ _ _ h => h) (Or.inl ⟨by rfl, ?_⟩) (unhide HH) ?_
  · intro W hSW; have hcv : (convert 30 9 (.slice (some ⟨g22, 0, none⟩) (0 + 8) c22)).run Try.prog W = .ok (.string t0) W := (by rw [← unhide T0]; exact run_conv _ _ g22 (0 + 8) _ U0 (unhide L0) ((unhide HRW22).below hSW)); clear hSW; go_simp; all_goals (first | (with_reducible rfl) | omega | simp)
  (try simp only [Act.put, List.setIfInBounds_toArray, List.set_cons_zero, List.set_cons_succ])
  refine takeL (i := 6) (v := .bool true) rfl (by kernel_rfl) (by kernel_rfl) (by kernel_rfl) (fun _ _ _ h => h) (Or.inl ⟨by rfl, ?_⟩) (unhide HH) ?_
  · intro W hSW; clear hSW; go_simp; all_goals (first | rfl | simp)
  (try simp only [Act.put, List.setIfInBounds_toArray, List.set_cons_zero, List.set_cons_succ])
  refine takeL (i := 7) (v := ?_) rfl (by kernel_rfl) (by kernel_rfl) (by kernel_rfl) (fun _ _ _ h => h) (Or.inl ⟨by rfl, ?_⟩) (unhide HH) ?_
  rotate_left 1
  · intro W hSW; go_simp; all_goals (with_reducible rfl)
  (try simp only [Act.put, List.setIfInBounds_toArray, List.set_cons_zero, List.set_cons_succ])
  refine takeL (i := 8) (v := ?_) rfl (by kernel_rfl) (by kernel_rfl) (by kernel_rfl) (fun _ _ _ h => h) (Or.inl ⟨by rfl, ?_⟩) (unhide HH) ?_
  rotate_left 1
  · intro W hSW; go_simp; all_goals (with_reducible rfl)
  (try simp only [Act.put, List.setIfInBounds_toArray, List.set_cons_zero, List.set_cons_succ])
  refine takeL (i := 9) (v := ?_) rfl (by kernel_rfl) (by kernel_rfl) (by kernel_rfl) (fun _ _ _ h => h) (Or.inl ⟨by rfl, ?_⟩) (unhide HH) ?_
  rotate_left 1
  · intro W hSW; go_simp; all_goals (with_reducible rfl)
  (try simp only [Act.put, List.setIfInBounds_toArray, List.set_cons_zero, List.set_cons_succ])
  refine takeL (i := 10) (v := .int .u8 x1) rfl (by kernel_rfl) (by kernel_rfl) (by kernel_rfl) (fun _ _ _ h => h) (Or.inl ⟨by rfl, ?_⟩) (unhide HH) ?_
  · intro W hSW; have hcl := (unhide HM W ((unhide HZ).below hSW)).1; clear hSW; go_simp; all_goals (first | (with_reducible rfl) | omega | simp)
  (try simp only [Act.put, List.setIfInBounds_toArray, List.set_cons_zero, List.set_cons_succ])
  refine takeL (i := 11) (v := ?_) rfl (by kernel_rfl) (by kernel_rfl) (by kernel_rfl) (fun _ _ _ h => h) (Or.inl ⟨by rfl, ?_⟩) (unhide HH) ?_
  rotate_left 1
  · intro W hSW; go_simp; all_goals (with_reducible rfl)
  (try simp only [Act.put, List.setIfInBounds_toArray, List.set_cons_zero, List.set_cons_succ])
  refine takeL (i := 12) (v := .bool true) rfl (by kernel_rfl) (by kernel_rfl) (by kernel_rfl) (fun _ _ _ h => h) (Or.inl ⟨by rfl, ?_⟩) (unhide HH) ?_
  · intro W hSW; clear hSW; go_simp; all_goals (first | rfl | simp)
  (try simp only [Act.put, List.setIfInBounds_toArray, List.set_cons_zero, List.set_cons_succ])
  refine takeL (i := 13) (v := ?_) rfl (by kernel_rfl) (by kernel_rfl) (by kernel_rfl) (fun _ _ _ h => h) (Or.inl ⟨by rfl, ?_⟩) (unhide HH) ?_
  rotate_left 1
  · intro W hSW; go_simp; all_goals (with_reducible rfl)
  (try simp only [Act.put, List.setIfInBounds_toArray, List.set_cons_zero, List.set_cons_succ])
  refine takeL (i := 14) (v := ?_) rfl (by kernel_rfl) (by kernel_rfl) (by kernel_rfl) (fun _ _ _ h => h) (Or.inl ⟨by rfl, ?_⟩) (unhide HH) ?_
  rotate_left 1
  · intro W hSW; go_simp; all_goals (with_reducible rfl)
  (try simp only [Act.put, List.setIfInBounds_toArray, List.set_cons_zero, List.set_cons_succ])
  refine takeL (i := 15) (v := ?_) rfl (by kernel_rfl) (by kernel_rfl) (by kernel_rfl) (fun _ _ _ h => h) (Or.inl ⟨by rfl, ?_⟩) (unhide HH) ?_
  rotate_left 1
  · intro W hSW; go_simp; all_goals (with_reducible rfl)
  (try simp only [Act.put, List.setIfInBounds_toArray, List.set_cons_zero, List.set_cons_succ])
  refine takeL (i := 16) (v := ?_) rfl (by kernel_rfl) (by kernel_rfl) (by kernel_rfl) (fun _ _ _ h => h) (Or.inl ⟨by rfl, ?_⟩) (unhide HH) ?_
  rotate_left 1
  · intro W hSW; go_simp; all_goals (with_reducible rfl)
  (try simp only [Act.put, List.setIfInBounds_toArray, List.set_cons_zero, List.set_cons_succ])
  refine takeL (i := 17) (v := .int .u8 x2) rfl (by kernel_rfl) (by kernel_rfl) (by kernel_rfl) (fun _ _ _ h => h) (Or.inl ⟨by rfl, ?_⟩) (unhide HH) ?_
  · intro W hSW; have hcl := (unhide HM W ((unhide HZ).below hSW)).2.1; clear hSW; go_simp; all_goals (first | (with_reducible rfl) | omega | simp)
  (try simp only [Act.put, List.setIfInBounds_toArray, List.set_cons_zero, List.set_cons_succ])
  refine takeL (i := 18) (v := ?_) rfl (by kernel_rfl) (by kernel_rfl) (by kernel_rfl) (fun _ _ _ h => h) (Or.inl ⟨by rfl, ?_⟩) (unhide HH) ?_
  rotate_left 1
  · intro W hSW; go_simp; all_goals (with_reducible rfl)
  (try simp only [Act.put, List.setIfInBounds_toArray, List.set_cons_zero, List.set_cons_succ])
  refine takeL (i := 19) (v := .bool true) rfl (by kernel_rfl) (by kernel_rfl) (by kernel_rfl) (fun _ _ _ h => h) (Or.inl ⟨by rfl, ?_⟩) (unhide HH) ?_
  · intro W hSW; clear hSW; go_simp; all_goals (first | rfl | simp)
  (try simp only [Act.put, List.setIfInBounds_toArray, List.set_cons_zero, List.set_cons_succ])
  refine takeL (i := 20) (v := ?_) rfl (by kernel_rfl) (by kernel_rfl) (by kernel_rfl) (fun _ _ _ h => h) (Or.inl ⟨by rfl, ?_⟩) (unhide HH) ?_
  rotate_left 1
  · intro W hSW; go_simp; all_goals (with_reducible rfl)
  (try simp only [Act.put, List.setIfInBounds_toArray, List.set_cons_zero, List.set_cons_succ])
  refine takeL (i := 21) (v := ?_) rfl (by kernel_rfl) (by kernel_rfl) (by kernel_rfl) (fun _ _ _ h => h) (Or.inl ⟨by rfl, ?_⟩) (unhide HH) ?_
  rotate_left 1
  · intro W hSW; go_simp; all_goals (with_reducible rfl)
  (try simp only [Act.put, List.setIfInBounds_toArray, List.set_cons_zero, List.set_cons_succ])
  refine takeL (i := 22) (v := ?_) rfl (by kernel_rfl) (by kernel_rfl) (by kernel_rfl) (fun _ _ _ h => h) (Or.inl ⟨by rfl, ?_⟩) (unhide HH) ?_
  rotate_left 1
  · intro W hSW; go_simp; all_goals (with_reducible rfl)
  (try simp only [Act.put, List.setIfInBounds_toArray, List.set_cons_zero, List.set_cons_succ])
  refine takeL (i := 23) (v := ?_) rfl (by kernel_rfl) (by kernel_rfl) (by kernel_rfl) (fun _ _ _ h => h) (Or.inl ⟨by rfl, ?_⟩) (unhide HH) ?_
  rotate_left 1
  · intro W hSW; go_simp; all_goals (with_reducible rfl)
  (try simp only [Act.put, List.setIfInBounds_toArray, List.set_cons_zero, List.set_cons_succ])
  refine takeL (i := 24) (v := .int .u8 x3) rfl (by kernel_rfl) (by kernel_rfl) (by kernel_rfl) (fun _ _ _ h => h) (Or.inl ⟨by rfl, ?_⟩) (unhide HH) ?_
  · intro W hSW; have hcl := (unhide HM W ((unhide HZ).below hSW)).2.2.1; clear hSW; go_simp; all_goals (first | (with_reducible rfl) | omega | simp)
  (try simp only [Act.put, List.setIfInBounds_toArray, List.set_cons_zero, List.set_cons_succ])
  refine takeL (i := 25) (v := ?_) rfl (by kernel_rfl) (by kernel_rfl) (by kernel_rfl) (fun _ _ _ h => h) (Or.inl ⟨by rfl, ?_⟩) (unhide HH) ?_
  rotate_left 1
  · intro W hSW; go_simp; all_goals (with_reducible rfl)
  (try simp only [Act.put, List.setIfInBounds_toArray, List.set_cons_zero, List.set_cons_succ])
  refine takeL (i := 26) (v := .bool true) rfl (by kernel_rfl) (by kernel_rfl) (by kernel_rfl) (fun _ _ _ h => h) (Or.inl ⟨by rfl, ?_⟩) (unhide HH) ?_
  · intro W hSW; clear hSW; go_simp; all_goals (first | rfl | simp)
  (try simp only [Act.put, List.setIfInBounds_toArray, List.set_cons_zero, List.set_cons_succ])
  refine takeL (i := 27) (v := ?_) rfl (by kernel_rfl) (by kernel_rfl) (by kernel_rfl) (fun _ _ _ h => h) (Or.inl ⟨by rfl, ?_⟩) (unhide HH) ?_
  rotate_left 1
  · intro W hSW; go_simp; all_goals (with_reducible rfl)
  (try simp only [Act.put, List.setIfInBounds_toArray, List.set_cons_zero, List.set_cons_succ])
  refine takeL (i := 28) (v := ?_) rfl (by kernel_rfl) (by kernel_rfl) (by kernel_rfl) (fun _ _ _ h => h) (Or.inl ⟨by rfl, ?_⟩) (unhide HH) ?_
  rotate_left 1
  · intro W hSW; go_simp; all_goals (with_reducible rfl)
  (try simp only [Act.put, List.setIfInBounds_toArray, List.set_cons_zero, List.set_cons_succ])
  refine takeL (i := 29) (v := ?_) rfl (by kernel_rfl) (by kernel_rfl) (by kernel_rfl) (fun _ _ _ h => h) (Or.inl ⟨by rfl, ?_⟩) (unhide HH) ?_
  rotate_left 1
  · intro W hSW; go_simp; all_goals (with_reducible rfl)
  (try simp only [Act.put, List.setIfInBounds_toArray, List.set_cons_zero, List.set_cons_succ])
  refine takeL (i := 30) (v := ?_) rfl (by kernel_rfl) (by kernel_rfl) (by kernel_rfl) (fun _ _ _ h => h) (Or.inl ⟨by rfl, ?_⟩) (unhide HH) ?_
  rotate_left 1
  · intro W hSW; go_simp; all_goals (with_reducible rfl)
  (try simp only [Act.put, List.setIfInBounds_toArray, List.set_cons_zero, List.set_cons_succ])
  refine takeL (i := 31) (v := .int .u8 K) rfl (by kernel_rfl) (by kernel_rfl) (by kernel_rfl) (fun _ _ _ h => h) (Or.inl ⟨by rfl, ?_⟩) (unhide HH) ?_
  · intro W hSW; have hcl := (unhide HM W ((unhide HZ).below hSW)).2.2.2; clear hSW; go_simp; all_goals (first | (with_reducible rfl) | omega | simp)
  (try simp only [Act.put, List.setIfInBounds_toArray, List.set_cons_zero, List.set_cons_succ])
  refine takeL (i := 32) (v := .int .i64 K) rfl (by kernel_rfl) (by kernel_rfl) (by kernel_rfl) (fun _ _ _ h => h) (Or.inl ⟨by rfl, ?_⟩) (unhide HH) ?_
  · intro W hSW; clear hSW; go_simp; all_goals (first | rfl | (rw [IntWalk.i64_in _ ⟨by omega, by omega⟩]) | (rw [IntWalk.wrap64_in _ ⟨by omega, by omega⟩]) | simp)
  (try simp only [Act.put, List.setIfInBounds_toArray, List.set_cons_zero, List.set_cons_succ])
  refine takeL (i := 33) (v := ?_) rfl (by kernel_rfl) (by kernel_rfl) (by kernel_rfl) (fun _ _ _ h => h) (Or.inl ⟨by rfl, ?_⟩) (unhide HH) ?_
  rotate_left 1
  · intro W hSW; go_simp; all_goals (with_reducible rfl)
  (try simp only [Act.put, List.setIfInBounds_toArray, List.set_cons_zero, List.set_cons_succ])
  refine takeL (i := 34) (v := .int .i64 K) rfl (by kernel_rfl) (by kernel_rfl) (by kernel_rfl) (fun _ _ _ h => h) (Or.inl ⟨by rfl, ?_⟩) (unhide HH) ?_
  · intro W hSW; have hcl : W.cell? ⟨bg, 0, none⟩ = some (.int .i64 K) := cell_blk ((unhide HBG).below hSW).blk rfl; clear hSW; go_simp; all_goals (first | (with_reducible rfl) | omega | simp)
  (try simp only [Act.put, List.setIfInBounds_toArray, List.set_cons_zero, List.set_cons_succ])
  refine takeL (i := 35) (v := .bool true) rfl (by kernel_rfl) (by kernel_rfl) (by kernel_rfl) (fun _ _ _ h => h) (Or.inl ⟨by rfl, ?_⟩) (unhide HH) ?_
  · intro W hSW; clear hSW; go_simp; all_goals (first | rfl | simp)
  (try simp only [Act.put, List.setIfInBounds_toArray, List.set_cons_zero, List.set_cons_succ])
  refine takeL (i := 36) (v := ?_) rfl (by kernel_rfl) (by kernel_rfl) (by kernel_rfl) (fun _ _ _ h => h) (Or.inl ⟨by rfl, ?_⟩) (unhide HH) ?_
  rotate_left 1
  · intro W hSW; go_simp; all_goals (with_reducible rfl)
  (try simp only [Act.put, List.setIfInBounds_toArray, List.set_cons_zero, List.set_cons_succ])
  refine takeL (i := 37) (v := ?_) rfl (by kernel_rfl) (by kernel_rfl) (by kernel_rfl) (fun _ _ _ h => h) (Or.inl ⟨by rfl, ?_⟩) (unhide HH) ?_
  rotate_left 1
  · intro W hSW; go_simp; all_goals (with_reducible rfl)
  (try simp only [Act.put, List.setIfInBounds_toArray, List.set_cons_zero, List.set_cons_succ])
  refine takeL (i := 38) (v := ?_) rfl (by kernel_rfl) (by kernel_rfl) (by kernel_rfl) (fun _ _ _ h => h) (Or.inl ⟨by rfl, ?_⟩) (unhide HH) ?_
  rotate_left 1
  · intro W hSW; go_simp; all_goals (with_reducible rfl)
  (try simp only [Act.put, List.setIfInBounds_toArray, List.set_cons_zero, List.set_cons_succ])
  refine takeL (i := 39) (v := .slice (some ⟨gb, o + 12, none⟩) 8 (cb - 12)) rfl (by kernel_rfl) (by kernel_rfl) (by kernel_rfl) (fun _ _ _ h => h) (Or.inl ⟨by rfl, ?_⟩) (unhide HH) ?_
  · intro W hSW; clear hSW; go_simp; all_goals (first | (with_reducible rfl) | omega | simp)
  (try simp only [Act.put, List.setIfInBounds_toArray, List.set_cons_zero, List.set_cons_succ])
  refine takeL (i := 40) (v := .string tL) rfl (by kernel_rfl) (by kernel_rfl) (by kernel_rfl) (fun _ _ _ h => h) (Or.inl ⟨by rfl, ?_⟩) (unhide HH) ?_
  · intro W hSW; have hcv : (convert 30 9 (.slice (some ⟨gb, o + 12, none⟩) 8 (cb - 12))).run Try.prog W = .ok (.string tL) W := (by rw [← unhide TL]; exact run_conv _ _ gb 8 _ UL (unhide LL) (unhide HRL W ((unhide HZ).below hSW))); clear hSW; go_simp; all_goals (first | (with_reducible rfl) | omega | simp)
  (try simp only [Act.put, List.setIfInBounds_toArray, List.set_cons_zero, List.set_cons_succ])
  refine takeL (i := 41) (v := ?_) rfl (by kernel_rfl) (by kernel_rfl) (by kernel_rfl) (fun _ _ _ h => h) (Or.inl ⟨by rfl, ?_⟩) (unhide HH) ?_
  rotate_left 1
  · intro W hSW; go_simp; all_goals (with_reducible rfl)
  (try simp only [Act.put, List.setIfInBounds_toArray, List.set_cons_zero, List.set_cons_succ])
  refine takeL (i := 42) (v := .int .i64 L) rfl (by kernel_rfl) (by kernel_rfl) (by kernel_rfl) (fun _ _ _ h => h) (Or.inl ⟨by rfl, ?_⟩) (unhide HH) ?_
  · intro W hSW; have hcl : W.cell? ⟨bg, 1, none⟩ = some (.int .i64 L) := cell_blk ((unhide HBG).below hSW).blk rfl; clear hSW; go_simp; all_goals (first | (with_reducible rfl) | omega | simp)
  (try simp only [Act.put, List.setIfInBounds_toArray, List.set_cons_zero, List.set_cons_succ])
  refine wpAnyH_ready (rs := [43]) (by kernel_rfl) (by simp) ?_
  refine consL rfl (fun K hK => ?_) AllReadyH.nil
  go_simp
  refine (xwint (.slice none 0 0) 0 [] L w22.heap.size w22 (World.ownsRow_nil _ _ _ _) (by omega) (Nat.le_refl _)).mono ?_
  rintro e w23 ⟨g23, c23, rfl, ho, hk0, -⟩
  have hk : Below w22.heap.size w22 w23 := Kp.below (show Kp [] _ _ from hk0)
  rw [List.nil_append, unhide HUL] at ho
  have HRW23 := hide (row_of_owns ho)
  clear ho hk0
  replace HBG := hide ((unhide HBG).below hk)
  replace HZ := hide ((unhide HZ).below hk)
  replace HRW22 := hide ((unhide HRW22).below hk)
  replace HT := hide ((unhide HT).trans (hk.mono (unhide HT).size))
  refine hK.out _ _ hk (fun hHeld => ?_)
  clear hK K HH hHeld
  (try simp only [Act.put, List.setIfInBounds_toArray, List.set_cons_zero, List.set_cons_succ])
  refine stronger (S' := fun W => Below w23.heap.size w23 W) (fun W h => hk.trans (h.mono hk.size)) _ _ _ _ ?_
  have HH : Hid (Below w23.heap.size w23 w23) := Below.refl _ _
  clear hk
  refine takeL (i := 44) (v := .string tL) rfl (by kernel_rfl) (by kernel_rfl) (by kernel_rfl) (fun _ _ _ h => h) (Or.inl ⟨by rfl, ?_⟩) (unhide HH) ?_
  · intro W hSW; have hcv : (convert 30 9 (.slice (some ⟨g23, 0, none⟩) (0 + 8) c23)).run Try.prog W = .ok (.string tL) W := (by rw [← unhide TL]; exact run_conv _ _ g23 (0 + 8) _ UL (unhide LL) ((unhide HRW23).below hSW)); clear hSW; go_simp; all_goals (first | (with_reducible rfl) | omega | simp)
  (try simp only [Act.put, List.setIfInBounds_toArray, List.set_cons_zero, List.set_cons_succ])
  refine takeL (i := 45) (v := .bool true) rfl (by kernel_rfl) (by kernel_rfl) (by kernel_rfl) (fun _ _ _ h => h) (Or.inl ⟨by rfl, ?_⟩) (unhide HH) ?_
  · intro W hSW; clear hSW; go_simp; all_goals (first | rfl | simp)
  (try simp only [Act.put, List.setIfInBounds_toArray, List.set_cons_zero, List.set_cons_succ])
  refine takeL (i := 46) (v := ?_) rfl (by kernel_rfl) (by kernel_rfl) (by kernel_rfl) (fun _ _ _ h => h) (Or.inl ⟨by rfl, ?_⟩) (unhide HH) ?_
  rotate_left 1
  · intro W hSW; go_simp; all_goals (with_reducible rfl)
  (try simp only [Act.put, List.setIfInBounds_toArray, List.set_cons_zero, List.set_cons_succ])
  refine takeL (i := 47) (v := ?_) rfl (by kernel_rfl) (by kernel_rfl) (by kernel_rfl) (fun _ _ _ h => h) (Or.inl ⟨by rfl, ?_⟩) (unhide HH) ?_
  rotate_left 1
  · intro W hSW; go_simp; all_goals (with_reducible rfl)
  (try simp only [Act.put, List.setIfInBounds_toArray, List.set_cons_zero, List.set_cons_succ])
  refine takeL (i := 48) (v := ?_) rfl (by kernel_rfl) (by kernel_rfl) (by kernel_rfl) (fun _ _ _ h => h) (Or.inl ⟨by rfl, ?_⟩) (unhide HH) ?_
  rotate_left 1
  · intro W hSW; go_simp; all_goals (with_reducible rfl)
  (try simp only [Act.put, List.setIfInBounds_toArray, List.set_cons_zero, List.set_cons_succ])
  refine takeL (i := 49) (v := .slice (some ⟨gb, o + 20, none⟩) 8 (cb - 20)) rfl (by kernel_rfl) (by kernel_rfl) (by kernel_rfl) (fun _ _ _ h => h) (Or.inl ⟨by rfl, ?_⟩) (unhide HH) ?_
  · intro W hSW; clear hSW; go_simp; all_goals (first | (with_reducible rfl) | omega | simp)
  (try simp only [Act.put, List.setIfInBounds_toArray, List.set_cons_zero, List.set_cons_succ])
  refine takeL (i := 50) (v := .string tQ) rfl (by kernel_rfl) (by kernel_rfl) (by kernel_rfl) (fun _ _ _ h => h) (Or.inl ⟨by rfl, ?_⟩) (unhide HH) ?_
  · intro W hSW; have hcv : (convert 30 9 (.slice (some ⟨gb, o + 20, none⟩) 8 (cb - 20))).run Try.prog W = .ok (.string tQ) W := (by rw [← unhide TQ]; exact run_conv _ _ gb 8 _ UQ (unhide LQ) (unhide HRQ W ((unhide HZ).below hSW))); clear hSW; go_simp; all_goals (first | (with_reducible rfl) | omega | simp)
  (try simp only [Act.put, List.setIfInBounds_toArray, List.set_cons_zero, List.set_cons_succ])
  refine takeL (i := 51) (v := ?_) rfl (by kernel_rfl) (by kernel_rfl) (by kernel_rfl) (fun _ _ _ h => h) (Or.inl ⟨by rfl, ?_⟩) (unhide HH) ?_
  rotate_left 1
  · intro W hSW; go_simp; all_goals (with_reducible rfl)
  (try simp only [Act.put, List.setIfInBounds_toArray, List.set_cons_zero, List.set_cons_succ])
  refine takeL (i := 52) (v := .int .i64 Q) rfl (by kernel_rfl) (by kernel_rfl) (by kernel_rfl) (fun _ _ _ h => h) (Or.inl ⟨by rfl, ?_⟩) (unhide HH) ?_
  · intro W hSW; have hcl : W.cell? ⟨bg, 2, none⟩ = some (.int .i64 Q) := cell_blk ((unhide HBG).below hSW).blk rfl; clear hSW; go_simp; all_goals (first | (with_reducible rfl) | omega | simp)
  (try simp only [Act.put, List.setIfInBounds_toArray, List.set_cons_zero, List.set_cons_succ])
  refine wpAnyH_ready (rs := [53]) (by kernel_rfl) (by simp) ?_
  refine consL rfl (fun K hK => ?_) AllReadyH.nil
  go_simp
  refine (xwint (.slice none 0 0) 0 [] Q w23.heap.size w23 (World.ownsRow_nil _ _ _ _) (by omega) (Nat.le_refl _)).mono ?_
  rintro e w24 ⟨g24, c24, rfl, ho, hk0, -⟩
  have hk : Below w23.heap.size w23 w24 := Kp.below (show Kp [] _ _ from hk0)
  rw [List.nil_append, unhide HUQ] at ho
  have HRW24 := hide (row_of_owns ho)
  clear ho hk0
  replace HBG := hide ((unhide HBG).below hk)
  replace HZ := hide ((unhide HZ).below hk)
  replace HRW22 := hide ((unhide HRW22).below hk)
  replace HRW23 := hide ((unhide HRW23).below hk)
  replace HT := hide ((unhide HT).trans (hk.mono (unhide HT).size))
  refine hK.out _ _ hk (fun hHeld => ?_)
  clear hK K HH hHeld
  (try simp only [Act.put, List.setIfInBounds_toArray, List.set_cons_zero, List.set_cons_succ])
  refine stronger (S' := fun W => Below w24.heap.size w24 W) (fun W h => hk.trans (h.mono hk.size)) _ _ _ _ ?_
  have HH : Hid (Below w24.heap.size w24 w24) := Below.refl _ _
  clear hk
  refine takeL (i := 54) (v := .string tQ) rfl (by kernel_rfl) (by kernel_rfl) (by kernel_rfl) (fun _ _ _ h => h) (Or.inl ⟨by rfl, ?_⟩) (unhide HH) ?_
  · intro W hSW; have hcv : (convert 30 9 (.slice (some ⟨g24, 0, none⟩) (0 + 8) c24)).run Try.prog W = .ok (.string tQ) W := (by rw [← unhide TQ]; exact run_conv _ _ g24 (0 + 8) _ UQ (unhide LQ) ((unhide HRW24).below hSW)); clear hSW; go_simp; all_goals (first | (with_reducible rfl) | omega | simp)
  (try simp only [Act.put, List.setIfInBounds_toArray, List.set_cons_zero, List.set_cons_succ])
  refine takeL (i := 55) (v := .bool true) rfl (by kernel_rfl) (by kernel_rfl) (by kernel_rfl) (fun _ _ _ h => h) (Or.inl ⟨by rfl, ?_⟩) (unhide HH) ?_
  · intro W hSW; clear hSW; go_simp; all_goals (first | rfl | simp)
  (try simp only [Act.put, List.setIfInBounds_toArray, List.set_cons_zero, List.set_cons_succ])
  refine takeL (i := 56) (v := ?_) rfl (by kernel_rfl) (by kernel_rfl) (by kernel_rfl) (fun _ _ _ h => h) (Or.inl ⟨by rfl, ?_⟩) (unhide HH) ?_
  rotate_left 1
  · intro W hSW; go_simp; all_goals (with_reducible rfl)
  (try simp only [Act.put, List.setIfInBounds_toArray, List.set_cons_zero, List.set_cons_succ])
  refine takeL (i := 57) (v := ?_) rfl (by kernel_rfl) (by kernel_rfl) (by kernel_rfl) (fun _ _ _ h => h) (Or.inl ⟨by rfl, ?_⟩) (unhide HH) ?_
  rotate_left 1
  · intro W hSW; go_simp; all_goals (with_reducible rfl)
  (try simp only [Act.put, List.setIfInBounds_toArray, List.set_cons_zero, List.set_cons_succ])
  refine takeL (i := 58) (v := ?_) rfl (by kernel_rfl) (by kernel_rfl) (by kernel_rfl) (fun _ _ _ h => h) (Or.inl ⟨by rfl, ?_⟩) (unhide HH) ?_
  rotate_left 1
  · intro W hSW; go_simp; all_goals (with_reducible rfl)
  (try simp only [Act.put, List.setIfInBounds_toArray, List.set_cons_zero, List.set_cons_succ])
  refine takeL (i := 59) (v := .slice (some ⟨gb, o + 28, none⟩) 16 (cb - 28)) rfl (by kernel_rfl) (by kernel_rfl) (by kernel_rfl) (fun _ _ _ h => h) (Or.inl ⟨by rfl, ?_⟩) (unhide HH) ?_
  · intro W hSW; clear hSW; go_simp; all_goals (first | (with_reducible rfl) | omega | simp)
  (try simp only [Act.put, List.setIfInBounds_toArray, List.set_cons_zero, List.set_cons_succ])
  refine takeL (i := 60) (v := .string tD) rfl (by kernel_rfl) (by kernel_rfl) (by kernel_rfl) (fun _ _ _ h => h) (Or.inl ⟨by rfl, ?_⟩) (unhide HH) ?_
  · intro W hSW; have hcv : (convert 30 9 (.slice (some ⟨gb, o + 28, none⟩) 16 (cb - 28))).run Try.prog W = .ok (.string tD) W := (by rw [← unhide TD]; exact run_conv _ _ gb 16 _ (ints D) (unhide LD) (unhide HRD W ((unhide HZ).below hSW))); clear hSW; go_simp; all_goals (first | (with_reducible rfl) | omega | simp)
  (try simp only [Act.put, List.setIfInBounds_toArray, List.set_cons_zero, List.set_cons_succ])
  refine takeL (i := 61) (v := ?_) rfl (by kernel_rfl) (by kernel_rfl) (by kernel_rfl) (fun _ _ _ h => h) (Or.inl ⟨by rfl, ?_⟩) (unhide HH) ?_
  rotate_left 1
  · intro W hSW; go_simp; all_goals (with_reducible rfl)
  (try simp only [Act.put, List.setIfInBounds_toArray, List.set_cons_zero, List.set_cons_succ])
  refine takeL (i := 62) (v := ?_) rfl (by kernel_rfl) (by kernel_rfl) (by kernel_rfl) (fun _ _ _ h => h) (Or.inl ⟨by rfl, ?_⟩) (unhide HH) ?_
  rotate_left 1
  · intro W hSW; go_simp; all_goals (with_reducible rfl)
  (try simp only [Act.put, List.setIfInBounds_toArray, List.set_cons_zero, List.set_cons_succ])
  refine takeL (i := 63) (v := .string tD) rfl (by kernel_rfl) (by kernel_rfl) (by kernel_rfl) (fun _ _ _ h => h) (Or.inl ⟨by rfl, ?_⟩) (unhide HH) ?_
  · intro W hSW; have hcv : (convert 30 9 (.slice (some ⟨bg, 3, none⟩) 16 16)).run Try.prog W = .ok (.string tD) W := (by rw [← unhide TD]; exact run_conv _ _ bg 16 _ (ints D) (unhide LD) (unhide HRG W ((unhide HBG).below hSW))); clear hSW; go_simp; all_goals (first | (with_reducible rfl) | omega | simp)
  (try simp only [Act.put, List.setIfInBounds_toArray, List.set_cons_zero, List.set_cons_succ])
  refine takeL (i := 64) (v := .bool true) rfl (by kernel_rfl) (by kernel_rfl) (by kernel_rfl) (fun _ _ _ h => h) (Or.inl ⟨by rfl, ?_⟩) (unhide HH) ?_
  · intro W hSW; clear hSW; go_simp; all_goals (first | rfl | simp)
  (try simp only [Act.put, List.setIfInBounds_toArray, List.set_cons_zero, List.set_cons_succ])
  refine takeL (i := 65) (v := ?_) rfl (by kernel_rfl) (by kernel_rfl) (by kernel_rfl) (fun _ _ _ h => h) (Or.inl ⟨by rfl, ?_⟩) (unhide HH) ?_
  rotate_left 1
  · intro W hSW; go_simp; all_goals (with_reducible rfl)
  (try simp only [Act.put, List.setIfInBounds_toArray, List.set_cons_zero, List.set_cons_succ])
  refine takeL (i := 66) (v := ?_) rfl (by kernel_rfl) (by kernel_rfl) (by kernel_rfl) (fun _ _ _ h => h) (Or.inl ⟨by rfl, ?_⟩) (unhide HH) ?_
  rotate_left 1
  · intro W hSW; go_simp; all_goals (with_reducible rfl)
  (try simp only [Act.put, List.setIfInBounds_toArray, List.set_cons_zero, List.set_cons_succ])
  refine takeL (i := 67) (v := ?_) rfl (by kernel_rfl) (by kernel_rfl) (by kernel_rfl) (fun _ _ _ h => h) (Or.inl ⟨by rfl, ?_⟩) (unhide HH) ?_
  rotate_left 1
  · intro W hSW; go_simp; all_goals (with_reducible rfl)
  (try simp only [Act.put, List.setIfInBounds_toArray, List.set_cons_zero, List.set_cons_succ])
  refine takeL (i := 68) (v := .slice (some ⟨gb, o + 44, none⟩) 4 (cb - 44)) rfl (by kernel_rfl) (by kernel_rfl) (by kernel_rfl) (fun _ _ _ h => h) (Or.inl ⟨by rfl, ?_⟩) (unhide HH) ?_
  · intro W hSW; clear hSW; go_simp; all_goals (first | (with_reducible rfl) | omega | simp)
  (try simp only [Act.put, List.setIfInBounds_toArray, List.set_cons_zero, List.set_cons_succ])
  refine takeL (i := 69) (v := .string tZ) rfl (by kernel_rfl) (by kernel_rfl) (by kernel_rfl) (fun _ _ _ h => h) (Or.inl ⟨by rfl, ?_⟩) (unhide HH) ?_
  · intro W hSW; have hcv : (convert 30 9 (.slice (some ⟨gb, o + 44, none⟩) 4 (cb - 44))).run Try.prog W = .ok (.string tZ) W := (by rw [← unhide TZ]; exact run_conv _ _ gb 4 _ (ints [0, 0, 0, 0]) rfl (unhide HRZ W ((unhide HZ).below hSW))); clear hSW; go_simp; all_goals (first | (with_reducible rfl) | omega | simp)
  (try simp only [Act.put, List.setIfInBounds_toArray, List.set_cons_zero, List.set_cons_succ])
  refine wpAnyH_ready (rs := [70]) (by kernel_rfl) (by simp) ?_
  refine consL rfl (fun K hK => ?_) AllReadyH.nil
  go_simp
  have hk : Below w24.heap.size w24 (w24.alloc (.cells z4 5)) := (Below.refl _ _).alloc (Nat.le_refl _) _
  have hA := unhide HZ4 w24
  generalize w24.alloc (.cells z4 5) = w25 at hk hA  ⊢
  replace HBG := hide ((unhide HBG).below hk)
  replace HZ := hide ((unhide HZ).below hk)
  replace HRW22 := hide ((unhide HRW22).below hk)
  replace HRW23 := hide ((unhide HRW23).below hk)
  replace HRW24 := hide ((unhide HRW24).below hk)
  replace HT := hide ((unhide HT).trans (hk.mono (unhide HT).size))
  have HA25 := hide hA
  clear hA
  refine hK.out _ _ hk (fun hHeld => ?_)
  clear hK K HH hHeld
  (try simp only [Act.put, List.setIfInBounds_toArray, List.set_cons_zero, List.set_cons_succ])
  refine stronger (S' := fun W => Below w25.heap.size w25 W) (fun W h => hk.trans (h.mono hk.size)) _ _ _ _ ?_
  have HH : Hid (Below w25.heap.size w25 w25) := Below.refl _ _
  clear hk
  refine takeL (i := 71) (v := .string tZ) rfl (by kernel_rfl) (by kernel_rfl) (by kernel_rfl) (fun _ _ _ h => h) (Or.inl ⟨by rfl, ?_⟩) (unhide HH) ?_
  · intro W hSW; have hcv := conv_arg ((unhide HA25).below hSW); rw [show strOf (ints (List.replicate 4 0)) = tZ from unhide TZ] at hcv; clear hSW; go_simp; all_goals (first | (with_reducible rfl) | omega | simp)
  (try simp only [Act.put, List.setIfInBounds_toArray, List.set_cons_zero, List.set_cons_succ])
  refine takeL (i := 72) (v := .bool true) rfl (by kernel_rfl) (by kernel_rfl) (by kernel_rfl) (fun _ _ _ h => h) (Or.inl ⟨by rfl, ?_⟩) (unhide HH) ?_
  · intro W hSW; clear hSW; go_simp; all_goals (first | rfl | simp)
  (try simp only [Act.put, List.setIfInBounds_toArray, List.set_cons_zero, List.set_cons_succ])
  refine takeL (i := 73) (v := ?_) rfl (by kernel_rfl) (by kernel_rfl) (by kernel_rfl) (fun _ _ _ h => h) (Or.inl ⟨by rfl, ?_⟩) (unhide HH) ?_
  rotate_left 1
  · intro W hSW; go_simp; all_goals (with_reducible rfl)
  (try simp only [Act.put, List.setIfInBounds_toArray, List.set_cons_zero, List.set_cons_succ])
  refine takeL (i := 74) (v := ?_) rfl (by kernel_rfl) (by kernel_rfl) (by kernel_rfl) (fun _ _ _ h => h) (Or.inl ⟨by rfl, ?_⟩) (unhide HH) ?_
  rotate_left 1
  · intro W hSW; go_simp; all_goals (with_reducible rfl)
  (try simp only [Act.put, List.setIfInBounds_toArray, List.set_cons_zero, List.set_cons_succ])
  refine wpAnyH_done (by kernel_rfl) ?_ _
  refine NoPanic.normal ?_
  go_wp2_with fail
  go_ret
  exact ⟨rfl, unhide HT⟩
end Go.Proofs.Ytabfaehpopeckaa
