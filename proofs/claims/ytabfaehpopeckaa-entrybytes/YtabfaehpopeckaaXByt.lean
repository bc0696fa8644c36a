/-
  The walk of EntryBytes.
-/
import Derived.Test.YtabfaehpopeckaaXCut
namespace Go.Proofs.Ytabfaehpopeckaa
open Go.RowKit Go.Shelf

set_option maxRecDepth 100000 in
set_option maxHeartbeats 32000000 in
theorem bytes_law (k l s : Int) (d : List Nat) (hd : d.length = 16) (hdb : ∀ j, cf d j < 256) (x0 x1 x2 x3 : Int) (w : World) : Calls Try.prog 3 #[.agg (entA k l s d), .int .i64 x0, .int .i64 x1, .int .i64 x2, .int .i64 x3] w fun e w' => e = .returned (.bool true) ∧ Below w.heap.size w w' := by
  obtain ⟨S, hS, S1, S2⟩ : ∃ r : Int, x0 % 1000 = r ∧ 0 ≤ r ∧ r < 1000 := ⟨_, rfl, Int.emod_nonneg _ (by omega), Int.emod_lt_of_pos _ (by omega)⟩
  obtain ⟨U, hU, U1, U2⟩ : ∃ r : Int, x1 % 256 = r ∧ 0 ≤ r ∧ r < 256 := ⟨_, rfl, Int.emod_nonneg _ (by omega), Int.emod_lt_of_pos _ (by omega)⟩
  obtain ⟨V, hV, V1, V2⟩ : ∃ r : Int, x2 % 256 = r ∧ 0 ≤ r ∧ r < 256 := ⟨_, rfl, Int.emod_nonneg _ (by omega), Int.emod_lt_of_pos _ (by omega)⟩
  obtain ⟨D, hD, D1, D2⟩ : ∃ r : Int, x3 % 256 = r ∧ 0 ≤ r ∧ r < 256 := ⟨_, rfl, Int.emod_nonneg _ (by omega), Int.emod_lt_of_pos _ (by omega)⟩
  have HS := hide hS
  have HU := hide hU
  have HV := hide hV
  have HD := hide hD
  clear hS hU hV hD
  obtain ⟨w1, hw1⟩ : ∃ w1, w.alloc (.cells (entA k l s d) 24) = w1 := ⟨_, rfl⟩
  have HBE : Hid (AtB w1 w.heap.size (entA k l s d) 24) := ⟨by rw [← hw1]; exact World.alloc_heap_new w _⟩
  have HT : Hid (Below w.heap.size w w1) := by rw [← hw1]; exact (Below.refl _ w).alloc (Nat.le_refl _) _
  have HOK := hide (gd_ok k l s d)
  have HGL := hide (gdD_len (k := k) hd)
  have HGB := hide (gd_lt k hdb)
  have HDB := hide hdb
  clear hdb
  go_enter Try.func3, Try.ntmps3
  go_wp2_with fail
  clear hw1
  refine (known10_any _).mono ?_
  rintro e w2 ⟨rfl, hk⟩
  replace HT := hide ((unhide HT).trans (hk.mono (unhide HT).size))
  replace HBE := hide ((unhide HBE).below hk)
  clear hk
  go_wp2_with (refine wpList_load_want10 rfl 24 _ rfl w.heap.size rfl 24 (entA k l s d) _ _ (unhide HBE).blk Try.underlying24 rfl (by rw [sizeTE, entA_size hd]) ?_)
  refine (good_any k l s d hd _).mono ?_
  rintro e w3 ⟨rfl, hk⟩
  replace HT := hide ((unhide HT).trans (hk.mono (unhide HT).size))
  replace HBE := hide ((unhide HBE).below hk)
  clear hk
  obtain ⟨w4, hW⟩ : ∃ W, (w3.alloc (.cells #[.int .i64 0, .int .i64 0, .int .i64 0, .int .u8 0, .int .u8 0, .int .u8 0, .int .u8 0, .int .u8 0, .int .u8 0, .int .u8 0, .int .u8 0, .int .u8 0, .int .u8 0, .int .u8 0, .int .u8 0, .int .u8 0, .int .u8 0, .int .u8 0, .int .u8 0] 24)).setRow w3.heap.size (entA (gdK k) (gdLb k l) (gdS k s) (gdD k d)) = W := ⟨_, rfl⟩
  have HBw4 := hide (blk_new10 w3 #[.int .i64 0, .int .i64 0, .int .i64 0, .int .u8 0, .int .u8 0, .int .u8 0, .int .u8 0, .int .u8 0, .int .u8 0, .int .u8 0, .int .u8 0, .int .u8 0, .int .u8 0, .int .u8 0, .int .u8 0, .int .u8 0, .int .u8 0, .int .u8 0, .int .u8 0] (entA (gdK k) (gdLb k l) (gdS k s) (gdD k d)) 24)
  have HKw4 := hide (kp_new10 w3 (.cells #[.int .i64 0, .int .i64 0, .int .i64 0, .int .u8 0, .int .u8 0, .int .u8 0, .int .u8 0, .int .u8 0, .int .u8 0, .int .u8 0, .int .u8 0, .int .u8 0, .int .u8 0, .int .u8 0, .int .u8 0, .int .u8 0, .int .u8 0, .int .u8 0, .int .u8 0] 24) (entA (gdK k) (gdLb k l) (gdS k s) (gdD k d)))
  rw [hW] at HBw4 HKw4
  have HNw4 := hide (World.alloc_heap_new w3 (.cells #[.int .i64 0, .int .i64 0, .int .i64 0, .int .u8 0, .int .u8 0, .int .u8 0, .int .u8 0, .int .u8 0, .int .u8 0, .int .u8 0, .int .u8 0, .int .u8 0, .int .u8 0, .int .u8 0, .int .u8 0, .int .u8 0, .int .u8 0, .int .u8 0, .int .u8 0] 24))
  have HWw4 := hide hW
  clear hW
  replace HT := hide ((unhide HT).trans ((unhide HKw4).below.mono (unhide HT).size))
  replace HBE := hide ((unhide HBE).below (unhide HKw4).below)
  go_wp2_with (first | (refine wpList_store_row rfl 24 _ _ rfl w3.heap.size (entA (gdK k) (gdLb k l) (gdS k s) (gdD k d)) rfl rfl 24 #[.int .i64 0, .int .i64 0, .int .i64 0, .int .u8 0, .int .u8 0, .int .u8 0, .int .u8 0, .int .u8 0, .int .u8 0, .int .u8 0, .int .u8 0, .int .u8 0, .int .u8 0, .int .u8 0, .int .u8 0, .int .u8 0, .int .u8 0, .int .u8 0, .int .u8 0] (unhide HNw4) (by rw [sizeTE, entA_size (unhide HGL)]) (by rw [entA_size (unhide HGL)]; rfl) (entA_one _ _ _ _) ?_; rw [unhide HWw4]))
  obtain ⟨bg, hbg⟩ : ∃ b, w3.heap.size = b := ⟨_, rfl⟩
  rw [hbg] at HBw4 ⊢
  clear HKw4 HNw4 HWw4 hbg
  have HBG := HBw4
  clear HBw4
  refine (within10_any x0 1000 _ (by omega) (by omega)).mono ?_
  rintro e wq ⟨rfl, hwq⟩
  subst hwq
  rw [unhide HS]
  go_wp2_with fail
  refine (within10_any x1 256 _ (by omega) (by omega)).mono ?_
  rintro e wr ⟨rfl, hwq⟩
  subst hwq
  rw [unhide HU]
  go_wp2_with fail
  refine (within10_any x2 256 _ (by omega) (by omega)).mono ?_
  rintro e ws ⟨rfl, hwq⟩
  subst hwq
  rw [unhide HV]
  go_wp2_with fail
  refine (within10_any x3 256 _ (by omega) (by omega)).mono ?_
  rintro e wt ⟨rfl, hwq⟩
  subst hwq
  rw [unhide HD]
  obtain ⟨w5, hw5⟩ : ∃ W, wt.alloc (.cells #[.int .i64 (1 + S), .int .i64 U, .int .i64 V, .int .i64 D] 29) = W := ⟨_, rfl⟩
  have HBH : Hid (AtB w5 wt.heap.size (headA (1 + S) U V D) 29) := ⟨by rw [← hw5]; exact World.alloc_heap_new wt _⟩
  have hk : Below wt.heap.size wt w5 := by rw [← hw5]; exact (Below.refl _ _).alloc (Nat.le_refl _) _
  replace HT := hide ((unhide HT).trans (hk.mono (unhide HT).size))
  replace HBE := hide ((unhide HBE).below hk)
  replace HBG := hide ((unhide HBG).below hk)
  obtain ⟨bh, hbh⟩ : ∃ b, wt.heap.size = b := ⟨_, rfl⟩
  rw [hbh] at HBH
  clear hk
  go_wp2_with (first | (refine wpList_load_want10 rfl 29 _ rfl bh rfl 29 (headA (1 + S) U V D) _ _ (unhide HBH).blk Try.underlying29 rfl (by rw [sizeTH]; rfl) ?_) | (refine wpList_load_want10 rfl 24 _ rfl bg rfl 24 (entA (gdK k) (gdLb k l) (gdS k s) (gdD k d)) _ _ (unhide HBG).blk Try.underlying24 rfl (by rw [sizeTE, entA_size (unhide HGL)]) ?_))
  clear hw5
  refine (bytes_any (1 + S) U V D (gdK k) (gdLb k l) (gdS k s) (gdD k d) (unhide HGL) (unhide HGB) _).mono ?_
  rintro e w6 ⟨ab, gb, cb, rfl, hrw, hk⟩
  replace HT := hide ((unhide HT).trans (hk.mono (unhide HT).size))
  replace HBE := hide ((unhide HBE).below hk)
  replace HBG := hide ((unhide HBG).below hk)
  replace HBH := hide ((unhide HBH).below hk)
  have HRB := hide hrw
  have HLEN : Hid ((byT (1 + S) U V D (gdK k) (gdLb k l) (gdS k s) (gdD k d)).length = 48) := byW_len (unhide HGL) rfl
  clear hk hrw
  go_wp2_with fail
  refine (parse_any ab gb 48 cb (byT (1 + S) U V D (gdK k) (gdLb k l) (gdS k s) (gdD k d)) _ (by omega) (unhide HLEN) (byW_byt (mem_lt10 (unhide HGB)) (by simp)) (unhide HRB)).mono ?_
  rintro e w7 ⟨hp, hk⟩
  obtain rfl := parse_back (unhide HGL) (mem_lt10 (unhide HGB)) ⟨by omega, by omega⟩ ⟨by omega, by omega⟩ ⟨by omega, by omega⟩ ⟨by omega, by omega⟩ (unhide HOK) hp
  replace HT := hide ((unhide HT).trans (hk.mono (unhide HT).size))
  replace HBE := hide ((unhide HBE).below hk)
  replace HBG := hide ((unhide HBG).below hk)
  replace HBH := hide ((unhide HBH).below hk)
  replace HRB := hide ((unhide HRB).below hk)
  clear hk hp
  obtain ⟨w8, hW⟩ : ∃ W, ((((w7.alloc (.cells #[.int .i64 0, .int .i64 0, .int .i64 0, .int .i64 0] 29)).alloc (.cells #[.int .i64 0, .int .i64 0, .int .i64 0, .int .u8 0, .int .u8 0, .int .u8 0, .int .u8 0, .int .u8 0, .int .u8 0, .int .u8 0, .int .u8 0, .int .u8 0, .int .u8 0, .int .u8 0, .int .u8 0, .int .u8 0, .int .u8 0, .int .u8 0, .int .u8 0] 24)).setRow w7.heap.size (headA (1 + S) U V D)).setRow (w7.heap.size + 1) (entA (gdK k) (gdLb k l) (gdS k s) (gdD k d))) = W := ⟨_, rfl⟩
  obtain ⟨n1, n2, n3, n4, n5⟩ := two_new10 w7 #[.int .i64 0, .int .i64 0, .int .i64 0, .int .i64 0] #[.int .i64 0, .int .i64 0, .int .i64 0, .int .u8 0, .int .u8 0, .int .u8 0, .int .u8 0, .int .u8 0, .int .u8 0, .int .u8 0, .int .u8 0, .int .u8 0, .int .u8 0, .int .u8 0, .int .u8 0, .int .u8 0, .int .u8 0, .int .u8 0, .int .u8 0] (headA (1 + S) U V D) (entA (gdK k) (gdLb k l) (gdS k s) (gdD k d)) 29 24 w8 hW
  have HXw8 := hide n1
  have HYw8 := hide n2
  have HHw8 := hide n3
  have HEw8 := hide n4
  have HKw8 := hide n5
  have HWw8 := hide hW
  clear n1 n2 n3 n4 n5 hW
  replace HT := hide ((unhide HT).trans ((unhide HKw8).mono (unhide HT).size))
  replace HBE := hide ((unhide HBE).below (unhide HKw8))
  replace HBG := hide ((unhide HBG).below (unhide HKw8))
  replace HBH := hide ((unhide HBH).below (unhide HKw8))
  replace HRB := hide ((unhide HRB).below (unhide HKw8))
  obtain ⟨w9, hw9⟩ : ∃ W, w8.alloc (.cells #[.int .i64 x0, .int .i64 x1, .int .i64 x2, .int .i64 x3] 29) = W := ⟨_, rfl⟩
  have HRH : Hid (AtB w9 w8.heap.size (headA x0 x1 x2 x3) 29) := ⟨by rw [← hw9]; exact World.alloc_heap_new w8 _⟩
  have hk : Below w8.heap.size w8 w9 := by rw [← hw9]; exact (Below.refl _ _).alloc (Nat.le_refl _) _
  replace HT := hide ((unhide HT).trans (hk.mono (unhide HT).size))
  replace HBE := hide ((unhide HBE).below hk)
  replace HBG := hide ((unhide HBG).below hk)
  replace HBH := hide ((unhide HBH).below hk)
  replace HRB := hide ((unhide HRB).below hk)
  have HXH := hide ((unhide HHw8).below hk)
  have HXE := hide ((unhide HEw8).below hk)
  clear hk
  go_wp2_with (first | (refine wpList_store_row rfl 29 _ _ rfl w7.heap.size (headA (1 + S) U V D) rfl rfl 29 #[.int .i64 0, .int .i64 0, .int .i64 0, .int .i64 0] (unhide HXw8).blk (by rw [sizeTH]; rfl) rfl (one_head _ _ _ _) ?_) | (refine wpList_store_row rfl 24 _ _ rfl (w7.heap.size + 1) (entA (gdK k) (gdLb k l) (gdS k s) (gdD k d)) rfl rfl 24 #[.int .i64 0, .int .i64 0, .int .i64 0, .int .u8 0, .int .u8 0, .int .u8 0, .int .u8 0, .int .u8 0, .int .u8 0, .int .u8 0, .int .u8 0, .int .u8 0, .int .u8 0, .int .u8 0, .int .u8 0, .int .u8 0, .int .u8 0, .int .u8 0, .int .u8 0] (unhide HYw8).blk (by rw [sizeTE, entA_size (unhide HGL)]) (by rw [entA_size (unhide HGL)]; rfl) (entA_one _ _ _ _) ?_; rw [unhide HWw8]))
  clear hw9 HXw8 HYw8 HHw8 HEw8 HKw8 HWw8
  have hqH : ∀ W, (binOp .eql 29 (.agg (headA (1 + S) U V D)) (.agg (headA (1 + S) U V D))).run Try.prog W = .ok (.bool true) W := fun W => eqTH _ _ _ _ _ _ _ _ true (by simp) W
  have hqE : ∀ W, (binOp .eql 24 (.agg (entA (gdK k) (gdLb k l) (gdS k s) (gdD k d))) (.agg (entA (gdK k) (gdLb k l) (gdS k s) (gdD k d)))).run Try.prog W = .ok (.bool true) W := fun W => eqTE _ _ _ _ _ _ _ _ (unhide HGL) (unhide HGL) true (by simp) W
  have HCK := hide (chkE_ok (unhide HOK))
  obtain ⟨C, hC⟩ : ∃ C, chkE k l s d = C := ⟨_, rfl⟩
  have HC := hide hC
  clear hC
  replace HT := hide ((unhide HT).drew)
  replace HBE := hide ((unhide HBE).below (Below.refl _ _).drew)
  replace HBG := hide ((unhide HBG).below (Below.refl _ _).drew)
  replace HBH := hide ((unhide HBH).below (Below.refl _ _).drew)
  replace HRB := hide ((unhide HRB).below (Below.refl _ _).drew)
  replace HXH := hide ((unhide HXH).below (Below.refl _ _).drew)
  replace HXE := hide ((unhide HXE).below (Below.refl _ _).drew)
  replace HRH := hide ((unhide HRH).below (Below.refl _ _).drew)
  refine wp_region_noPanic ?_
  refine wp_region_held_drew (S := fun W => Below w9.drew.heap.size w9.drew W) (by kernel_rfl) (Below.refl _ _) (fun hHeld => ?_)
  have HH := hide hHeld
  clear hHeld
  generalize w9.drew = w21 at HT HBE HBG HBH HRB HXH HXE HRH HH ⊢
  refine takeL (i := 0) (v := ?_) rfl (by kernel_rfl) (by kernel_rfl) (by kernel_rfl) (fun _ _ _ h => h) (Or.inl ⟨by rfl, ?_⟩) (unhide HH) ?_
  rotate_left 1
  · intro W hSW; go_simp; all_goals (with_reducible rfl)
  (try simp only [Act.put, List.setIfInBounds_toArray, List.set_cons_zero, List.set_cons_succ])
  refine takeL (i := 1) (v := ?_) rfl (by kernel_rfl) (by kernel_rfl) (by kernel_rfl) (fun _ _ _ h => h) (Or.inl ⟨by rfl, ?_⟩) (unhide HH) ?_
  rotate_left 1
  · intro V9 hSV; have hcv := run_conv V9 ab gb 48 cb (byT (1 + S) U V D (gdK k) (gdLb k l) (gdS k s) (gdD k d)) (unhide HLEN) ((unhide HRB).below hSV); clear hSV; go_simp; all_goals (with_reducible rfl)
  (try simp only [Act.put, List.setIfInBounds_toArray, List.set_cons_zero, List.set_cons_succ])
  refine takeL (i := 2) (v := .agg (headA (1 + S) U V D)) rfl (by kernel_rfl) (by kernel_rfl) (by kernel_rfl) (fun _ _ _ h => h) (Or.inl ⟨by rfl, fun W1 hSW => run_load_agg9 rfl rfl (load_TH ((unhide HBH).below hSW).blk rfl)⟩) (unhide HH) ?_
  (try simp only [Act.put, List.setIfInBounds_toArray, List.set_cons_zero, List.set_cons_succ])
  refine takeL (i := 3) (v := .agg (entA (gdK k) (gdLb k l) (gdS k s) (gdD k d))) rfl (by kernel_rfl) (by kernel_rfl) (by kernel_rfl) (fun _ _ _ h => h) (Or.inl ⟨by rfl, fun W1 hSW => run_load_agg9 rfl rfl (load_TE ((unhide HBG).below hSW).blk (entA_size (unhide HGL)))⟩) (unhide HH) ?_
  (try simp only [Act.put, List.setIfInBounds_toArray, List.set_cons_zero, List.set_cons_succ])
  refine wpAnyH_ready (rs := [4]) (by kernel_rfl) (by simp) ?_
  refine consL rfl (fun K hK => ?_) AllReadyH.nil
  go_simp
  refine (rbytes_any (1 + S) U V D (gdK k) (gdLb k l) (gdS k s) (gdD k d) (unhide HGL) _).mono ?_
  rintro e w22 ⟨g22, c22, rfl, ho, hk⟩
  have HRW22 := hide (row_of_owns ho)
  clear ho
  replace HBE := hide ((unhide HBE).below hk)
  replace HBG := hide ((unhide HBG).below hk)
  replace HBH := hide ((unhide HBH).below hk)
  replace HRB := hide ((unhide HRB).below hk)
  replace HXH := hide ((unhide HXH).below hk)
  replace HXE := hide ((unhide HXE).below hk)
  replace HRH := hide ((unhide HRH).below hk)
  replace HT := hide ((unhide HT).trans (hk.mono (unhide HT).size))
  refine hK.out _ _ hk (fun hHeld => ?_)
  clear hK K HH hHeld
  (try simp only [Act.put, List.setIfInBounds_toArray, List.set_cons_zero, List.set_cons_succ])
  refine stronger (S' := fun W => Below w22.heap.size w22 W) (fun W h => hk.trans (h.mono hk.size)) _ _ _ _ ?_
  have HH : Hid (Below w22.heap.size w22 w22) := Below.refl _ _
  clear hk
  refine takeL (i := 5) (v := ?_) rfl (by kernel_rfl) (by kernel_rfl) (by kernel_rfl) (fun _ _ _ h => h) (Or.inl ⟨by rfl, ?_⟩) (unhide HH) ?_
  rotate_left 1
  · intro V9 hSV; have hcv := run_conv V9 (some ⟨g22, 0, none⟩) g22 48 c22 (byT (1 + S) U V D (gdK k) (gdLb k l) (gdS k s) (gdD k d)) (byW_len (unhide HGL) rfl) ((unhide HRW22).below hSV); clear hSV; go_simp; all_goals (with_reducible rfl)
  (try simp only [Act.put, List.setIfInBounds_toArray, List.set_cons_zero, List.set_cons_succ])
  refine takeL (i := 6) (v := .bool true) rfl (by kernel_rfl) (by kernel_rfl) (by kernel_rfl) (fun _ _ _ h => h) (Or.inl ⟨by rfl, ?_⟩) (unhide HH) ?_
  · intro W hSW; go_simp; all_goals (first | rfl | simp)
  (try simp only [Act.put, List.setIfInBounds_toArray, List.set_cons_zero, List.set_cons_succ])
  refine takeL (i := 7) (v := ?_) rfl (by kernel_rfl) (by kernel_rfl) (by kernel_rfl) (fun _ _ _ h => h) (Or.inl ⟨by rfl, ?_⟩) (unhide HH) ?_
  rotate_left 1
  · intro W hSW; go_simp; all_goals (with_reducible rfl)
  (try simp only [Act.put, List.setIfInBounds_toArray, List.set_cons_zero, List.set_cons_succ])
  refine takeL (i := 8) (v := ?_) rfl (by kernel_rfl) (by kernel_rfl) (by kernel_rfl) (fun _ _ _ h => h) (Or.inl ⟨by rfl, ?_⟩) (unhide HH) ?_
  rotate_left 1
  · intro W hSW; go_simp; all_goals (with_reducible rfl)
  (try simp only [Act.put, List.setIfInBounds_toArray, List.set_cons_zero, List.set_cons_succ])
  refine takeL (i := 9) (v := .bool true) rfl (by kernel_rfl) (by kernel_rfl) (by kernel_rfl) (fun _ _ _ h => h) (Or.inl ⟨by rfl, ?_⟩) (unhide HH) ?_
  · intro W hSW; go_simp; all_goals (first | rfl | simp)
  (try simp only [Act.put, List.setIfInBounds_toArray, List.set_cons_zero, List.set_cons_succ])
  refine takeL (i := 10) (v := ?_) rfl (by kernel_rfl) (by kernel_rfl) (by kernel_rfl) (fun _ _ _ h => h) (Or.inl ⟨by rfl, ?_⟩) (unhide HH) ?_
  rotate_left 1
  · intro W hSW; go_simp; all_goals (with_reducible rfl)
  (try simp only [Act.put, List.setIfInBounds_toArray, List.set_cons_zero, List.set_cons_succ])
  refine takeL (i := 11) (v := ?_) rfl (by kernel_rfl) (by kernel_rfl) (by kernel_rfl) (fun _ _ _ h => h) (Or.inl ⟨by rfl, ?_⟩) (unhide HH) ?_
  rotate_left 1
  · intro W hSW; go_simp; all_goals (with_reducible rfl)
  (try simp only [Act.put, List.setIfInBounds_toArray, List.set_cons_zero, List.set_cons_succ])
  refine takeL (i := 12) (v := .agg (headA (1 + S) U V D)) rfl (by kernel_rfl) (by kernel_rfl) (by kernel_rfl) (fun _ _ _ h => h) (Or.inl ⟨by rfl, fun W1 hSW => run_load_agg9 rfl rfl (load_TH ((unhide HXH).below hSW).blk rfl)⟩) (unhide HH) ?_
  (try simp only [Act.put, List.setIfInBounds_toArray, List.set_cons_zero, List.set_cons_succ])
  refine takeL (i := 13) (v := .agg (headA (1 + S) U V D)) rfl (by kernel_rfl) (by kernel_rfl) (by kernel_rfl) (fun _ _ _ h => h) (Or.inl ⟨by rfl, fun W1 hSW => run_load_agg9 rfl rfl (load_TH ((unhide HBH).below hSW).blk rfl)⟩) (unhide HH) ?_
  (try simp only [Act.put, List.setIfInBounds_toArray, List.set_cons_zero, List.set_cons_succ])
  refine takeL (i := 14) (v := .bool true) rfl (by kernel_rfl) (by kernel_rfl) (by kernel_rfl) (fun _ _ _ h => h) (Or.inl ⟨by rfl, ?_⟩) (unhide HH) ?_
  · intro W hSW; go_simp; all_goals (first | rfl | simp)
  (try simp only [Act.put, List.setIfInBounds_toArray, List.set_cons_zero, List.set_cons_succ])
  refine takeL (i := 15) (v := ?_) rfl (by kernel_rfl) (by kernel_rfl) (by kernel_rfl) (fun _ _ _ h => h) (Or.inl ⟨by rfl, ?_⟩) (unhide HH) ?_
  rotate_left 1
  · intro W hSW; go_simp; all_goals (with_reducible rfl)
  (try simp only [Act.put, List.setIfInBounds_toArray, List.set_cons_zero, List.set_cons_succ])
  refine takeL (i := 16) (v := ?_) rfl (by kernel_rfl) (by kernel_rfl) (by kernel_rfl) (fun _ _ _ h => h) (Or.inl ⟨by rfl, ?_⟩) (unhide HH) ?_
  rotate_left 1
  · intro W hSW; go_simp; all_goals (with_reducible rfl)
  (try simp only [Act.put, List.setIfInBounds_toArray, List.set_cons_zero, List.set_cons_succ])
  refine takeL (i := 17) (v := .agg (entA (gdK k) (gdLb k l) (gdS k s) (gdD k d))) rfl (by kernel_rfl) (by kernel_rfl) (by kernel_rfl) (fun _ _ _ h => h) (Or.inl ⟨by rfl, fun W1 hSW => run_load_agg9 rfl rfl (load_TE ((unhide HXE).below hSW).blk (entA_size (unhide HGL)))⟩) (unhide HH) ?_
  (try simp only [Act.put, List.setIfInBounds_toArray, List.set_cons_zero, List.set_cons_succ])
  refine takeL (i := 18) (v := .agg (entA (gdK k) (gdLb k l) (gdS k s) (gdD k d))) rfl (by kernel_rfl) (by kernel_rfl) (by kernel_rfl) (fun _ _ _ h => h) (Or.inl ⟨by rfl, fun W1 hSW => run_load_agg9 rfl rfl (load_TE ((unhide HBG).below hSW).blk (entA_size (unhide HGL)))⟩) (unhide HH) ?_
  (try simp only [Act.put, List.setIfInBounds_toArray, List.set_cons_zero, List.set_cons_succ])
  refine takeL (i := 19) (v := .bool true) rfl (by kernel_rfl) (by kernel_rfl) (by kernel_rfl) (fun _ _ _ h => h) (Or.inl ⟨by rfl, ?_⟩) (unhide HH) ?_
  · intro W hSW; go_simp; all_goals (first | rfl | simp)
  (try simp only [Act.put, List.setIfInBounds_toArray, List.set_cons_zero, List.set_cons_succ])
  refine takeL (i := 20) (v := ?_) rfl (by kernel_rfl) (by kernel_rfl) (by kernel_rfl) (fun _ _ _ h => h) (Or.inl ⟨by rfl, ?_⟩) (unhide HH) ?_
  rotate_left 1
  · intro W hSW; go_simp; all_goals (with_reducible rfl)
  (try simp only [Act.put, List.setIfInBounds_toArray, List.set_cons_zero, List.set_cons_succ])
  refine takeL (i := 21) (v := ?_) rfl (by kernel_rfl) (by kernel_rfl) (by kernel_rfl) (fun _ _ _ h => h) (Or.inl ⟨by rfl, ?_⟩) (unhide HH) ?_
  rotate_left 1
  · intro W hSW; go_simp; all_goals (with_reducible rfl)
  (try simp only [Act.put, List.setIfInBounds_toArray, List.set_cons_zero, List.set_cons_succ])
  refine takeL (i := 22) (v := .agg (entA (gdK k) (gdLb k l) (gdS k s) (gdD k d))) rfl (by kernel_rfl) (by kernel_rfl) (by kernel_rfl) (fun _ _ _ h => h) (Or.inl ⟨by rfl, fun W1 hSW => run_load_agg9 rfl rfl (load_TE ((unhide HBG).below hSW).blk (entA_size (unhide HGL)))⟩) (unhide HH) ?_
  (try simp only [Act.put, List.setIfInBounds_toArray, List.set_cons_zero, List.set_cons_succ])
  refine wpAnyH_ready (rs := [23]) (by kernel_rfl) (by simp) ?_
  refine consL rfl (fun K hK => ?_) AllReadyH.nil
  go_simp
  refine (echeck_any (gdK k) (gdLb k l) (gdS k s) (gdD k d) (unhide HGL) _).mono ?_
  rintro e w23 ⟨rfl, hk⟩
  rw [unhide HCK]
  replace HBE := hide ((unhide HBE).below hk)
  replace HBG := hide ((unhide HBG).below hk)
  replace HBH := hide ((unhide HBH).below hk)
  replace HRB := hide ((unhide HRB).below hk)
  replace HXH := hide ((unhide HXH).below hk)
  replace HXE := hide ((unhide HXE).below hk)
  replace HRH := hide ((unhide HRH).below hk)
  replace HRW22 := hide ((unhide HRW22).below hk)
  replace HT := hide ((unhide HT).trans (hk.mono (unhide HT).size))
  refine hK.out _ _ hk (fun hHeld => ?_)
  clear hK K HH hHeld
  (try simp only [Act.put, List.setIfInBounds_toArray, List.set_cons_zero, List.set_cons_succ])
  refine stronger (S' := fun W => Below w23.heap.size w23 W) (fun W h => hk.trans (h.mono hk.size)) _ _ _ _ ?_
  have HH : Hid (Below w23.heap.size w23 w23) := Below.refl _ _
  clear hk
  refine takeL (i := 24) (v := .bool true) rfl (by kernel_rfl) (by kernel_rfl) (by kernel_rfl) (fun _ _ _ h => h) (Or.inl ⟨by rfl, ?_⟩) (unhide HH) ?_
  · intro W hSW; go_simp; all_goals (first | rfl | simp)
  (try simp only [Act.put, List.setIfInBounds_toArray, List.set_cons_zero, List.set_cons_succ])
  refine takeL (i := 25) (v := ?_) rfl (by kernel_rfl) (by kernel_rfl) (by kernel_rfl) (fun _ _ _ h => h) (Or.inl ⟨by rfl, ?_⟩) (unhide HH) ?_
  rotate_left 1
  · intro W hSW; go_simp; all_goals (with_reducible rfl)
  (try simp only [Act.put, List.setIfInBounds_toArray, List.set_cons_zero, List.set_cons_succ])
  refine takeL (i := 26) (v := ?_) rfl (by kernel_rfl) (by kernel_rfl) (by kernel_rfl) (fun _ _ _ h => h) (Or.inl ⟨by rfl, ?_⟩) (unhide HH) ?_
  rotate_left 1
  · intro W hSW; go_simp; all_goals (with_reducible rfl)
  (try simp only [Act.put, List.setIfInBounds_toArray, List.set_cons_zero, List.set_cons_succ])
  refine takeL (i := 27) (v := .agg (entA k l s d)) rfl (by kernel_rfl) (by kernel_rfl) (by kernel_rfl) (fun _ _ _ h => h) (Or.inl ⟨by rfl, fun W1 hSW => run_load_agg9 rfl rfl (load_TE ((unhide HBE).below hSW).blk (entA_size hd))⟩) (unhide HH) ?_
  (try simp only [Act.put, List.setIfInBounds_toArray, List.set_cons_zero, List.set_cons_succ])
  refine takeL (i := 29) (v := .agg (entA k l s d)) rfl (by kernel_rfl) (by kernel_rfl) (by kernel_rfl) (fun _ _ _ h => h) (Or.inl ⟨by rfl, fun W1 hSW => run_load_agg9 rfl rfl (load_TE ((unhide HBE).below hSW).blk (entA_size hd))⟩) (unhide HH) ?_
  (try simp only [Act.put, List.setIfInBounds_toArray, List.set_cons_zero, List.set_cons_succ])
  refine wpAnyH_ready (rs := [28]) (by kernel_rfl) (by simp) ?_
  refine consL rfl (fun K hK => ?_) AllReadyH.nil
  go_simp
  refine (echeck_any k l s d hd _).mono ?_
  rintro e w24 ⟨rfl, hk⟩
  rw [unhide HC]
  replace HBE := hide ((unhide HBE).below hk)
  replace HBG := hide ((unhide HBG).below hk)
  replace HBH := hide ((unhide HBH).below hk)
  replace HRB := hide ((unhide HRB).below hk)
  replace HXH := hide ((unhide HXH).below hk)
  replace HXE := hide ((unhide HXE).below hk)
  replace HRH := hide ((unhide HRH).below hk)
  replace HRW22 := hide ((unhide HRW22).below hk)
  replace HT := hide ((unhide HT).trans (hk.mono (unhide HT).size))
  refine hK.out _ _ hk (fun hHeld => ?_)
  clear hK K HH hHeld
  (try simp only [Act.put, List.setIfInBounds_toArray, List.set_cons_zero, List.set_cons_succ])
  refine stronger (S' := fun W => Below w24.heap.size w24 W) (fun W h => hk.trans (h.mono hk.size)) _ _ _ _ ?_
  have HH : Hid (Below w24.heap.size w24 w24) := Below.refl _ _
  clear hk
  refine wpAnyH_ready (rs := [30]) (by kernel_rfl) (by simp) ?_
  refine consL rfl (fun K hK => ?_) AllReadyH.nil
  go_simp
  refine (rcheckE_any k l s d hd _).mono ?_
  rintro e w25 ⟨rfl, hk⟩
  rw [unhide HC]
  replace HBE := hide ((unhide HBE).below hk)
  replace HBG := hide ((unhide HBG).below hk)
  replace HBH := hide ((unhide HBH).below hk)
  replace HRB := hide ((unhide HRB).below hk)
  replace HXH := hide ((unhide HXH).below hk)
  replace HXE := hide ((unhide HXE).below hk)
  replace HRH := hide ((unhide HRH).below hk)
  replace HRW22 := hide ((unhide HRW22).below hk)
  replace HT := hide ((unhide HT).trans (hk.mono (unhide HT).size))
  refine hK.out _ _ hk (fun hHeld => ?_)
  clear hK K HH hHeld
  (try simp only [Act.put, List.setIfInBounds_toArray, List.set_cons_zero, List.set_cons_succ])
  refine stronger (S' := fun W => Below w25.heap.size w25 W) (fun W h => hk.trans (h.mono hk.size)) _ _ _ _ ?_
  have HH : Hid (Below w25.heap.size w25 w25) := Below.refl _ _
  clear hk
  refine takeL (i := 31) (v := .bool true) rfl (by kernel_rfl) (by kernel_rfl) (by kernel_rfl) (fun _ _ _ h => h) (Or.inl ⟨by rfl, ?_⟩) (unhide HH) ?_
  · intro W hSW; go_simp; all_goals (first | rfl | simp)
  (try simp only [Act.put, List.setIfInBounds_toArray, List.set_cons_zero, List.set_cons_succ])
  refine takeL (i := 32) (v := ?_) rfl (by kernel_rfl) (by kernel_rfl) (by kernel_rfl) (fun _ _ _ h => h) (Or.inl ⟨by rfl, ?_⟩) (unhide HH) ?_
  rotate_left 1
  · intro W hSW; go_simp; all_goals (with_reducible rfl)
  (try simp only [Act.put, List.setIfInBounds_toArray, List.set_cons_zero, List.set_cons_succ])
  refine takeL (i := 33) (v := ?_) rfl (by kernel_rfl) (by kernel_rfl) (by kernel_rfl) (fun _ _ _ h => h) (Or.inl ⟨by rfl, ?_⟩) (unhide HH) ?_
  rotate_left 1
  · intro W hSW; go_simp; all_goals (with_reducible rfl)
  (try simp only [Act.put, List.setIfInBounds_toArray, List.set_cons_zero, List.set_cons_succ])
  refine takeL (i := 34) (v := .agg (headA x0 x1 x2 x3)) rfl (by kernel_rfl) (by kernel_rfl) (by kernel_rfl) (fun _ _ _ h => h) (Or.inl ⟨by rfl, fun W1 hSW => run_load_agg9 rfl rfl (load_TH ((unhide HRH).below hSW).blk rfl)⟩) (unhide HH) ?_
  (try simp only [Act.put, List.setIfInBounds_toArray, List.set_cons_zero, List.set_cons_succ])
  refine takeL (i := 35) (v := .agg (entA k l s d)) rfl (by kernel_rfl) (by kernel_rfl) (by kernel_rfl) (fun _ _ _ h => h) (Or.inl ⟨by rfl, fun W1 hSW => run_load_agg9 rfl rfl (load_TE ((unhide HBE).below hSW).blk (entA_size hd))⟩) (unhide HH) ?_
  (try simp only [Act.put, List.setIfInBounds_toArray, List.set_cons_zero, List.set_cons_succ])
  refine takeL (i := 38) (v := .agg (headA x0 x1 x2 x3)) rfl (by kernel_rfl) (by kernel_rfl) (by kernel_rfl) (fun _ _ _ h => h) (Or.inl ⟨by rfl, fun W1 hSW => run_load_agg9 rfl rfl (load_TH ((unhide HRH).below hSW).blk rfl)⟩) (unhide HH) ?_
  (try simp only [Act.put, List.setIfInBounds_toArray, List.set_cons_zero, List.set_cons_succ])
  refine takeL (i := 39) (v := .agg (entA k l s d)) rfl (by kernel_rfl) (by kernel_rfl) (by kernel_rfl) (fun _ _ _ h => h) (Or.inl ⟨by rfl, fun W1 hSW => run_load_agg9 rfl rfl (load_TE ((unhide HBE).below hSW).blk (entA_size hd))⟩) (unhide HH) ?_
  (try simp only [Act.put, List.setIfInBounds_toArray, List.set_cons_zero, List.set_cons_succ])
  refine wpAnyH_ready (rs := [36]) (by kernel_rfl) (by simp) ?_
  refine consL rfl (fun K hK => ?_) AllReadyH.nil
  go_simp
  refine (bytes_any x0 x1 x2 x3 k l s d hd (unhide HDB) _).mono ?_
  rintro e w26 ⟨a26, g26, c26, rfl, hrw, hk⟩
  have HRW26 := hide hrw
  clear hrw
  replace HBE := hide ((unhide HBE).below hk)
  replace HBG := hide ((unhide HBG).below hk)
  replace HBH := hide ((unhide HBH).below hk)
  replace HRB := hide ((unhide HRB).below hk)
  replace HXH := hide ((unhide HXH).below hk)
  replace HXE := hide ((unhide HXE).below hk)
  replace HRH := hide ((unhide HRH).below hk)
  replace HRW22 := hide ((unhide HRW22).below hk)
  replace HT := hide ((unhide HT).trans (hk.mono (unhide HT).size))
  refine hK.out _ _ hk (fun hHeld => ?_)
  clear hK K HH hHeld
  (try simp only [Act.put, List.setIfInBounds_toArray, List.set_cons_zero, List.set_cons_succ])
  refine stronger (S' := fun W => Below w26.heap.size w26 W) (fun W h => hk.trans (h.mono hk.size)) _ _ _ _ ?_
  have HH : Hid (Below w26.heap.size w26 w26) := Below.refl _ _
  clear hk
  refine takeL (i := 37) (v := ?_) rfl (by kernel_rfl) (by kernel_rfl) (by kernel_rfl) (fun _ _ _ h => h) (Or.inl ⟨by rfl, ?_⟩) (unhide HH) ?_
  rotate_left 1
  · intro V9 hSV; have hcv := run_conv V9 a26 g26 48 c26 (byT x0 x1 x2 x3 k l s d) (byW_len hd rfl) ((unhide HRW26).below hSV); clear hSV; go_simp; all_goals (with_reducible rfl)
  (try simp only [Act.put, List.setIfInBounds_toArray, List.set_cons_zero, List.set_cons_succ])
  refine wpAnyH_ready (rs := [40]) (by kernel_rfl) (by simp) ?_
  refine consL rfl (fun K hK => ?_) AllReadyH.nil
  go_simp
  refine (rbytes_any x0 x1 x2 x3 k l s d hd _).mono ?_
  rintro e w27 ⟨g27, c27, rfl, ho, hk⟩
  have HRW27 := hide (row_of_owns ho)
  clear ho
  replace HBE := hide ((unhide HBE).below hk)
  replace HBG := hide ((unhide HBG).below hk)
  replace HBH := hide ((unhide HBH).below hk)
  replace HRB := hide ((unhide HRB).below hk)
  replace HXH := hide ((unhide HXH).below hk)
  replace HXE := hide ((unhide HXE).below hk)
  replace HRH := hide ((unhide HRH).below hk)
  replace HRW22 := hide ((unhide HRW22).below hk)
  replace HRW26 := hide ((unhide HRW26).below hk)
  replace HT := hide ((unhide HT).trans (hk.mono (unhide HT).size))
  refine hK.out _ _ hk (fun hHeld => ?_)
  clear hK K HH hHeld
  (try simp only [Act.put, List.setIfInBounds_toArray, List.set_cons_zero, List.set_cons_succ])
  refine stronger (S' := fun W => Below w27.heap.size w27 W) (fun W h => hk.trans (h.mono hk.size)) _ _ _ _ ?_
  have HH : Hid (Below w27.heap.size w27 w27) := Below.refl _ _
  clear hk
  refine takeL (i := 41) (v := ?_) rfl (by kernel_rfl) (by kernel_rfl) (by kernel_rfl) (fun _ _ _ h => h) (Or.inl ⟨by rfl, ?_⟩) (unhide HH) ?_
  rotate_left 1
  · intro V9 hSV; have hcv := run_conv V9 (some ⟨g27, 0, none⟩) g27 48 c27 (byT x0 x1 x2 x3 k l s d) (byW_len hd rfl) ((unhide HRW27).below hSV); clear hSV; go_simp; all_goals (with_reducible rfl)
  (try simp only [Act.put, List.setIfInBounds_toArray, List.set_cons_zero, List.set_cons_succ])
  refine takeL (i := 42) (v := .bool true) rfl (by kernel_rfl) (by kernel_rfl) (by kernel_rfl) (fun _ _ _ h => h) (Or.inl ⟨by rfl, ?_⟩) (unhide HH) ?_
  · intro W hSW; go_simp; all_goals (first | rfl | simp)
  (try simp only [Act.put, List.setIfInBounds_toArray, List.set_cons_zero, List.set_cons_succ])
  refine takeL (i := 43) (v := ?_) rfl (by kernel_rfl) (by kernel_rfl) (by kernel_rfl) (fun _ _ _ h => h) (Or.inl ⟨by rfl, ?_⟩) (unhide HH) ?_
  rotate_left 1
  · intro W hSW; go_simp; all_goals (with_reducible rfl)
  (try simp only [Act.put, List.setIfInBounds_toArray, List.set_cons_zero, List.set_cons_succ])
  refine takeL (i := 44) (v := ?_) rfl (by kernel_rfl) (by kernel_rfl) (by kernel_rfl) (fun _ _ _ h => h) (Or.inl ⟨by rfl, ?_⟩) (unhide HH) ?_
  rotate_left 1
  · intro W hSW; go_simp; all_goals (with_reducible rfl)
  (try simp only [Act.put, List.setIfInBounds_toArray, List.set_cons_zero, List.set_cons_succ])
  refine wpAnyH_done (by kernel_rfl) ?_ _
  refine NoPanic.normal ?_
  go_wp2_with fail
  go_ret
  exact ⟨rfl, unhide HT⟩
end Go.Proofs.Ytabfaehpopeckaa
