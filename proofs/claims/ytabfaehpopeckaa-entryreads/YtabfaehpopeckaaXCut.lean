/-
  The walk of EntryCuts.
-/
import Derived.Test.YtabfaehpopeckaaE10k
import Derived.Test.YtabfaehpopeckaaR10b
import Derived.Test.YtabfaehpopeckaaH10g
namespace Go.Proofs.Ytabfaehpopeckaa
open Go.RowKit Go.Shelf

theorem gd_ok (k l s : Int) (d : List Nat) : okE (gdK k) (gdLb k l) (gdS k s) (gdD k d) := by
  unfold gdK gdLb gdS gdD okE
  refine ⟨⟨by omega, by omega⟩, fun h => ?_, fun h => ?_, fun h => ?_⟩
  · rw [if_pos h, if_pos h]; omega
  · rw [if_neg h, if_neg h]; exact ⟨rfl, rfl⟩
  · rw [if_neg h]
theorem zer16_cf (j : Nat) : cf zer16 j = 0 := cf_replicate 16 j
theorem gd_lt (k : Int) {d : List Nat} (h : ∀ j, cf d j < 256) : ∀ j, cf (gdD k d) j < 256 := by
  intro j
  unfold gdD
  split
  · exact h j
  · rw [zer16_cf]; omega
theorem row_take {w : World} {ao : Option Addr} {g : Nat} {zs : List Int} (h : Row w ao g zs) (n : Nat) : Row w ao g (zs.take n) := by
  rcases h with h | ⟨o, h1, h2⟩
  · exact .inl (by rw [h]; simp)
  · refine .inr ⟨o, h1, fun j hj => ?_⟩
    rw [List.length_take] at hj
    have e : (zs.take n).getD j 0 = zs.getD j 0 := by rw [List.getD_eq_getElem?_getD, List.getD_eq_getElem?_getD, List.getElem?_take, if_pos (by omega)]
    rw [h2 j (by omega), e]

set_option maxRecDepth 100000 in
set_option maxHeartbeats 32000000 in
theorem cuts_any (k l s : Int) (d : List Nat) (hd : d.length = 16) (hdb : ∀ j, cf d j < 256) (n : Int) (w : World) : Calls Try.prog 8 #[.agg (entA k l s d), .int .i64 n] w fun e w' => e = .returned (.bool true) ∧ Below w.heap.size w w' := by
  obtain ⟨N, hN, N1, N2⟩ : ∃ r : Int, n % 100 = r ∧ 0 ≤ r ∧ r < 100 := ⟨_, rfl, Int.emod_nonneg _ (by omega), Int.emod_lt_of_pos _ (by omega)⟩
  have HF := hide hN
  clear hN
  obtain ⟨M, rfl⟩ := Int.eq_ofNat_of_zero_le N1
  obtain ⟨w1, hw1⟩ : ∃ w1, w.alloc (.cells (entA k l s d) 24) = w1 := ⟨_, rfl⟩
  have HE : Hid (AtB w1 w.heap.size (entA k l s d) 24) := ⟨by rw [← hw1]; exact World.alloc_heap_new w _⟩
  have HT : Hid (Below w.heap.size w w1) := by rw [← hw1]; exact (Below.refl _ w).alloc (Nat.le_refl _) _
  obtain ⟨i0, hi0, hz0, hzz1, hz2⟩ := info_parts infoE
  have HI0 := hide hi0
  have HOK := hide (gd_ok k l s d)
  have HGL := hide (gdD_len (k := k) hd)
  have HGB := hide (gd_lt k hdb)
  clear hi0 hdb
  go_enter Try.func8, Try.ntmps8
  go_wp2_with fail
  clear hw1
  refine (known10_any _).mono ?_
  rintro e w2 ⟨rfl, hk⟩
  replace HT := hide ((unhide HT).trans (hk.mono (unhide HT).size))
  replace HE := hide ((unhide HE).below hk)
  clear hk
  go_wp2_with fail
  refine (within10_any n 100 _ (by omega) (by omega)).mono ?_
  rintro e w3 ⟨rfl, hw3⟩
  subst hw3
  rw [unhide HF]
  clear HF
  go_wp2_with (refine wpList_load_want10 rfl 24 _ rfl w.heap.size rfl 24 (entA k l s d) _ _ (unhide HE).blk Try.underlying24 rfl (by rw [sizeTE, entA_size hd]) ?_)
  refine (good_any k l s d hd _).mono ?_
  rintro e w4 ⟨rfl, hk⟩
  replace HT := hide ((unhide HT).trans (hk.mono (unhide HT).size))
  clear hk HE
  go_wp2_with fail
  refine (rbytes_any 3 0 0 0 (gdK k) (gdLb k l) (gdS k s) (gdD k d) (unhide HGL) _).mono ?_
  rintro e w5 ⟨g5, c5, rfl, ho, hk⟩
  have hsz4 := (unhide HT).size
  replace HT := hide ((unhide HT).trans (hk.mono hsz4))
  have HO := hide ho
  have hsz5 : w4.heap.size ≤ w5.heap.size := hk.size
  clear ho hk
  go_wp2_with (at_builtin; refine wpList_append_zeros _ rfl _ _ 30 3 rfl w4.heap.size 5 i0 Try.underlying30 Try.underlying3 (unhide HI0) hz0 hzz1 hz2 g5 48 c5 (byT 3 0 0 0 (gdK k) (gdLb k l) (gdS k s) (gdD k d)) rfl (unhide HO) 60 rfl (by omega) (by omega) hsz5 ?_)
  intro g6 c6 w6 ys hys ho hg
  have hb6 : Below w.heap.size w w6 := below_grown (unhide HT) hg (unhide HT).size (fun k hk => by cases hk; have h1 := ((unhide HO).lt g5 rfl).1; omega)
  replace HT := hide hb6
  have HR := hide (row_of_owns ho)
  have hcap : 108 ≤ c6 := by
    rcases ho.2 with ⟨hx, _⟩ | ⟨g, cap, cur, hx, _, _, h1, _⟩
    · cases hx
    · cases hx; exact h1
  have HYS : Hid (ys = byT 3 0 0 0 (gdK k) (gdLb k l) (gdS k s) (gdD k d) ++ List.replicate 60 0) := (unhide hys).symm
  have hNM : (M : Int) ≤ c6 := by omega
  have hNM' : M ≤ 99 := by omega
  have HYB : Hid (Byt ys) := by
    unfold Hid
    rw [unhide HYS]
    refine byt_app (byW_byt (mem_lt10 (unhide HGB)) (by simp)) (fun z hz => ?_)
    rw [List.eq_of_mem_replicate hz]; omega
  have HYL : Hid (ys.length = 108) := by
    unfold Hid
    rw [unhide HYS, List.length_append, List.length_replicate]
    have : (byT 3 0 0 0 (gdK k) (gdLb k l) (gdS k s) (gdD k d)).length = 48 := byW_len (unhide HGL) rfl
    omega
  clear ho hg hys hb6 HO hsz4 hsz5
  go_wp2_with fail
  refine (parse_any (some ⟨g6, 0, none⟩) g6 M c6 (ys.take M) _ (by omega) (by rw [List.length_take, unhide HYL]; omega) (fun z hz => unhide HYB z (List.mem_of_mem_take hz)) (row_take (unhide HR) M)).mono ?_
  rintro e w7 ⟨hp, hk⟩
  replace HT := hide ((unhide HT).trans (hk.mono (unhide HT).size))
  have hl : (ys.take M).length = M := by rw [List.length_take, unhide HYL]; omega
  clear hk HR
  rcases (show M < 48 ∨ M = 48 ∨ 48 < M by omega) with hm | hm | hm
  · obtain rfl := parR_err hp ((parE_code (by rw [cod_cut (by rw [hl]; exact hm)]; omega)).trans (cod_cut (by rw [hl]; exact hm))) (by omega)
    have hm' : (M : Int) < 48 := by omega
    clear hm
    obtain ⟨W8, hW⟩ : ∃ W, ((((w7.alloc (.cells #[.int .i64 0, .int .i64 0, .int .i64 0, .int .i64 0] 29)).alloc (.cells #[.int .i64 0, .int .i64 0, .int .i64 0, .int .u8 0, .int .u8 0, .int .u8 0, .int .u8 0, .int .u8 0, .int .u8 0, .int .u8 0, .int .u8 0, .int .u8 0, .int .u8 0, .int .u8 0, .int .u8 0, .int .u8 0, .int .u8 0, .int .u8 0, .int .u8 0] 24)).setRow w7.heap.size (headA 0 0 0 0)).setRow (w7.heap.size + 1) (entA 0 0 0 zer16)) = W := ⟨_, rfl⟩
    obtain ⟨n1, n2, n3, n4, n5⟩ := two_new10 w7 #[.int .i64 0, .int .i64 0, .int .i64 0, .int .i64 0] #[.int .i64 0, .int .i64 0, .int .i64 0, .int .u8 0, .int .u8 0, .int .u8 0, .int .u8 0, .int .u8 0, .int .u8 0, .int .u8 0, .int .u8 0, .int .u8 0, .int .u8 0, .int .u8 0, .int .u8 0, .int .u8 0, .int .u8 0, .int .u8 0, .int .u8 0] (headA 0 0 0 0) (entA 0 0 0 zer16) 29 24 W8 hW
    have HXW8 := hide n1
    have HYW8 := hide n2
    have HHW8 := hide n3
    have HEW8 := hide n4
    have HKW8 := hide n5
    have HWW8 := hide hW
    clear n1 n2 n3 n4 n5 hW
    replace HT := hide ((unhide HT).trans ((unhide HKW8).mono (unhide HT).size))
    have hq : ∀ W, (binOp .neq 29 (.agg (headA 0 0 0 0)) (.agg #[.int .i64 0, .int .i64 0, .int .i64 0, .int .i64 0])).run Try.prog W = .ok (.bool false) W := fun W => neTH 0 0 0 0 0 0 0 0 false rfl W
    have hq2 : ∀ W, (binOp .eql 24 (.agg (entA 0 0 0 zer16)) (.agg #[.int .i64 0, .int .i64 0, .int .i64 0, .int .u8 0, .int .u8 0, .int .u8 0, .int .u8 0, .int .u8 0, .int .u8 0, .int .u8 0, .int .u8 0, .int .u8 0, .int .u8 0, .int .u8 0, .int .u8 0, .int .u8 0, .int .u8 0, .int .u8 0, .int .u8 0])).run Try.prog W = .ok (.bool true) W := fun W => eqTE 0 0 0 0 0 0 zer16 zer16 zer16_len zer16_len true (by simp) W
    clear hp hl
    go_wp2_with (first | (refine wpList_store_row rfl 29 _ _ rfl w7.heap.size (headA 0 0 0 0) rfl rfl 29 #[.int .i64 0, .int .i64 0, .int .i64 0, .int .i64 0] (unhide HXW8).blk (by rw [sizeTH]; rfl) rfl (one_head _ _ _ _) ?_) | (refine wpList_store_row rfl 24 _ _ rfl (w7.heap.size + 1) (entA 0 0 0 zer16) rfl rfl 24 #[.int .i64 0, .int .i64 0, .int .i64 0, .int .u8 0, .int .u8 0, .int .u8 0, .int .u8 0, .int .u8 0, .int .u8 0, .int .u8 0, .int .u8 0, .int .u8 0, .int .u8 0, .int .u8 0, .int .u8 0, .int .u8 0, .int .u8 0, .int .u8 0, .int .u8 0] (unhide HYW8).blk (by rw [sizeTE, entA_size zer16_len]) (by rw [entA_size zer16_len]; rfl) (entA_one _ _ _ _) ?_; rw [unhide HWW8]) | (refine wpList_load_want10 rfl 29 _ rfl w7.heap.size rfl 29 (headA 0 0 0 0) _ _ (unhide HHW8).blk Try.underlying29 rfl (by rw [sizeTH]; rfl) ?_) | (refine wpList_load_want10 rfl 24 _ rfl (w7.heap.size + 1) rfl 24 (entA 0 0 0 zer16) _ _ (unhide HEW8).blk Try.underlying24 rfl (by rw [sizeTE, entA_size zer16_len]) ?_))
    go_ret
    exact ⟨rfl, unhide HT⟩
  · subst hm
    have hy : ys.take 48 = byT 3 0 0 0 (gdK k) (gdLb k l) (gdS k s) (gdD k d) := by
      have h1 : (byT 3 0 0 0 (gdK k) (gdLb k l) (gdS k s) (gdD k d)).length = 48 := byW_len (unhide HGL) rfl
      rw [unhide HYS, List.take_append_of_le_length (by omega), List.take_of_length_le (by omega)]
    rw [hy] at hp
    obtain rfl := parse_back (unhide HGL) (mem_lt10 (unhide HGB)) ⟨by omega, by omega⟩ ⟨by omega, by omega⟩ ⟨by omega, by omega⟩ ⟨by omega, by omega⟩ (unhide HOK) hp
    clear hy
    obtain ⟨W8, hW⟩ : ∃ W, ((((w7.alloc (.cells #[.int .i64 0, .int .i64 0, .int .i64 0, .int .i64 0] 29)).alloc (.cells #[.int .i64 0, .int .i64 0, .int .i64 0, .int .u8 0, .int .u8 0, .int .u8 0, .int .u8 0, .int .u8 0, .int .u8 0, .int .u8 0, .int .u8 0, .int .u8 0, .int .u8 0, .int .u8 0, .int .u8 0, .int .u8 0, .int .u8 0, .int .u8 0, .int .u8 0] 24)).setRow w7.heap.size (headA 3 0 0 0)).setRow (w7.heap.size + 1) (entA (gdK k) (gdLb k l) (gdS k s) (gdD k d))) = W := ⟨_, rfl⟩
    obtain ⟨n1, n2, n3, n4, n5⟩ := two_new10 w7 #[.int .i64 0, .int .i64 0, .int .i64 0, .int .i64 0] #[.int .i64 0, .int .i64 0, .int .i64 0, .int .u8 0, .int .u8 0, .int .u8 0, .int .u8 0, .int .u8 0, .int .u8 0, .int .u8 0, .int .u8 0, .int .u8 0, .int .u8 0, .int .u8 0, .int .u8 0, .int .u8 0, .int .u8 0, .int .u8 0, .int .u8 0] (headA 3 0 0 0) (entA (gdK k) (gdLb k l) (gdS k s) (gdD k d)) 29 24 W8 hW
    have HXW8 := hide n1
    have HYW8 := hide n2
    have HHW8 := hide n3
    have HEW8 := hide n4
    have HKW8 := hide n5
    have HWW8 := hide hW
    clear n1 n2 n3 n4 n5 hW
    replace HT := hide ((unhide HT).trans ((unhide HKW8).mono (unhide HT).size))
    have hq : ∀ W, (binOp .neq 29 (.agg (headA 3 0 0 0)) (.agg #[.int .i64 0, .int .i64 0, .int .i64 0, .int .i64 0])).run Try.prog W = .ok (.bool true) W := fun W => neTH 3 0 0 0 0 0 0 0 true rfl W
    clear hp hl
    go_wp2_with (first | (refine wpList_store_row rfl 29 _ _ rfl w7.heap.size (headA 3 0 0 0) rfl rfl 29 #[.int .i64 0, .int .i64 0, .int .i64 0, .int .i64 0] (unhide HXW8).blk (by rw [sizeTH]; rfl) rfl (one_head _ _ _ _) ?_) | (refine wpList_store_row rfl 24 _ _ rfl (w7.heap.size + 1) (entA (gdK k) (gdLb k l) (gdS k s) (gdD k d)) rfl rfl 24 #[.int .i64 0, .int .i64 0, .int .i64 0, .int .u8 0, .int .u8 0, .int .u8 0, .int .u8 0, .int .u8 0, .int .u8 0, .int .u8 0, .int .u8 0, .int .u8 0, .int .u8 0, .int .u8 0, .int .u8 0, .int .u8 0, .int .u8 0, .int .u8 0, .int .u8 0] (unhide HYW8).blk (by rw [sizeTE, entA_size (unhide HGL)]) (by rw [entA_size (unhide HGL)]; rfl) (entA_one _ _ _ _) ?_; rw [unhide HWW8]) | (refine wpList_load_want10 rfl 29 _ rfl w7.heap.size rfl 29 (headA 3 0 0 0) _ _ (unhide HHW8).blk Try.underlying29 rfl (by rw [sizeTH]; rfl) ?_) | (refine wpList_load_want10 rfl 24 _ rfl (w7.heap.size + 1) rfl 24 (entA (gdK k) (gdLb k l) (gdS k s) (gdD k d)) _ _ (unhide HEW8).blk Try.underlying24 rfl (by rw [sizeTE, entA_size (unhide HGL)]) ?_))
    go_ret
    exact ⟨rfl, unhide HT⟩
  · obtain rfl := parR_err hp ((parE_code (by rw [cod_more (by rw [hl]; exact hm)]; omega)).trans (cod_more (by rw [hl]; exact hm))) (by omega)
    have hm' : (48 : Int) < M := by omega
    clear hm
    obtain ⟨W8, hW⟩ : ∃ W, ((((w7.alloc (.cells #[.int .i64 0, .int .i64 0, .int .i64 0, .int .i64 0] 29)).alloc (.cells #[.int .i64 0, .int .i64 0, .int .i64 0, .int .u8 0, .int .u8 0, .int .u8 0, .int .u8 0, .int .u8 0, .int .u8 0, .int .u8 0, .int .u8 0, .int .u8 0, .int .u8 0, .int .u8 0, .int .u8 0, .int .u8 0, .int .u8 0, .int .u8 0, .int .u8 0] 24)).setRow w7.heap.size (headA 0 0 0 0)).setRow (w7.heap.size + 1) (entA 0 0 0 zer16)) = W := ⟨_, rfl⟩
    obtain ⟨n1, n2, n3, n4, n5⟩ := two_new10 w7 #[.int .i64 0, .int .i64 0, .int .i64 0, .int .i64 0] #[.int .i64 0, .int .i64 0, .int .i64 0, .int .u8 0, .int .u8 0, .int .u8 0, .int .u8 0, .int .u8 0, .int .u8 0, .int .u8 0, .int .u8 0, .int .u8 0, .int .u8 0, .int .u8 0, .int .u8 0, .int .u8 0, .int .u8 0, .int .u8 0, .int .u8 0] (headA 0 0 0 0) (entA 0 0 0 zer16) 29 24 W8 hW
    have HXW8 := hide n1
    have HYW8 := hide n2
    have HHW8 := hide n3
    have HEW8 := hide n4
    have HKW8 := hide n5
    have HWW8 := hide hW
    clear n1 n2 n3 n4 n5 hW
    replace HT := hide ((unhide HT).trans ((unhide HKW8).mono (unhide HT).size))
    have hq : ∀ W, (binOp .neq 29 (.agg (headA 0 0 0 0)) (.agg #[.int .i64 0, .int .i64 0, .int .i64 0, .int .i64 0])).run Try.prog W = .ok (.bool false) W := fun W => neTH 0 0 0 0 0 0 0 0 false rfl W
    have hq2 : ∀ W, (binOp .eql 24 (.agg (entA 0 0 0 zer16)) (.agg #[.int .i64 0, .int .i64 0, .int .i64 0, .int .u8 0, .int .u8 0, .int .u8 0, .int .u8 0, .int .u8 0, .int .u8 0, .int .u8 0, .int .u8 0, .int .u8 0, .int .u8 0, .int .u8 0, .int .u8 0, .int .u8 0, .int .u8 0, .int .u8 0, .int .u8 0])).run Try.prog W = .ok (.bool true) W := fun W => eqTE 0 0 0 0 0 0 zer16 zer16 zer16_len zer16_len true (by simp) W
    clear hp hl
    go_wp2_with (first | (refine wpList_store_row rfl 29 _ _ rfl w7.heap.size (headA 0 0 0 0) rfl rfl 29 #[.int .i64 0, .int .i64 0, .int .i64 0, .int .i64 0] (unhide HXW8).blk (by rw [sizeTH]; rfl) rfl (one_head _ _ _ _) ?_) | (refine wpList_store_row rfl 24 _ _ rfl (w7.heap.size + 1) (entA 0 0 0 zer16) rfl rfl 24 #[.int .i64 0, .int .i64 0, .int .i64 0, .int .u8 0, .int .u8 0, .int .u8 0, .int .u8 0, .int .u8 0, .int .u8 0, .int .u8 0, .int .u8 0, .int .u8 0, .int .u8 0, .int .u8 0, .int .u8 0, .int .u8 0, .int .u8 0, .int .u8 0, .int .u8 0] (unhide HYW8).blk (by rw [sizeTE, entA_size zer16_len]) (by rw [entA_size zer16_len]; rfl) (entA_one _ _ _ _) ?_; rw [unhide HWW8]) | (refine wpList_load_want10 rfl 29 _ rfl w7.heap.size rfl 29 (headA 0 0 0 0) _ _ (unhide HHW8).blk Try.underlying29 rfl (by rw [sizeTH]; rfl) ?_) | (refine wpList_load_want10 rfl 24 _ rfl (w7.heap.size + 1) rfl 24 (entA 0 0 0 zer16) _ _ (unhide HEW8).blk Try.underlying24 rfl (by rw [sizeTE, entA_size zer16_len]) ?_))
    go_ret
    exact ⟨rfl, unhide HT⟩
end Go.Proofs.Ytabfaehpopeckaa
