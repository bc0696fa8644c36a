/-
  The walk of EntrySerials.
-/
import Derived.Test.YtabfaehpopeckabXCut
namespace Go.Proofs.Ytabfaehpopeckab
open Go.RowKit Go.Shelf

/-- What bytes with whatever at their end tell. -/
theorem par_tail {a k l s : Int} {d t : List Nat} (hd : d.length = 16) (hdb : ∀ x ∈ d, x < 256) (ht : t.length = 4) (htb : ∀ x ∈ t, x < 256) (ha : -9223372036854775808 ≤ a ∧ a ≤ 9223372036854775807) (hok : okE k l s d) :
    parE (byW a 0 0 0 k l s d t) = if (1 ≤ a ∧ a ≤ 1099511627776) ∧ t = [0, 0, 0, 0] then 0 else 5 := by
  obtain ⟨r1, r2, r3, r4⟩ := read_byW a 0 0 0 k l s d t hd ht hdb htb
  have hk := hok.1
  have ek : k % 256 = k := by omega
  have hl : -9223372036854775808 ≤ l ∧ l ≤ 9223372036854775807 := by
    by_cases hq : k = 1 ∨ k = 2
    · have := (hok.2.1 hq).1; omega
    · have := (hok.2.2.1 hq).1; omega
  have hs : -9223372036854775808 ≤ s ∧ s ≤ 9223372036854775807 := by
    by_cases hq : k = 1 ∨ k = 2
    · have := (hok.2.1 hq).2; omega
    · have := (hok.2.2.1 hq).2; omega
  rw [wrap64_in10 hl, wrap64_in10 hs, ek] at r2
  rw [wrap64_in10 ha] at r1
  have hD : pD (byW a 0 0 0 k l s d t) = d := by
    unfold pD
    rw [r2]
    exact nat10_ints d
  by_cases h : (1 ≤ a ∧ a ≤ 1099511627776) ∧ t = [0, 0, 0, 0]
  · rw [if_pos h]
    refine parE_ok r4 ?_
    unfold badP
    rw [hD, r1, r2, r3]
    rintro (h' | h' | h')
    · exact h' (by rw [h.2]; rfl)
    · exact h' h.1
    · exact h' hok
  · rw [if_neg h]
    refine parE_bad r4 ?_
    unfold badP
    rw [hD, r1, r2, r3]
    by_cases ht : t = [0, 0, 0, 0]
    · exact .inr (.inl (fun h' => h ⟨h', ht⟩))
    · refine .inl (fun e => ht ?_)
      have := congrArg nat10 e
      rw [nat10_ints] at this
      exact this
theorem set_zero (j y : Nat) (hj : j < 4) : [0, 0, 0, 0].set j y = [0, 0, 0, 0] ↔ y = 0 := by
  match j, hj with
  | 0, _ => simp
  | 1, _ => simp
  | 2, _ => simp
  | 3, _ => simp
theorem row_set {w : World} {g i : Nat} {cur : Array Value} {ty : TypeId} {zs : List Int} (h : w.heap[g]? = some (.cells cur ty (0, 0))) (hr : Row w (some ⟨g, 0, none⟩) g zs) (hi : i < zs.length) (x : Int) : Row (w.setCell ⟨g, i, none⟩ (.int .u8 x)) (some ⟨g, 0, none⟩) g (zs.set i x) := by
  have hc := heap_setCell_same w g i cur ty (.int .u8 x) h
  rcases hr with h0 | ⟨o, h0, h1⟩
  · rw [h0] at hi; simp at hi
  · cases h0
    refine .inr ⟨0, rfl, fun j hj => ?_⟩
    rw [List.length_set] at hj
    have h2 := h1 j hj
    rw [Nat.zero_add] at h2 ⊢
    have e : w.cell? ⟨g, j, none⟩ = cur[j]? := by simp [World.cell?, h]
    rw [e] at h2
    have hjs : j < cur.size := by
      by_cases hh : j < cur.size
      · exact hh
      · rw [Array.getElem?_eq_none (by omega)] at h2; cases h2
    have e2 : (w.setCell ⟨g, i, none⟩ (.int .u8 x)).cell? ⟨g, j, none⟩ = (cur.setIfInBounds i (.int .u8 x))[j]? := by simp [World.cell?, hc]
    rw [e2, Array.getElem?_setIfInBounds]
    by_cases hij : i = j
    · subst hij
      rw [if_pos rfl, if_pos hjs]
      simp [List.getD_eq_getElem?_getD, hj]
    · rw [if_neg hij, h2]
      simp [List.getD_eq_getElem?_getD, hij]
theorem byW_set (a k l s : Int) (d : List Nat) (hd : d.length = 16) (j x : Nat) (hj : j < 4) : (byW a 0 0 0 k l s d [0, 0, 0, 0]).set (44 + j) (x : Int) = byW a 0 0 0 k l s d ([0, 0, 0, 0].set j x) := by
  unfold byW
  have h1 : (by8 8 (IntKind.u64.wrap a)).length = 8 := by8_length _ _
  have h2 : (by8 8 (IntKind.u64.wrap l)).length = 8 := by8_length _ _
  have h3 : (by8 8 (IntKind.u64.wrap s)).length = 8 := by8_length _ _
  have h4 : (ints d).length = 16 := by rw [ints_len10, hd]
  rw [List.set_append_right _ _ (by omega), List.set_append_right _ _ (by simp; omega), List.set_append_right _ _ (by simp; omega), List.set_append_right _ _ (by simp; omega), List.set_append_right _ _ (by simp; omega)]
  have e : 44 + j - (by8 8 (IntKind.u64.wrap a)).length - [(0 : Int) % 256, 0 % 256, 0 % 256, k % 256].length - (by8 8 (IntKind.u64.wrap l)).length - (by8 8 (IntKind.u64.wrap s)).length - (ints d).length = j := by
    rw [h1, h2, h3, h4]
    simp
    omega
  rw [e]
  congr 5
  match j, hj with
  | 0, _ => rfl
  | 1, _ => rfl
  | 2, _ => rfl
  | 3, _ => rfl

set_option maxRecDepth 100000 in
set_option maxHeartbeats 32000000 in
theorem serials_any (k l s : Int) (d : List Nat) (hd : d.length = 16) (hdb : ∀ j, cf d j < 256) (wh x n : Int) (hx : 0 ≤ x ∧ x ≤ 255) (w : World) : Calls Try.prog 3 #[.agg (entA k l s d), .int .i64 wh, .int .u8 x, .int .i64 n] w fun e w' => e = .returned (.bool true) ∧ Below w.heap.size w w' := by
  obtain ⟨N, hN, N1, N2⟩ : ∃ r : Int, n % 1000 = r ∧ 0 ≤ r ∧ r < 1000 := ⟨_, rfl, Int.emod_nonneg _ (by omega), Int.emod_lt_of_pos _ (by omega)⟩
  obtain ⟨R, hR, R1, R2⟩ : ∃ r : Int, wh % 6 = r ∧ 0 ≤ r ∧ r < 6 := ⟨_, rfl, Int.emod_nonneg _ (by omega), Int.emod_lt_of_pos _ (by omega)⟩
  obtain ⟨J, hJ, J1, J2⟩ : ∃ r : Int, wh % 4 = r ∧ 0 ≤ r ∧ r < 4 := ⟨_, rfl, Int.emod_nonneg _ (by omega), Int.emod_lt_of_pos _ (by omega)⟩
  have HN := hide hN
  have HR := hide hR
  have HJ := hide hJ
  clear hN hR hJ
  obtain ⟨r, rfl⟩ := Int.eq_ofNat_of_zero_le R1
  obtain ⟨j, rfl⟩ := Int.eq_ofNat_of_zero_le J1
  obtain ⟨y, rfl⟩ := Int.eq_ofNat_of_zero_le hx.1
  have hy : y < 256 := by have := hx.2; omega
  clear hx
  have HVX : Hid (∃ V : Int, (#[.int .i64 0, .int .i64 (-1 - N), .int .i64 (1099511627777 + N), .int .i64 9223372036854775807, .int .i64 1099511627776, .int .i64 1] : Array Value)[r]? = some (.int .i64 V) ∧ (-9223372036854775808 ≤ V ∧ V ≤ 9223372036854775807) ∧ ((4 ≤ r ∧ 1 ≤ V ∧ V ≤ 1099511627776) ∨ (r < 4 ∧ ¬ (1 ≤ V ∧ V ≤ 1099511627776)))) := by
    have hr : r < 6 := by omega
    match r, hr with
    | 0, _ => exact ⟨_, rfl, by omega, .inr (by omega)⟩
    | 1, _ => exact ⟨_, rfl, by omega, .inr (by omega)⟩
    | 2, _ => exact ⟨_, rfl, by omega, .inr (by omega)⟩
    | 3, _ => exact ⟨_, rfl, by omega, .inr (by omega)⟩
    | 4, _ => exact ⟨_, rfl, by omega, .inl (by omega)⟩
    | 5, _ => exact ⟨_, rfl, by omega, .inl (by omega)⟩
  obtain ⟨w1, hw1⟩ : ∃ w1, w.alloc (.cells (entA k l s d) 24) = w1 := ⟨_, rfl⟩
  have HBE : Hid (AtB w1 w.heap.size (entA k l s d) 24) := ⟨by rw [← hw1]; exact World.alloc_heap_new w _⟩
  have HT : Hid (Below w.heap.size w w1) := by rw [← hw1]; exact (Below.refl _ w).alloc (Nat.le_refl _) _
  have HOK := hide (gd_ok k l s d)
  have HGL := hide (gdD_len (k := k) hd)
  have HGB := hide (gd_lt k hdb)
  clear hdb
  go_enter Try.func3, Try.ntmps3
  go_wp2_with fail
  clear hw1
  refine (known10_any _).mono ?_
  rintro e w2 ⟨rfl, hk⟩
  replace HT := hide ((unhide HT).trans (hk.mono (unhide HT).size))
  replace HBE := hide ((unhide HBE).below hk)
  clear hk
  go_wp2_with (refine wpList_load_want10 rfl 24 _ rfl w.heap.size rfl 24 (entA k l s d) _ _ (unhide HBE).blk Try.underlying24 rfl (by rw [sizeTE, entA_size hd]) ?_)
  refine (good_any k l s d hd _).mono ?_
  rintro e w3 ⟨rfl, hk⟩
  replace HT := hide ((unhide HT).trans (hk.mono (unhide HT).size))
  clear hk HBE
  obtain ⟨w4, hW⟩ : ∃ W, (w3.alloc (.cells #[.int .i64 0, .int .i64 0, .int .i64 0, .int .u8 0, .int .u8 0, .int .u8 0, .int .u8 0, .int .u8 0, .int .u8 0, .int .u8 0, .int .u8 0, .int .u8 0, .int .u8 0, .int .u8 0, .int .u8 0, .int .u8 0, .int .u8 0, .int .u8 0, .int .u8 0] 24)).setRow w3.heap.size (entA (gdK k) (gdLb k l) (gdS k s) (gdD k d)) = W := ⟨_, rfl⟩
  have HBw4 := hide (blk_new10 w3 #[.int .i64 0, .int .i64 0, .int .i64 0, .int .u8 0, .int .u8 0, .int .u8 0, .int .u8 0, .int .u8 0, .int .u8 0, .int .u8 0, .int .u8 0, .int .u8 0, .int .u8 0, .int .u8 0, .int .u8 0, .int .u8 0, .int .u8 0, .int .u8 0, .int .u8 0] (entA (gdK k) (gdLb k l) (gdS k s) (gdD k d)) 24)
  have HKw4 := hide (kp_new10 w3 (.cells #[.int .i64 0, .int .i64 0, .int .i64 0, .int .u8 0, .int .u8 0, .int .u8 0, .int .u8 0, .int .u8 0, .int .u8 0, .int .u8 0, .int .u8 0, .int .u8 0, .int .u8 0, .int .u8 0, .int .u8 0, .int .u8 0, .int .u8 0, .int .u8 0, .int .u8 0] 24) (entA (gdK k) (gdLb k l) (gdS k s) (gdD k d)))
  rw [hW] at HBw4 HKw4
  have HNw4 := hide (World.alloc_heap_new w3 (.cells #[.int .i64 0, .int .i64 0, .int .i64 0, .int .u8 0, .int .u8 0, .int .u8 0, .int .u8 0, .int .u8 0, .int .u8 0, .int .u8 0, .int .u8 0, .int .u8 0, .int .u8 0, .int .u8 0, .int .u8 0, .int .u8 0, .int .u8 0, .int .u8 0, .int .u8 0] 24))
  have HWw4 := hide hW
  clear hW
  replace HT := hide ((unhide HT).trans ((unhide HKw4).below.mono (unhide HT).size))
  go_wp2_with (first | (refine wpList_store_row rfl 24 _ _ rfl w3.heap.size (entA (gdK k) (gdLb k l) (gdS k s) (gdD k d)) rfl rfl 24 #[.int .i64 0, .int .i64 0, .int .i64 0, .int .u8 0, .int .u8 0, .int .u8 0, .int .u8 0, .int .u8 0, .int .u8 0, .int .u8 0, .int .u8 0, .int .u8 0, .int .u8 0, .int .u8 0, .int .u8 0, .int .u8 0, .int .u8 0, .int .u8 0, .int .u8 0] (unhide HNw4) (by rw [sizeTE, entA_size (unhide HGL)]) (by rw [entA_size (unhide HGL)]; rfl) (entA_one _ _ _ _) ?_; rw [unhide HWw4]))
  obtain ⟨bg, hbg⟩ : ∃ b, w3.heap.size = b := ⟨_, rfl⟩
  rw [hbg] at HBw4 ⊢
  have HBG := HBw4
  clear HKw4 HNw4 HWw4 hbg HBw4
  refine (within10_any n 1000 _ (by omega) (by omega)).mono ?_
  rintro e wq ⟨rfl, hwq⟩
  subst hwq
  rw [unhide HN]
  clear HN
  obtain ⟨w5, hw5⟩ : ∃ W, wq.alloc (.cells #[.int .i64 0, .int .i64 (-1 - N), .int .i64 (1099511627777 + N), .int .i64 9223372036854775807, .int .i64 1099511627776, .int .i64 1] 3) = W := ⟨_, rfl⟩
  obtain ⟨V, hV, hV2, hV3⟩ := unhide HVX
  have hcell : w5.cell? ⟨wq.heap.size, r, none⟩ = some (.int .i64 V) := cell_blk (by rw [← hw5]; exact World.alloc_heap_new wq _) hV
  have hk : Below wq.heap.size wq w5 := by rw [← hw5]; exact (Below.refl _ _).alloc (Nat.le_refl _) _
  replace HT := hide ((unhide HT).trans (hk.mono (unhide HT).size))
  replace HBG := hide ((unhide HBG).below hk)
  have HV2 := hide hV2
  have HV3 := hide hV3
  clear hk hV hV2 hV3 HVX
  go_wp2_with fail
  clear hw5
  refine (within10_any wh 6 _ (by omega) (by omega)).mono ?_
  rintro e wr ⟨rfl, hwq⟩
  subst hwq
  rw [unhide HR]
  obtain ⟨w6, hW⟩ : ∃ W, (wr.alloc (.cells #[.int .i64 0, .int .i64 0, .int .i64 0, .int .i64 0] 30)).setRow wr.heap.size (headA V 0 0 0) = W := ⟨_, rfl⟩
  have HBw6 := hide (blk_new10 wr #[.int .i64 0, .int .i64 0, .int .i64 0, .int .i64 0] (headA V 0 0 0) 30)
  have HKw6 := hide (kp_new10 wr (.cells #[.int .i64 0, .int .i64 0, .int .i64 0, .int .i64 0] 30) (headA V 0 0 0))
  rw [hW] at HBw6 HKw6
  have HNw6 := hide (World.alloc_heap_new wr (.cells #[.int .i64 0, .int .i64 0, .int .i64 0, .int .i64 0] 30))
  have HWw6 := hide hW
  clear hW
  replace HT := hide ((unhide HT).trans ((unhide HKw6).below.mono (unhide HT).size))
  replace HBG := hide ((unhide HBG).below (unhide HKw6).below)
  go_wp2_with (first | (refine wpList_store_row rfl 30 _ _ rfl wr.heap.size (headA V 0 0 0) rfl rfl 30 #[.int .i64 0, .int .i64 0, .int .i64 0, .int .i64 0] (unhide HNw6) (by rw [sizeTH]; rfl) (rfl) (one_head _ _ _ _) ?_; rw [unhide HWw6]) | (refine wpList_load_want10 rfl 30 _ rfl wr.heap.size rfl 30 (headA V 0 0 0) _ _ (unhide HBw6).blk Try.underlying30 rfl (by rw [sizeTH]; rfl) ?_) | (refine wpList_load_want10 rfl 24 _ rfl bg rfl 24 (entA (gdK k) (gdLb k l) (gdS k s) (gdD k d)) _ _ (unhide HBG).blk Try.underlying24 rfl (by rw [sizeTE, entA_size (unhide HGL)]) ?_))
  clear hcell HBw6 HKw6 HNw6 HWw6
  refine (rbytes_any V 0 0 0 (gdK k) (gdLb k l) (gdS k s) (gdD k d) (unhide HGL) _).mono ?_
  rintro e w7 ⟨g7, c7, rfl, ho, hk⟩
  replace HT := hide ((unhide HT).trans (hk.mono (unhide HT).size))
  replace HBG := hide ((unhide HBG).below hk)
  have hrw := row_of_owns ho
  clear ho hk
  go_wp2_with fail
  refine (parse_any (some ⟨g7, 0, none⟩) g7 48 c7 (byT V 0 0 0 (gdK k) (gdLb k l) (gdS k s) (gdD k d)) _ (by omega) (byW_len (unhide HGL) rfl) (byW_byt (mem_lt10 (unhide HGB)) (by simp)) hrw).mono ?_
  rintro e w8 ⟨hp, hk⟩
  replace HT := hide ((unhide HT).trans (hk.mono (unhide HT).size))
  replace HBG := hide ((unhide HBG).below hk)
  clear hk hrw
  have hpe : parE (byT V 0 0 0 (gdK k) (gdLb k l) (gdS k s) (gdD k d)) = if 4 ≤ r then 0 else 5 := by
    have := par_tail (a := V) (t := [0, 0, 0, 0]) (unhide HGL) (mem_lt10 (unhide HGB)) rfl (by simp) (unhide HV2) (unhide HOK)
    rw [show byT V 0 0 0 (gdK k) (gdLb k l) (gdS k s) (gdD k d) = byW V 0 0 0 (gdK k) (gdLb k l) (gdS k s) (gdD k d) [0, 0, 0, 0] from rfl, this]
    rcases unhide HV3 with ⟨h1, h2⟩ | ⟨h1, h2⟩
    · rw [if_pos ⟨h2, rfl⟩, if_pos h1]
    · rw [if_neg (fun h => h2 h.1), if_neg (by omega)]
  obtain ⟨F, CH, CE, hF, hCE, hCO, he⟩ : ∃ (F : Int) (CH CE : Array Value), F = (if 4 ≤ r then 0 else 5) ∧ CE.size = 19 ∧ (CE.all (·.oneCell') = true ∧ CH.all (·.oneCell') = true ∧ CH.size = 4) ∧ e = .returned (.tuple #[.agg CH, .agg CE, .int .i64 F]) := by
    unfold ParR at hp
    rw [hpe] at hp
    exact ⟨_, _, _, rfl, entA_size (parD_len _), ⟨entA_one _ _ _ _, one_head _ _ _ _, rfl⟩, hp⟩
  subst he
  have HF := hide hF
  clear hp hpe hF
  obtain ⟨n1, n2, n3, n4, n5⟩ := two_new10 w8 #[.int .i64 0, .int .i64 0, .int .i64 0, .int .i64 0] #[.int .i64 0, .int .i64 0, .int .i64 0, .int .u8 0, .int .u8 0, .int .u8 0, .int .u8 0, .int .u8 0, .int .u8 0, .int .u8 0, .int .u8 0, .int .u8 0, .int .u8 0, .int .u8 0, .int .u8 0, .int .u8 0, .int .u8 0, .int .u8 0, .int .u8 0] CH CE 30 24 _ rfl
  obtain ⟨w9, hWN⟩ : ∃ W, ((((w8.alloc (.cells #[.int .i64 0, .int .i64 0, .int .i64 0, .int .i64 0] 30)).alloc (.cells #[.int .i64 0, .int .i64 0, .int .i64 0, .int .u8 0, .int .u8 0, .int .u8 0, .int .u8 0, .int .u8 0, .int .u8 0, .int .u8 0, .int .u8 0, .int .u8 0, .int .u8 0, .int .u8 0, .int .u8 0, .int .u8 0, .int .u8 0, .int .u8 0, .int .u8 0] 24)).setRow w8.heap.size CH).setRow (w8.heap.size + 1) CE) = W := ⟨_, rfl⟩
  rw [hWN] at n5
  have HX1 := hide n1
  have HX2 := hide n2
  replace HT := hide ((unhide HT).trans (n5.mono (unhide HT).size))
  replace HBG := hide ((unhide HBG).below n5)
  have HWN := hide hWN
  have HCE := hide hCE
  have HCO := hide hCO
  clear n1 n2 n3 n4 n5 hWN hCE hCO
  go_wp2_with (first | (refine wpList_store_row rfl 30 _ _ rfl w8.heap.size CH rfl rfl 30 #[.int .i64 0, .int .i64 0, .int .i64 0, .int .i64 0] (unhide HX1).blk (by rw [sizeTH, (unhide HCO).2.2]) (by rw [(unhide HCO).2.2]; rfl) (unhide HCO).2.1 ?_) | (refine wpList_store_row rfl 24 _ _ rfl (w8.heap.size + 1) CE rfl rfl 24 #[.int .i64 0, .int .i64 0, .int .i64 0, .int .u8 0, .int .u8 0, .int .u8 0, .int .u8 0, .int .u8 0, .int .u8 0, .int .u8 0, .int .u8 0, .int .u8 0, .int .u8 0, .int .u8 0, .int .u8 0, .int .u8 0, .int .u8 0, .int .u8 0, .int .u8 0] (unhide HX2).blk (by rw [sizeTE, unhide HCE]) (by rw [unhide HCE]; rfl) (unhide HCO).1 ?_; rw [unhide HWN]) | (refine wpList_load_want10 rfl 24 _ rfl bg rfl 24 (entA (gdK k) (gdLb k l) (gdS k s) (gdD k d)) _ _ (unhide HBG).blk Try.underlying24 rfl (by rw [sizeTE, entA_size (unhide HGL)]) ?_))
  clear HX1 HX2 HWN HCE HCO
  have hs9 := (unhide HT).size
  refine (rbytes_any 1 0 0 0 (gdK k) (gdLb k l) (gdS k s) (gdD k d) (unhide HGL) _).mono ?_
  rintro e wa ⟨ga, ca, rfl, ho, hk⟩
  replace HT := hide ((unhide HT).trans (hk.mono (unhide HT).size))
  replace HBG := hide ((unhide HBG).below hk)
  have HO := hide ho
  have hgaS : w.heap.size ≤ ga := by
    have h1 := (ho.lt ga rfl).1
    omega
  clear ho hk
  go_wp2_with fail
  refine (within10_any wh 4 _ (by omega) (by omega)).mono ?_
  rintro e wb ⟨rfl, hwq⟩
  subst hwq
  rw [unhide HJ]
  have HLEN : Hid ((byT 1 0 0 0 (gdK k) (gdLb k l) (gdS k s) (gdD k d)).length = 48) := byW_len (unhide HGL) rfl
  obtain ⟨cur, hcur⟩ : ∃ cur, wb.heap[ga]? = some (.cells cur 5 (0, 0)) := by
    rcases (unhide HO).2 with ⟨hx, _⟩ | ⟨g, cap, cur, hx, _, hb, _⟩
    · cases hx
    · cases hx; exact ⟨cur, hb⟩
  have hrow := row_of_owns (unhide HO)
  have hj48 : 44 + j < (byT 1 0 0 0 (gdK k) (gdLb k l) (gdS k s) (gdD k d)).length := by rw [unhide HLEN]; omega
  obtain ⟨q0, hcl⟩ : ∃ q0, wb.cell? ⟨ga, 44 + j, none⟩ = some (.int .u8 q0) := by
    rcases hrow with h | ⟨o, h, h'⟩
    · rw [h] at hj48; simp at hj48
    · cases h
      have := h' (44 + j) hj48
      rw [Nat.zero_add] at this
      exact ⟨_, this⟩
  have hfr : wb.frozen? ⟨ga, 44 + j, none⟩ = false := free_blk hcur
  obtain ⟨wc, hwc⟩ : ∃ W, wb.setCell ⟨ga, 44 + j, none⟩ (.int .u8 (y : Int)) = W := ⟨_, rfl⟩
  have hrow2 : Row wc (some ⟨ga, 0, none⟩) ga (byW 1 0 0 0 (gdK k) (gdLb k l) (gdS k s) (gdD k d) ([0, 0, 0, 0].set j y)) := by
    rw [← hwc, ← byW_set 1 _ _ _ _ (unhide HGL) j y (by omega)]
    exact row_set hcur hrow hj48 _
  have hidx : (44 : Int) + (j : Int) < 48 := by omega
  replace HT : Hid (Below w.heap.size w wc) := by rw [← hwc]; exact (unhide HT).setCell (p := ⟨ga, 44 + j, none⟩) hgaS _
  have HR2 := hide hrow2
  have HTB : Hid (∀ z ∈ ([0, 0, 0, 0].set j y), z < 256) := by
    intro z hz
    rcases List.mem_or_eq_of_mem_set hz with h | h
    · simp at h; omega
    · omega
  clear hcur hrow hrow2 hj48 HO
  go_wp2_with fail
  clear hcl hfr hwc hidx
  refine (parse_any (some ⟨ga, 0, none⟩) ga 48 ca (byW 1 0 0 0 (gdK k) (gdLb k l) (gdS k s) (gdD k d) ([0, 0, 0, 0].set j y)) _ (by omega) (byW_len (unhide HGL) (by simp)) (byW_byt (mem_lt10 (unhide HGB)) (unhide HTB)) (unhide HR2)).mono ?_
  rintro e wd ⟨hp, hk⟩
  replace HT := hide ((unhide HT).trans (hk.mono (unhide HT).size))
  have hpe : parE (byW 1 0 0 0 (gdK k) (gdLb k l) (gdS k s) (gdD k d) ([0, 0, 0, 0].set j y)) = if y = 0 then 0 else 5 := by
    rw [par_tail (unhide HGL) (mem_lt10 (unhide HGB)) (by simp) (unhide HTB) ⟨by omega, by omega⟩ (unhide HOK)]
    have hj : j < 4 := by omega
    by_cases h : y = 0
    · rw [if_pos h, if_pos ⟨⟨by omega, by omega⟩, (set_zero j y hj).2 h⟩]
    · rw [if_neg h, if_neg (fun h' => h ((set_zero j y hj).1 h'.2))]
  obtain ⟨G, CH, CE, hG, hCE, hCO, he⟩ : ∃ (F : Int) (CH CE : Array Value), F = (if y = 0 then 0 else 5) ∧ CE.size = 19 ∧ (CE.all (·.oneCell') = true ∧ CH.all (·.oneCell') = true ∧ CH.size = 4) ∧ e = .returned (.tuple #[.agg CH, .agg CE, .int .i64 F]) := by
    unfold ParR at hp
    rw [hpe] at hp
    exact ⟨_, _, _, rfl, entA_size (parD_len _), ⟨entA_one _ _ _ _, one_head _ _ _ _, rfl⟩, hp⟩
  subst he
  have HG := hide hG
  clear hp hpe hG hk HTB HR2 HBG
  obtain ⟨n1, n2, n3, n4, n5⟩ := two_new10 wd #[.int .i64 0, .int .i64 0, .int .i64 0, .int .i64 0] #[.int .i64 0, .int .i64 0, .int .i64 0, .int .u8 0, .int .u8 0, .int .u8 0, .int .u8 0, .int .u8 0, .int .u8 0, .int .u8 0, .int .u8 0, .int .u8 0, .int .u8 0, .int .u8 0, .int .u8 0, .int .u8 0, .int .u8 0, .int .u8 0, .int .u8 0] CH CE 30 24 _ rfl
  obtain ⟨we, hWN⟩ : ∃ W, ((((wd.alloc (.cells #[.int .i64 0, .int .i64 0, .int .i64 0, .int .i64 0] 30)).alloc (.cells #[.int .i64 0, .int .i64 0, .int .i64 0, .int .u8 0, .int .u8 0, .int .u8 0, .int .u8 0, .int .u8 0, .int .u8 0, .int .u8 0, .int .u8 0, .int .u8 0, .int .u8 0, .int .u8 0, .int .u8 0, .int .u8 0, .int .u8 0, .int .u8 0, .int .u8 0] 24)).setRow wd.heap.size CH).setRow (wd.heap.size + 1) CE) = W := ⟨_, rfl⟩
  rw [hWN] at n5
  have HX1 := hide n1
  have HX2 := hide n2
  replace HT := hide ((unhide HT).trans (n5.mono (unhide HT).size))
  have HWN := hide hWN
  have HCE := hide hCE
  have HCO := hide hCO
  clear n1 n2 n3 n4 n5 hWN hCE hCO
  go_wp2_with (first | (refine wpList_store_row rfl 30 _ _ rfl wd.heap.size CH rfl rfl 30 #[.int .i64 0, .int .i64 0, .int .i64 0, .int .i64 0] (unhide HX1).blk (by rw [sizeTH, (unhide HCO).2.2]) (by rw [(unhide HCO).2.2]; rfl) (unhide HCO).2.1 ?_) | (refine wpList_store_row rfl 24 _ _ rfl (wd.heap.size + 1) CE rfl rfl 24 #[.int .i64 0, .int .i64 0, .int .i64 0, .int .u8 0, .int .u8 0, .int .u8 0, .int .u8 0, .int .u8 0, .int .u8 0, .int .u8 0, .int .u8 0, .int .u8 0, .int .u8 0, .int .u8 0, .int .u8 0, .int .u8 0, .int .u8 0, .int .u8 0, .int .u8 0] (unhide HX2).blk (by rw [sizeTE, unhide HCE]) (by rw [unhide HCE]; rfl) (unhide HCO).1 ?_; rw [unhide HWN]))
  refine (within10_any wh 6 _ (by omega) (by omega)).mono ?_
  rintro e wf ⟨rfl, hwq⟩
  subst hwq
  rw [unhide HR]
  clear HX1 HX2 HWN HCE HCO HGL HGB HOK HJ HR
  by_cases h4 : 4 ≤ r
  · obtain rfl : F = 0 := by rw [unhide HF, if_pos h4]
    have h4i : (4 : Int) ≤ (r : Int) := by omega
    clear HF
    by_cases hy0 : y = 0
    · subst hy0
      obtain rfl : G = 0 := by rw [unhide HG, if_pos rfl]
      clear HG
      go_wp2
      go_ret
      exact ⟨rfl, unhide HT⟩
    · obtain rfl : G = 5 := by rw [unhide HG, if_neg hy0]
      clear HG
      have qy : (((y : Nat) : Int) == 0) = false := by rw [beq_eq_false_iff_ne]; omega
      go_wp2
      go_ret
      exact ⟨rfl, unhide HT⟩
  · obtain rfl : F = 5 := by rw [unhide HF, if_neg h4]
    have h4i : (r : Int) < 4 := by omega
    have q4 : decide ((4 : Int) ≤ (r : Int)) = false := decide_eq_false (by omega)
    clear HF
    by_cases hy0 : y = 0
    · subst hy0
      obtain rfl : G = 0 := by rw [unhide HG, if_pos rfl]
      clear HG
      go_wp2
      go_ret
      exact ⟨rfl, unhide HT⟩
    · obtain rfl : G = 5 := by rw [unhide HG, if_neg hy0]
      clear HG
      have qy : (((y : Nat) : Int) == 0) = false := by rw [beq_eq_false_iff_ne]; omega
      go_wp2
      go_ret
      exact ⟨rfl, unhide HT⟩
end Go.Proofs.Ytabfaehpopeckab
