/-
  The walk of EntryReads.
-/
import Derived.Test.YtabfaehpopeckaaXCut
import Derived.Test.YtabfaehpopeckaaXBou
import Derived.Test.YtabfaehpopeckaaR10p
import Derived.Test.YtabfaehpopeckaaB6k
namespace Go.Proofs.Ytabfaehpopeckaa
open Go.RowKit Go.Shelf

/-- A row of the call's own, as a slice. -/
theorem own_sl {w : World} {base n : Nat} {v : Value} {zs : List Int} (h : w.ownsRow base 5 1 v n (zs.map (Value.int .u8))) : ∃ ao g c, v = .slice ao n c ∧ zs.length = n ∧ Row w ao g zs ∧ n ≤ c ∧ (ao = none → n = 0 ∧ c = 0) ∧ (zs = [] ∨ (base ≤ g ∧ g < w.heap.size)) := by
  have hl : zs.length = n := by have := h.1; simpa using this
  rcases h.2 with ⟨rfl, hx⟩ | ⟨g, cap, cur, rfl, hb, hg, hc, h4⟩
  · have hn : n = 0 := by simpa using hx
    subst hn
    have hz : zs = [] := List.eq_nil_of_length_eq_zero hl
    subst hz
    exact ⟨none, 0, 0, rfl, rfl, .inl rfl, Nat.le_refl _, fun _ => ⟨rfl, rfl⟩, .inl rfl⟩
  · exact ⟨_, g, cap, rfl, hl, row_of_owns (⟨h.1, .inr ⟨g, cap, cur, rfl, hb, hg, hc, h4⟩⟩), hc, (fun h => by cases h), .inr ⟨hb, lt_of_block hg⟩⟩
theorem row_set_r {w : World} {g i : Nat} {cur : Array Value} {ty : TypeId} {zs : List Int} (h : w.heap[g]? = some (.cells cur ty (0, 0))) (hr : Row w (some ⟨g, 0, none⟩) g zs) (hi : i < zs.length) (x : Int) : Row (w.setCell ⟨g, i, none⟩ (.int .u8 x)) (some ⟨g, 0, none⟩) g (zs.set i x) := by
  have hc := heap_setCell_same w g i cur ty (.int .u8 x) h
  rcases hr with h0 | ⟨o, h0, h1⟩
  · rw [h0] at hi; simp at hi
  · cases h0
    refine .inr ⟨0, rfl, fun j hj => ?_⟩
    rw [List.length_set] at hj
    have h2 := h1 j hj
    rw [Nat.zero_add] at h2 ⊢
    have e : w.cell? ⟨g, j, none⟩ = cur[j]? := by simp [World.cell?, h]
    rw [e] at h2
    have hjs : j < cur.size := by
      by_cases hh : j < cur.size
      · exact hh
      · rw [Array.getElem?_eq_none (by omega)] at h2; cases h2
    have e2 : (w.setCell ⟨g, i, none⟩ (.int .u8 x)).cell? ⟨g, j, none⟩ = (cur.setIfInBounds i (.int .u8 x))[j]? := by simp [World.cell?, hc]
    rw [e2, Array.getElem?_setIfInBounds]
    by_cases hij : i = j
    · subst hij
      rw [if_pos rfl, if_pos hjs]
      simp [List.getD_eq_getElem?_getD, hj]
    · rw [if_neg hij, h2]
      simp [List.getD_eq_getElem?_getD, hij]
theorem inBlock_mono {k : Nat} {Q Q' : Exit → Act → World → Prop} (h : ∀ e a w, Q e a w → Q' e a w) : ∀ e a w, Exit.inBlock k Q e a w → Exit.inBlock k Q' e a w := by
  intro e a w hq
  cases e <;> simp only [Exit.inBlock] at hq ⊢ <;> first | exact h _ _ _ hq | (split at hq <;> simp_all) | exact hq

set_option maxRecDepth 100000 in
set_option maxHeartbeats 32000000 in
theorem reads_any (w : World) (k l s : Int) (d : List Nat) (hd : d.length = 16) (hdb : ∀ j, cf d j < 256) (aa : Option Addr) (na ca ga : Nat) (za : List Int) (hza : za.length = na) (hra : IRow w aa ga za) (ab : Option Addr) (nb cb gb : Nat) (zb : List Int) (hzb : zb.length = nb) (hrb : Row w ab gb zb) (hyb : Byt zb)
    (cut : Int) (ar : Option Addr) (nr cr gr : Nat) (zr : List Int) (hzr : zr.length = nr) (hrr : Row w ar gr zr) (hyr : Byt zr) (hrc : nr ≤ cr) (hrn : ar = none → nr = 0 ∧ cr = 0) :
    Calls Try.prog 4 #[.agg (entA k l s d), .slice aa na ca, .slice ab nb cb, .int .i64 cut, .slice ar nr cr] w fun e w' => e = .returned (.bool true) ∧ Below w.heap.size w w' := by
  obtain ⟨w1, hw1⟩ : ∃ w1, w.alloc (.cells (entA k l s d) 24) = w1 := ⟨_, rfl⟩
  have HBE : Hid (AtB w1 w.heap.size (entA k l s d) 24) := ⟨by rw [← hw1]; exact World.alloc_heap_new w _⟩
  have HT : Hid (Below w.heap.size w w1) := by rw [← hw1]; exact (Below.refl _ w).alloc (Nat.le_refl _) _
  have HOK := hide (gd_ok k l s d)
  have HGL := hide (gdD_len (k := k) hd)
  have HGB := hide (gd_lt k hdb)
  have HDB := hide hdb
  have HRA := hide hra
  have HRB := hide hrb
  have HYB := hide hyb
  have HRR := hide hrr
  have HYR := hide hyr
  have HRN := hide hrn
  have HZA := hide hza
  have HZB := hide hzb
  have HZR := hide hzr
  clear hdb hra hrb hyb hrr hyr hrn hza hzb hzr
  obtain ⟨i0, hi0, hz0, hzz1, hz2⟩ := info_parts infoE
  have HI0 := hide hi0
  clear hi0
  go_enter Try.func4, Try.ntmps4
  go_wp2_with fail
  clear hw1
  refine (known10_any _).mono ?_
  rintro e w2 ⟨rfl, hk⟩
  replace HT := hide ((unhide HT).trans (hk.mono (unhide HT).size))
  replace HBE := hide ((unhide HBE).below hk)
  clear hk
  by_cases hnr : 60 < nr
  · have hnr' : (60 : Int) < (nr : Int) := by omega
    go_wp2
    go_ret
    exact ⟨rfl, unhide HT⟩
  have hnr' : ¬ (60 : Int) < (nr : Int) := by omega
  go_wp2_with (refine wpList_load_want10 rfl 24 _ rfl w.heap.size rfl 24 (entA k l s d) _ _ (unhide HBE).blk Try.underlying24 rfl (by rw [sizeTE, entA_size hd]) ?_)
  refine (good_any k l s d hd _).mono ?_
  rintro e w3 ⟨rfl, hk⟩
  replace HT := hide ((unhide HT).trans (hk.mono (unhide HT).size))
  replace HBE := hide ((unhide HBE).below hk)
  clear hk
  go_wp2_with fail
  refine (rbytes_any 5 1 2 3 (gdK k) (gdLb k l) (gdS k s) (gdD k d) (unhide HGL) _).mono ?_
  rintro e w5 ⟨g5, c5, rfl, ho, hk⟩
  have hs3 := (unhide HT).size
  replace HT := hide ((unhide HT).trans (hk.mono (unhide HT).size))
  replace HBE := hide ((unhide HBE).below hk)
  have HLTS : Hid (w.heap.size < w5.heap.size) := (unhide HBE).lt
  have HO5 := hide ho
  obtain ⟨w6, hw6⟩ : ∃ W, w5.alloc (.cells #[] 5) = W := ⟨_, rfl⟩
  have hk6 : Below w5.heap.size w5 w6 := by rw [← hw6]; exact (Below.refl _ _).alloc (Nat.le_refl _) _
  have hz6 : w5.heap.size ≤ w6.heap.size := hk6.size
  have hon : w6.ownsRow w5.heap.size 5 1 (.slice (some ⟨w5.heap.size, 0, none⟩) 0 0) 0 [] := by rw [← hw6]; exact own_none w5 5
  obtain ⟨v7, w7, hr7, ho7, hg7, -⟩ := run_append_row (P := Try.prog) w6 w5.heap.size 30 30 5 i0 Try.underlying30 (unhide HI0) hz0 hzz1 hz2 _ 0 [] hon (some ⟨g5, 0, none⟩) g5 48 c5 (byT 5 1 2 3 (gdK k) (gdLb k l) (gdS k s) (gdD k d)) (byW_len (unhide HGL) rfl) (Row.below hk6 (row_of_owns ho)) (fun h => by cases h) (by omega) hz6
  rw [List.nil_append, Nat.zero_add] at ho7
  obtain ⟨g7, c7, rfl⟩ := ownsRow_succ (k := 47) ho7
  have HR7 := hide hr7
  have HO7 := hide ho7
  have hb7 : Below w5.heap.size w5 w7 := below_grown hk6 hg7 hz6 (fun k hk => by
    have := (hon.lt k hk).1
    omega)
  replace HT := hide ((unhide HT).trans (hb7.mono (unhide HT).size))
  replace HBE := hide ((unhide HBE).below hb7)
  have HR5 : Hid (Row w7 (some ⟨g5, 0, none⟩) g5 (byT 5 1 2 3 (gdK k) (gdLb k l) (gdS k s) (gdD k d))) := Row.below hb7 (row_of_owns ho)
  have hg75 : w5.heap.size ≤ g7 := (ho7.lt g7 rfl).1
  have hc7 : 48 ≤ c7 := by
    rcases ho7.2 with ⟨hx, _⟩ | ⟨g, cap, cur, hx, _, _, h1, _⟩
    · cases hx
    · cases hx; exact h1
  obtain ⟨cur7, hcur7⟩ : ∃ cur, w7.heap[g7]? = some (.cells cur 5 (0, 0)) := by
    rcases ho7.2 with ⟨hx, _⟩ | ⟨g, cap, cur, hx, _, hb, _⟩
    · cases hx
    · cases hx; exact ⟨cur, hb⟩
  have HCU := hide hcur7
  have HG5 : Hid (g5 < w5.heap.size) := (ho.lt g5 rfl).2
  have HSZ : Hid (w.heap.size ≤ w5.heap.size) := by unfold Hid; have := hk.size; omega
  clear hr7 ho7 hg7 hon ho hk hk6 hcur7 hb7 hz6
  go_wp2_with (at_builtin; refine wpList_append_run rfl _ _ _ _ _ rfl _ _ rfl rfl (unhide HR7) ?_)
  clear hw6 HR7
  have HLI : Hid (Byt (byT 5 1 2 3 (gdK k) (gdLb k l) (gdS k s) (gdD k d))) := byW_byt (mem_lt10 (unhide HGB)) (by simp)
  have HRC : Hid (Row w7 (some ⟨g7, 0, none⟩) g7 (byT 5 1 2 3 (gdK k) (gdLb k l) (gdS k s) (gdD k d))) := row_of_owns (unhide HO7)
  have HRA7 : Hid (IRow w7 aa ga za) := IRow.below (unhide HT) (unhide HRA)
  have HRB7 : Hid (Row w7 ab gb zb) := Row.below (unhide HT) (unhide HRB)
  refine Code.wp_mono (Q := Exit.inBlock 0 (fun e a W => e = .normal ∧ ∃ u13 u34 u35 u36 u37 u38 u39 u40 u41 u42 u43 u44 u45 u46 u47 u48 u49 u50 u51 u52 u53 u54 u55 u56 u57 u58 u59 u60 u61 u62 u63 u64 u65 L, a = { tmps := #[.agg (entA k l s d), .slice aa na ca, .slice ab nb cb, .int .i64 cut, .slice ar nr cr, .pointer (some ⟨w.heap.size, 0, none⟩), undef, undef, undef, undef, .bool false, .slice (some ⟨g5, 0, none⟩) 48 c5, .slice (some ⟨g7, 0, none⟩) 48 c7, u13, undef, undef, undef, undef, undef, undef, undef, undef, .bool true, .bool false, .slice ar nr cr, .int .i64 nr, .bool (decide ((60 : Int) < (nr : Int))), .agg #[.int .i64 5, .int .i64 1, .int .i64 2, .int .i64 3], .agg (entA k l s d), .agg (entA (gdK k) (gdLb k l) (gdS k s) (gdD k d)), .slice (some ⟨g5, 0, none⟩) 48 c5, .slice (some ⟨w5.heap.size, 0, none⟩) 0 0, .slice (some ⟨g5, 0, none⟩) 48 c5, .slice (some ⟨g7, 0, none⟩) 48 c7, u34, u35, u36, u37, u38, u39, u40, u41, u42, u43, u44, u45, u46, u47, u48, u49, u50, u51, u52, u53, u54, u55, u56, u57, u58, u59, u60, u61, u62, u63, u64, u65, undef, undef, undef, undef, undef, undef, undef, undef, undef, undef, undef, undef, undef, undef, undef, undef, undef, undef, undef, undef, undef, undef, undef, undef, undef, undef, undef, undef, undef, undef, undef, undef, undef, undef, undef, undef, undef, undef, undef, undef, undef, undef, undef, undef, undef, undef, undef, undef, undef, undef, undef, undef, undef, undef, undef, undef, undef, undef, undef, undef], defers := [] } ∧ L.length = 48 ∧ Byt L ∧ (∃ cur, W.heap[g7]? = some (.cells cur 5 (0, 0))) ∧ Row W (some ⟨g7, 0, none⟩) g7 L ∧ Kp [g7] w7 W)) (inBlock_mono ?_) ?_
  rotate_left 1
  · go_loopw [13] (fun i wr => ∃ (k : Nat) (L : List Int), k ≤ 3 ∧ i = .int .i64 k ∧ L.length = 48 ∧ Byt L ∧ (∃ cur, wr.heap[g7]? = some (.cells cur 5 (0, 0))) ∧ Row wr (some ⟨g7, 0, none⟩) g7 L ∧ Kp [g7] w7 wr) (fun i _ => 3 - (intOf i).toNat)
    case atStart => exact ⟨0, _, by omega, rfl, byW_len (unhide HGL) rfl, unhide HLI, ⟨cur7, unhide HCU⟩, unhide HRC, Kp.refl _ _⟩
    case round =>
      obtain ⟨q, L, hq, rfl, hL, hY, ⟨cur, hcur⟩, hrow, hkp⟩ := hrel
      have HL := hide hL
      have HYL := hide hY
      have HCUR := hide hcur
      have HROW := hide hrow
      have HKP := hide hkp
      clear hL hY hcur hrow hkp
      by_cases h1 : q < na
      · have h1' : (q : Int) < (na : Int) := by omega
        by_cases h2 : q < nb
        · have h2' : (q : Int) < (nb : Int) := by omega
          by_cases h3 : q < 3
          · have h3' : (q : Int) < 3 := by omega
            go_wp2_with fail
            obtain ⟨oa, A, rfl, hca⟩ : ∃ oa A, aa = some ⟨ga, oa, none⟩ ∧ w7.cell? ⟨ga, oa + q, none⟩ = some (.int .i64 A) := by
              rcases unhide HRA7 with h | ⟨o, h, h'⟩
              · rw [h] at HZA; have : (0 : Nat) = na := unhide HZA; omega
              · exact ⟨o, _, h, h' q (by rw [unhide HZA]; exact h1)⟩
            obtain ⟨ob, X, rfl, hcb, hX⟩ : ∃ ob X, ab = some ⟨gb, ob, none⟩ ∧ w7.cell? ⟨gb, ob + q, none⟩ = some (.int .u8 X) ∧ 0 ≤ X ∧ X ≤ 255 := by
              rcases unhide HRB7 with h | ⟨o, h, h'⟩
              · rw [h] at HZB; have : (0 : Nat) = nb := unhide HZB; omega
              · exact ⟨o, _, h, h' q (by rw [unhide HZB]; exact h2), (unhide HYB).getD q⟩
            have hga : ga ≠ g7 := by
              rcases unhide HRA with h | ⟨o, h, h'⟩
              · rw [h] at HZA; have : (0 : Nat) = na := unhide HZA; omega
              · have h3 := block_lt_of_cell (h' q (by rw [unhide HZA]; exact h1))
                have h4 := unhide HSZ
                dsimp only at h3
                omega
            have hgb : gb ≠ g7 := by
              rcases unhide HRB with h | ⟨o, h, h'⟩
              · rw [h] at HZB; have : (0 : Nat) = nb := unhide HZB; omega
              · have h3 := block_lt_of_cell (h' q (by rw [unhide HZB]; exact h2))
                have h4 := unhide HSZ
                dsimp only at h3
                omega
            obtain ⟨Jx, hJ, Jl, Ju⟩ : ∃ r : Int, A % 48 = r ∧ 0 ≤ r ∧ r < 48 := ⟨_, rfl, Int.emod_nonneg _ (by omega), Int.emod_lt_of_pos _ (by omega)⟩
            obtain ⟨j, rfl⟩ := Int.eq_ofNat_of_zero_le Jl
            have HJ := hide hJ
            obtain ⟨Y, hcY, hY⟩ : ∃ Y, wr.cell? ⟨g7, j, none⟩ = some (.int .u8 Y) ∧ 0 ≤ Y ∧ Y ≤ 255 := by
              rcases unhide HROW with h | ⟨o, h, h'⟩
              · rw [h] at HL; have : (0 : Nat) = 48 := unhide HL; omega
              · cases h
                have := h' j (by rw [unhide HL]; omega)
                rw [Nat.zero_add] at this
                exact ⟨_, this, (unhide HYL).getD j⟩
            obtain ⟨V, hV⟩ : ∃ V, (Y + X) % 256 = V := ⟨_, rfl⟩
            have hV1 : 0 ≤ V := by rw [← hV]; exact Int.emod_nonneg _ (by omega)
            have hV2 : V ≤ 255 := by have := Int.emod_lt_of_pos (Y + X) (b := 256) (by omega); omega
            have HV := hide hV
            have HCA := hide ((unhide HKP).cell hca (by simpa using hga))
            have HCB := hide ((unhide HKP).cell hcb (by simpa using hgb))
            have HCY := hide hcY
            obtain ⟨hX1, hX2⟩ := hX
            obtain ⟨hY1, hY2⟩ := hY
            clear hca hcb hcY hJ hV
            refine wp_region_noPanic ?_
            refine wp_region_held_drew (S := fun V => Kp [g7] wr.drew V) (by kernel_rfl) (Kp.refl _ _) (fun hHeld => ?_)
            have HH := hide hHeld
            clear hHeld
            replace HCA := hide (((Below.refl _ wr).drew.cell (block_lt_of_cell (unhide HCA))).trans (unhide HCA))
            replace HCB := hide (((Below.refl _ wr).drew.cell (block_lt_of_cell (unhide HCB))).trans (unhide HCB))
            replace HCY := hide (((Below.refl _ wr).drew.cell (block_lt_of_cell (unhide HCY))).trans (unhide HCY))
            replace HCUR : Hid (wr.drew.heap[g7]? = some (.cells cur 5 (0, 0))) := unhide HCUR
            replace HROW : Hid (Row wr.drew (some ⟨g7, 0, none⟩) g7 L) := Row.below (Below.refl _ wr).drew (unhide HROW)
            replace HKP := hide ((unhide HKP).drew)
            generalize wr.drew = wc at HCA HCB HCY HCUR HROW HKP HH ⊢
            refine takeL (i := 0) (v := ?_) rfl (by kernel_rfl) (by kernel_rfl) (by kernel_rfl) (fun _ _ _ h => h) (Or.inl ⟨by rfl, ?_⟩) (unhide HH) ?_
            rotate_left 1
            · intro W hSW; go_simp; all_goals (with_reducible rfl)
            (try simp only [Act.put, List.setIfInBounds_toArray, List.set_cons_zero, List.set_cons_succ])
            refine takeL (i := 1) (v := ?_) rfl (by kernel_rfl) (by kernel_rfl) (by kernel_rfl) (fun _ _ _ h => h) (Or.inl ⟨by rfl, ?_⟩) (unhide HH) ?_
            rotate_left 1
            · intro W hSW; go_simp; all_goals (with_reducible rfl)
            (try simp only [Act.put, List.setIfInBounds_toArray, List.set_cons_zero, List.set_cons_succ])
            refine takeL (i := 2) (v := ?_) rfl (by kernel_rfl) (by kernel_rfl) (by kernel_rfl) (fun _ _ _ h => h) (Or.inl ⟨by rfl, ?_⟩) (unhide HH) ?_
            rotate_left 1
            · intro W hSW; go_simp; all_goals (with_reducible rfl)
            (try simp only [Act.put, List.setIfInBounds_toArray, List.set_cons_zero, List.set_cons_succ])
            refine takeL (i := 3) (v := ?_) rfl (by kernel_rfl) (by kernel_rfl) (by kernel_rfl) (fun _ _ _ h => h) (Or.inl ⟨by rfl, ?_⟩) (unhide HH) ?_
            rotate_left 1
            · intro W hSW; go_simp; all_goals (with_reducible rfl)
            (try simp only [Act.put, List.setIfInBounds_toArray, List.set_cons_zero, List.set_cons_succ])
            refine takeL (i := 4) (v := .int .i64 A) rfl (by kernel_rfl) (by kernel_rfl) (by kernel_rfl) (fun _ _ _ h => h) (Or.inl ⟨by rfl, ?_⟩) (unhide HH) ?_
            · intro W hSW; have hcl : W.cell? ⟨ga, oa + q, none⟩ = some (.int .i64 A) := (show Kp [g7] wc W from hSW).cell (unhide HCA) (by simpa using hga); clear hSW; go_simp; all_goals (first | (with_reducible rfl) | simp)
            (try simp only [Act.put, List.setIfInBounds_toArray, List.set_cons_zero, List.set_cons_succ])
            refine takeL (i := 5) (v := ?_) rfl (by kernel_rfl) (by kernel_rfl) (by kernel_rfl) (fun _ _ _ h => h) (Or.inl ⟨by rfl, ?_⟩) (unhide HH) ?_
            rotate_left 1
            · intro W hSW; go_simp; all_goals (with_reducible rfl)
            (try simp only [Act.put, List.setIfInBounds_toArray, List.set_cons_zero, List.set_cons_succ])
            refine takeL (i := 6) (v := ?_) rfl (by kernel_rfl) (by kernel_rfl) (by kernel_rfl) (fun _ _ _ h => h) (Or.inl ⟨by rfl, ?_⟩) (unhide HH) ?_
            rotate_left 1
            · intro W hSW; go_simp; all_goals (with_reducible rfl)
            (try simp only [Act.put, List.setIfInBounds_toArray, List.set_cons_zero, List.set_cons_succ])
            refine takeL (i := 10) (v := ?_) rfl (by kernel_rfl) (by kernel_rfl) (by kernel_rfl) (fun _ _ _ h => h) (Or.inl ⟨by rfl, ?_⟩) (unhide HH) ?_
            rotate_left 1
            · intro W hSW; go_simp; all_goals (with_reducible rfl)
            (try simp only [Act.put, List.setIfInBounds_toArray, List.set_cons_zero, List.set_cons_succ])
            refine takeL (i := 11) (v := ?_) rfl (by kernel_rfl) (by kernel_rfl) (by kernel_rfl) (fun _ _ _ h => h) (Or.inl ⟨by rfl, ?_⟩) (unhide HH) ?_
            rotate_left 1
            · intro W hSW; go_simp; all_goals (with_reducible rfl)
            (try simp only [Act.put, List.setIfInBounds_toArray, List.set_cons_zero, List.set_cons_succ])
            refine takeL (i := 12) (v := ?_) rfl (by kernel_rfl) (by kernel_rfl) (by kernel_rfl) (fun _ _ _ h => h) (Or.inl ⟨by rfl, ?_⟩) (unhide HH) ?_
            rotate_left 1
            · intro W hSW; go_simp; all_goals (with_reducible rfl)
            (try simp only [Act.put, List.setIfInBounds_toArray, List.set_cons_zero, List.set_cons_succ])
            refine takeL (i := 13) (v := .int .u8 X) rfl (by kernel_rfl) (by kernel_rfl) (by kernel_rfl) (fun _ _ _ h => h) (Or.inl ⟨by rfl, ?_⟩) (unhide HH) ?_
            · intro W hSW; have hcl : W.cell? ⟨gb, ob + q, none⟩ = some (.int .u8 X) := (show Kp [g7] wc W from hSW).cell (unhide HCB) (by simpa using hgb); clear hSW; go_simp; all_goals (first | (with_reducible rfl) | simp)
            (try simp only [Act.put, List.setIfInBounds_toArray, List.set_cons_zero, List.set_cons_succ])
            refine wpAnyH_ready (rs := [7]) (by kernel_rfl) (by simp) ?_
            refine consL rfl (fun K hK => ?_) AllReadyH.nil
            go_simp
            refine (within10_any A 48 _ (by omega) (by omega)).mono ?_
            rintro e wq ⟨rfl, hwq⟩
            rw [unhide HJ, hwq]
            clear hwq wq
            refine hK.out _ _ (unhide HH) (fun hHeld => ?_)
            clear hK K HH
            have HH := hide hHeld
            clear hHeld
            (try simp only [Act.put, List.setIfInBounds_toArray, List.set_cons_zero, List.set_cons_succ])
            refine takeL (i := 8) (v := ?_) rfl (by kernel_rfl) (by kernel_rfl) (by kernel_rfl) (fun _ _ _ h => h) (Or.inl ⟨by rfl, ?_⟩) (unhide HH) ?_
            rotate_left 1
            · intro W hSW; go_simp; all_goals (with_reducible rfl)
            (try simp only [Act.put, List.setIfInBounds_toArray, List.set_cons_zero, List.set_cons_succ])
            refine wpAnyH_ready (rs := [9]) (by kernel_rfl) (by simp) ?_
            refine consL rfl (fun K hK => ?_) AllReadyH.nil
            have hcl := unhide HCY
            go_simp
            clear hcl
            refine hK.out _ _ (unhide HH) (fun hHeld => ?_)
            clear hK K HH
            have HH := hide hHeld
            clear hHeld
            (try simp only [Act.put, List.setIfInBounds_toArray, List.set_cons_zero, List.set_cons_succ])
            refine takeL (i := 14) (v := .int .u8 V) rfl (by kernel_rfl) (by kernel_rfl) (by kernel_rfl) (fun _ _ _ h => h) (Or.inl ⟨by rfl, ?_⟩) (unhide HH) ?_
            · intro W hSW; clear hSW; go_simp; rw [IntKind.wrap_u8]; exact unhide HV
            (try simp only [Act.put, List.setIfInBounds_toArray, List.set_cons_zero, List.set_cons_succ])
            refine takeL (i := 15) (v := ?_) rfl (by kernel_rfl) (by kernel_rfl) (by kernel_rfl) (fun _ _ _ h => h) (Or.inl ⟨by rfl, ?_⟩) (unhide HH) ?_
            rotate_left 1
            · intro W hSW; go_simp; all_goals (with_reducible rfl)
            (try simp only [Act.put, List.setIfInBounds_toArray, List.set_cons_zero, List.set_cons_succ])
            refine wpAnyH_ready (rs := [16]) (by kernel_rfl) (by simp) ?_
            refine consL rfl (fun K hK => ?_) AllReadyH.nil
            have hcl := unhide HCY
            have hfr : wc.frozen? ⟨g7, j, none⟩ = false := free_blk (unhide HCUR)
            have hS : Kp [g7] wc (wc.setCell ⟨g7, j, none⟩ (.int .u8 V)) := (Kp.refl _ _).setCell _ _ (.inl (by simp))
            have hro := row_set_r (unhide HCUR) (unhide HROW) (i := j) (by rw [unhide HL]; omega) V
            have hcu := heap_setCell_same wc g7 j cur 5 (.int .u8 V) (unhide HCUR)
            go_simp
            generalize wc.setCell ⟨g7, j, none⟩ (.int .u8 V) = wd at hS hro hcu ⊢
            have HRO := hide hro
            have HCU2 := hide hcu
            have HKP2 := hide ((unhide HKP).trans hS (by simp))
            refine hK.out _ _ hS (fun hHeld => ?_)
            clear hK K HH hS hro hcu hcl hfr
            have HH := hide hHeld
            clear hHeld
            (try simp only [Act.put])
            refine wpAnyH_done (by kernel_rfl) ?_ _
            refine NoPanic.normal ?_
            go_wp2
            go_roundw
            case rel =>
              refine ⟨q + 1, _, by omega, by go_num, ?_, ?_, ⟨_, unhide HCU2⟩, unhide HRO, unhide HKP2⟩
              · rw [List.length_set]; exact unhide HL
              · intro z hz
                rcases List.mem_or_eq_of_mem_set hz with h | h
                · exact unhide HYL z h
                · rw [h]; exact ⟨hV1, hV2⟩
            case measure => simp [intOf] <;> omega
          · have h3' : ¬ (q : Int) < 3 := by omega
            go_wp2
            exact ⟨L, unhide HL, unhide HYL, ⟨cur, unhide HCUR⟩, unhide HROW, unhide HKP⟩
        · have h2' : ¬ (q : Int) < (nb : Int) := by omega
          go_wp2
          exact ⟨L, unhide HL, unhide HYL, ⟨cur, unhide HCUR⟩, unhide HROW, unhide HKP⟩
      · have h1' : ¬ (q : Int) < (na : Int) := by omega
        go_wp2
        exact ⟨L, unhide HL, unhide HYL, ⟨cur, unhide HCUR⟩, unhide HROW, unhide HKP⟩
  rintro e0 a0 W8 ⟨rfl, u13, u34, u35, u36, u37, u38, u39, u40, u41, u42, u43, u44, u45, u46, u47, u48, u49, u50, u51, u52, u53, u54, u55, u56, u57, u58, u59, u60, u61, u62, u63, u64, u65, L, rfl, hL, hY, ⟨cur, hcur⟩, hrow, hkp⟩
  have hg7s : w.heap.size ≤ g7 := by have := unhide HSZ; omega
  replace HT : Hid (Below w.heap.size w W8) := by
    have h1 := unhide HT
    exact ⟨hkp.os.trans h1.os, hkp.tape.trans h1.tape, hkp.output.trans h1.output, Nat.le_trans h1.size hkp.size, fun k hk => (hkp.block k (by have := h1.size; omega) (by simp; omega)).trans (h1.block k hk)⟩
  replace HBE := hide ((unhide HBE).kp hkp (by have := unhide HSZ; have := (unhide HBE).lt; simp; have h5 := unhide HG5; intro h; have h6 : w.heap.size < w5.heap.size := unhide HLTS; omega))
  replace HR5 : Hid (Row W8 (some ⟨g5, 0, none⟩) g5 (byT 5 1 2 3 (gdK k) (gdLb k l) (gdS k s) (gdD k d))) := (unhide HR5).keep hkp (by have := unhide HG5; simp; omega)
  have HL := hide hL
  have HYL := hide hY
  have HROW := hide hrow
  have HG7 : Hid (g7 < W8.heap.size) := lt_of_block hcur
  clear hL hY hcur hrow hkp HO7 HCU HRC HRA7 HRB7 HLI HRA HRB HYB HZA HZB
  by_cases hct : cut.tmod 3 = 1
  · have hct' : (cut.tmod 3 == 1) = true := by rw [hct]; rfl
    go_wp2_with fail
    refine (within10_any _ 49 _ (by omega) (by omega)).mono ?_
    rintro e wq ⟨rfl, hwq⟩
    rw [hwq]
    clear hwq wq
    obtain ⟨mi, hmi, mi1, mi2⟩ : ∃ r : Int, wrap64 (cut.tdiv 3) % 49 = r ∧ 0 ≤ r ∧ r < 49 := ⟨_, rfl, Int.emod_nonneg _ (by omega), Int.emod_lt_of_pos _ (by omega)⟩
    rw [hmi]
    obtain ⟨m, rfl⟩ := Int.eq_ofNat_of_zero_le mi1
    have hmc : (m : Int) ≤ (c7 : Int) := by omega
    have hm48 : m ≤ 48 := by omega
    clear hmi hct hct'
    go_wp2_with fail
    have hml : (L.take m).length = m := by rw [List.length_take, unhide HL]; omega
    have HRL : Hid (Row W8 (some ⟨g7, 0, none⟩) g7 (L.take m)) := row_take (unhide HROW) m
    have HML := hide hml
    clear hml
    refine wp_region_noPanic ?_
    refine wp_region_held_drew (S := fun V => Below W8.drew.heap.size W8.drew V) (by kernel_rfl) (Below.refl _ _) (fun hHeld => ?_)
    have HH := hide hHeld
    clear hHeld
    replace HT := hide ((unhide HT).drew)
    replace HBE := hide ((unhide HBE).below (Below.refl _ _).drew)
    replace HR5 := hide (Row.below (Below.refl _ W8).drew (unhide HR5))
    replace HRL := hide (Row.below (Below.refl _ W8).drew (unhide HRL))
    have HRR8 : Hid (Row W8.drew ar gr zr) := Row.below (unhide HT) (unhide HRR)
    replace HG7 : Hid (g7 < W8.drew.heap.size) := unhide HG7
    generalize W8.drew = wc at HT HBE HR5 HRL HRR8 HG7 HH ⊢
    refine takeL (i := 0) (v := ?_) rfl (by kernel_rfl) (by kernel_rfl) (by kernel_rfl) (fun _ _ _ h => h) (Or.inl ⟨by rfl, ?_⟩) (unhide HH) ?_
    rotate_left 1
    · intro W hSW; go_simp; all_goals (with_reducible rfl)
    (try simp only [Act.put, List.setIfInBounds_toArray, List.set_cons_zero, List.set_cons_succ])
    refine takeL (i := 2) (v := ?_) rfl (by kernel_rfl) (by kernel_rfl) (by kernel_rfl) (fun _ _ _ h => h) (Or.inl ⟨by rfl, ?_⟩) (unhide HH) ?_
    rotate_left 1
    · intro W hSW; go_simp; all_goals (with_reducible rfl)
    (try simp only [Act.put, List.setIfInBounds_toArray, List.set_cons_zero, List.set_cons_succ])
    refine takeL (i := 4) (v := ?_) rfl (by kernel_rfl) (by kernel_rfl) (by kernel_rfl) (fun _ _ _ h => h) (Or.inl ⟨by rfl, ?_⟩) (unhide HH) ?_
    rotate_left 1
    · intro W hSW; go_simp; all_goals (with_reducible rfl)
    (try simp only [Act.put, List.setIfInBounds_toArray, List.set_cons_zero, List.set_cons_succ])
    refine takeL (i := 6) (v := ?_) rfl (by kernel_rfl) (by kernel_rfl) (by kernel_rfl) (fun _ _ _ h => h) (Or.inl ⟨by rfl, ?_⟩) (unhide HH) ?_
    rotate_left 1
    · intro W hSW; go_simp; all_goals (with_reducible rfl)
    (try simp only [Act.put, List.setIfInBounds_toArray, List.set_cons_zero, List.set_cons_succ])
    refine takeL (i := 7) (v := ?_) rfl (by kernel_rfl) (by kernel_rfl) (by kernel_rfl) (fun _ _ _ h => h) (Or.inl ⟨by rfl, ?_⟩) (unhide HH) ?_
    rotate_left 1
    · intro W hSW; go_simp; all_goals (with_reducible rfl)
    (try simp only [Act.put, List.setIfInBounds_toArray, List.set_cons_zero, List.set_cons_succ])
    refine takeL (i := 8) (v := .agg (headA cut 0 0 0)) rfl (by kernel_rfl) (by kernel_rfl) (by kernel_rfl) (fun _ _ _ h => h) (Or.inl ⟨by rfl, ?_⟩) (unhide HH) ?_
    · intro W hSW; clear hSW; go_simp; all_goals (first | rfl | simp)
    (try simp only [Act.put, List.setIfInBounds_toArray, List.set_cons_zero, List.set_cons_succ])
    refine takeL (i := 9) (v := .agg (entA k l s d)) rfl (by kernel_rfl) (by kernel_rfl) (by kernel_rfl) (fun _ _ _ h => h) (Or.inl ⟨by rfl, fun W1 hSW => run_load_agg9 rfl rfl (load_TE ((unhide HBE).below hSW).blk (entA_size hd))⟩) (unhide HH) ?_
    (try simp only [Act.put, List.setIfInBounds_toArray, List.set_cons_zero, List.set_cons_succ])
    refine wpAnyH_ready (rs := [1]) (by kernel_rfl) (by simp) ?_
    refine consL rfl (fun K hK => ?_) AllReadyH.nil
    go_simp
    have hS : Below wc.heap.size wc (wc.alloc (.cells #[] 5)) := (Below.refl _ _).alloc (Nat.le_refl _) _
    have hON := own_none wc 5
    generalize wc.alloc (.cells #[] 5) = wa at hS hON ⊢
    have HO1 := hide hON
    have HSA : Hid (wc.heap.size ≤ wa.heap.size) := hS.size
    clear hON
    refine hK.out _ _ hS (fun hHeld => ?_)
    clear hK K HH hS
    have HH := hide hHeld
    clear hHeld
    (try simp only [Act.put, List.setIfInBounds_toArray, List.set_cons_zero, List.set_cons_succ])
    refine wpAnyH_ready (rs := [3]) (by kernel_rfl) (by simp) ?_
    refine consL rfl (fun K hK => ?_) AllReadyH.nil
    refine wp_append_b (.tmp 78) (.tmp 79) (by rfl) wc.heap.size _ 0 _ (byT 5 1 2 3 (gdK k) (gdLb k l) (gdS k s) (gdD k d)) (by rfl) (unhide HO1) _ g5 48 _ (by rfl) (byW_len (unhide HGL) rfl) (Row.below (unhide HH) (unhide HR5)) (fun h => by cases h) (by omega) (unhide HSA) ?_
    intro v3 wb ho hg
    rw [List.nil_append, Nat.zero_add] at ho
    obtain ⟨g3, c3, rfl⟩ := ownsRow_succ (k := 47) ho
    have hS : Below wc.heap.size wc wb := below_grown (unhide HH) hg (unhide HSA) (fun k hk => ((unhide HO1).lt k hk).1)
    have HO3 := hide ho
    have HSB : Hid (wc.heap.size ≤ wb.heap.size) := hS.size
    clear ho hg
    refine hK.out _ _ hS (fun hHeld => ?_)
    clear hK K HH hS
    have HH := hide hHeld
    clear hHeld
    (try simp only [Act.put, List.setIfInBounds_toArray, List.set_cons_zero, List.set_cons_succ])
    refine wpAnyH_ready (rs := [5]) (by kernel_rfl) (by simp) ?_
    refine consL rfl (fun K hK => ?_) AllReadyH.nil
    refine wp_append_b (.tmp 80) (.tmp 81) (by rfl) wc.heap.size _ 48 _ zr (by rfl) (unhide HO3) _ gr nr _ (by rfl) (unhide HZR) (Row.below (unhide HH) (unhide HRR8)) (unhide HRN) (by omega) (unhide HSB) ?_
    intro v5 wd ho hg
    rw [← List.map_append] at ho
    have hS : Below wc.heap.size wc wd := below_grown (unhide HH) hg (unhide HSB) (fun k hk => ((unhide HO3).lt k hk).1)
    obtain ⟨a5, g5', c5', rfl, l5, r5, n5, z5, s5⟩ := own_sl ho
    have HR5B := hide r5
    have HL5 := hide l5
    have HS5 : Hid ((byT 5 1 2 3 (gdK k) (gdLb k l) (gdS k s) (gdD k d) ++ zr) = [] ∨ g5' < wd.heap.size) := s5.imp_right (fun h => h.2)
    have HN5 := hide n5
    have HZ5 := hide z5
    clear ho hg r5 s5 l5 n5 z5
    refine hK.out _ _ hS (fun hHeld => ?_)
    clear hK K HH hS
    have HH := hide hHeld
    clear hHeld
    (try simp only [Act.put, List.setIfInBounds_toArray, List.set_cons_zero, List.set_cons_succ])
    refine wpAnyH_ready (rs := [10]) (by kernel_rfl) (by simp) ?_
    refine consL rfl (fun K hK => ?_) AllReadyH.nil
    go_simp
    refine (rbytes_any cut 0 0 0 k l s d hd _).mono ?_
    rintro e we ⟨g10, c10, rfl, ho, hk⟩
    have hS : Below wc.heap.size wc we := (unhide HH).trans (hk.mono (unhide HH).size)
    replace HR5B := hide (Row.below hk (unhide HR5B))
    replace HS5 : Hid ((byT 5 1 2 3 (gdK k) (gdLb k l) (gdS k s) (gdD k d) ++ zr) = [] ∨ g5' < we.heap.size) := (unhide HS5).imp_right (fun h => Nat.lt_of_lt_of_le h hk.size)
    have HR10 := hide (row_of_owns ho)
    have HG10 : Hid (g10 < we.heap.size) := (ho.lt g10 rfl).2
    have hc10 : 48 ≤ c10 := by
      rcases ho.2 with ⟨hx, _⟩ | ⟨g, cap, cur, hx, _, _, h1, _⟩
      · cases hx
      · cases hx; exact h1
    clear ho hk
    refine hK.out _ _ hS (fun hHeld => ?_)
    clear hK K HH hS
    have HH := hide hHeld
    clear hHeld
    (try simp only [Act.put, List.setIfInBounds_toArray, List.set_cons_zero, List.set_cons_succ])
    refine wpAnyH_ready (rs := [11]) (by kernel_rfl) (by simp) ?_
    refine consL rfl (fun K hK => ?_) AllReadyH.nil
    go_simp
    have hk : Below we.heap.size we (we.alloc (.cells #[.slice (some ⟨g7, 0, none⟩) m c7, .slice a5 (48 + nr) c5', .slice ar nr cr, .slice (some ⟨g10, 0, none⟩) 48 c10] 30)) := (Below.refl _ _).alloc (Nat.le_refl _) _
    have hS : Below wc.heap.size wc (we.alloc (.cells #[.slice (some ⟨g7, 0, none⟩) m c7, .slice a5 (48 + nr) c5', .slice ar nr cr, .slice (some ⟨g10, 0, none⟩) 48 c10] 30)) := (unhide HH).trans (hk.mono (unhide HH).size)
    have hbk : (we.alloc (.cells #[.slice (some ⟨g7, 0, none⟩) m c7, .slice a5 (48 + nr) c5', .slice ar nr cr, .slice (some ⟨g10, 0, none⟩) 48 c10] 30)).heap[we.heap.size]? = some (.cells #[.slice (some ⟨g7, 0, none⟩) m c7, .slice a5 (48 + nr) c5', .slice ar nr cr, .slice (some ⟨g10, 0, none⟩) 48 c10] 30 (0, 0)) := World.alloc_heap_new we _
    generalize we.alloc (.cells #[.slice (some ⟨g7, 0, none⟩) m c7, .slice a5 (48 + nr) c5', .slice ar nr cr, .slice (some ⟨g10, 0, none⟩) 48 c10] 30) = wf at hk hS hbk ⊢
    obtain ⟨g14, hg14⟩ : ∃ b, we.heap.size = b := ⟨_, rfl⟩
    rw [hg14] at hbk ⊢
    replace HR5B := hide (Row.below hk (unhide HR5B))
    replace HS5 : Hid ((byT 5 1 2 3 (gdK k) (gdLb k l) (gdS k s) (gdD k d) ++ zr) = [] ∨ g5' < wf.heap.size) := (unhide HS5).imp_right (fun h => Nat.lt_of_lt_of_le h hk.size)
    replace HR10 := hide (Row.below hk (unhide HR10))
    replace HG10 : Hid (g10 < wf.heap.size) := Nat.lt_of_lt_of_le (unhide HG10) hk.size
    have HBK := hide hbk
    clear hk hbk
    refine hK.out _ _ hS (fun hHeld => ?_)
    clear hK K HH hS
    have HH := hide hHeld
    clear hHeld
    (try simp only [Act.put, List.setIfInBounds_toArray, List.set_cons_zero, List.set_cons_succ])
    refine takeL (i := 12) (v := ?_) rfl (by kernel_rfl) (by kernel_rfl) (by kernel_rfl) (fun _ _ _ h => h) (Or.inl ⟨by rfl, ?_⟩) (unhide HH) ?_
    rotate_left 1
    · intro W hSW; go_simp; all_goals (with_reducible rfl)
    (try simp only [Act.put, List.setIfInBounds_toArray, List.set_cons_zero, List.set_cons_succ])
    refine wpAnyH_done (by kernel_rfl) ?_ _
    refine NoPanic.normal ?_
    have HRS : Hid (∀ i, i < 4 → ∃ ao n c g zs, (#[.slice (some ⟨g7, 0, none⟩) m c7, .slice a5 (48 + nr) c5', .slice ar nr cr, .slice (some ⟨g10, 0, none⟩) 48 c10] : Array Value)[i]? = some (.slice ao n c) ∧ zs.length = n ∧ Row wf ao g zs ∧ n ≤ c ∧ (ao = none → n = 0 ∧ c = 0) ∧ Byt zs ∧ n ≤ 200 ∧ (zs = [] ∨ g < wf.heap.size)) := by
      have hkc := unhide HH
      intro i hi
      match i, hi with
      | 0, _ => exact ⟨_, _, _, g7, L.take m, rfl, unhide HML, Row.below hkc (unhide HRL), by omega, (fun h => by cases h), fun z hz => unhide HYL z (List.mem_of_mem_take hz), by omega, .inr (Nat.lt_of_lt_of_le (unhide HG7) hkc.size)⟩
      | 1, _ => exact ⟨_, _, _, g5', byT 5 1 2 3 (gdK k) (gdLb k l) (gdS k s) (gdD k d) ++ zr, rfl, unhide HL5, unhide HR5B, unhide HN5, unhide HZ5, byt_app (byW_byt (mem_lt10 (unhide HGB)) (by simp)) (unhide HYR), by omega, unhide HS5⟩
      | 2, _ => exact ⟨_, _, _, gr, zr, rfl, unhide HZR, Row.below hkc (unhide HRR8), hrc, unhide HRN, unhide HYR, by omega, (by
          rcases unhide HRR with h | ⟨o, h, h'⟩
          · exact .inl h
          · by_cases hz : zr = []
            · exact .inl hz
            · have h3 := block_lt_of_cell (h' 0 (List.length_pos_iff.2 hz))
              have h4 := (unhide HT).size
              have h5 := hkc.size
              exact .inr (by dsimp only at h3; omega))⟩
      | 3, _ => exact ⟨_, _, _, g10, byT cut 0 0 0 k l s d, rfl, byW_len hd rfl, unhide HR10, hc10, (fun h => by cases h), byW_byt (mem_lt10 (unhide HDB)) (by simp), by omega, .inr (unhide HG10)⟩
    replace HT := hide ((unhide HT).trans ((unhide HH).mono (unhide HT).size))
    clear HH HR5B HS5 HR10 HG10 HL5 HN5 HZ5 HRL HRR8 HG7 HR5 HBE HML
    go_wp2_with fail
    go_loopw [15] (fun i wr => ∃ q : Nat, q ≤ 4 ∧ i = .int .i64 q ∧ Below wf.heap.size wf wr) (fun i _ => 4 - (intOf i).toNat)
    case atStart => exact ⟨0, by omega, rfl, Below.refl _ _⟩
    case round =>
      obtain ⟨q, hq, rfl, hb⟩ := hrel
      have HB := hide hb
      clear hb
      by_cases h4 : q < 4
      · have h4' : (q : Int) < 4 := by omega
        obtain ⟨ao, n, c, g, zs, hARR, hzl, hrow, hnc, hnil, hby, hn2, hgz⟩ := unhide HRS q h4
        have hc14 : wr.cell? ⟨g14, q, none⟩ = some (.slice ao n c) := cell_blk (((unhide HB).block _ (lt_of_block (unhide HBK))).trans (unhide HBK)) hARR
        have hroww : Row wr ao g zs := Row.below (unhide HB) hrow
        have HROWW := hide hroww
        have HZL := hide hzl
        have HBYZ := hide hby
        have HGZ : Hid (zs = [] ∨ g < wr.heap.size) := hgz.imp_right (fun h => Nat.lt_of_lt_of_le h (unhide HB).size)
        obtain ⟨CH, CE, F, hPR, hCE, hCO, hqH, hqE⟩ : ∃ (CH CE : Array Value) (F : Int), (∀ e, ParR e zs → e = .returned (.tuple #[.agg CH, .agg CE, .int .i64 F])) ∧ CE.size = 19 ∧ (CE.all (·.oneCell') = true ∧ CH.all (·.oneCell') = true ∧ CH.size = 4) ∧ (∀ W, (binOp .neq 29 (.agg CH) (.agg CH)).run Try.prog W = .ok (.bool false) W) ∧ (∀ W, (binOp .neq 24 (.agg CE) (.agg CE)).run Try.prog W = .ok (.bool false) W) :=
          ⟨_, _, _, fun e h => h, entA_size (parD_len _), ⟨entA_one _ _ _ _, one_head _ _ _ _, rfl⟩, fun W => neTH _ _ _ _ _ _ _ _ false (by simp) W, fun W => neTE _ _ _ _ _ _ _ _ (parD_len _) (parD_len _) false (by simp) W⟩
        have HPR := hide hPR
        have HCE := hide hCE
        have HCO := hide hCO
        have hFF : (F != F) = false := by simp
        obtain ⟨wa, hwa⟩ : ∃ W, wr.alloc (.cells #[] 5) = W := ⟨_, rfl⟩
        have hka : Below wr.heap.size wr wa := by rw [← hwa]; exact (Below.refl _ _).alloc (Nat.le_refl _) _
        have hon : wa.ownsRow wr.heap.size 5 1 (.slice (some ⟨wr.heap.size, 0, none⟩) 0 0) 0 [] := by rw [← hwa]; exact own_none wr 5
        have hc14a : wa.cell? ⟨g14, q, none⟩ = some (.slice ao n c) := (hka.cell (block_lt_of_cell hc14)).trans hc14
        obtain ⟨v7, wb, hrb, hob, hgb, -⟩ := run_append_row (P := Try.prog) wa wr.heap.size 30 30 5 i0 Try.underlying30 (unhide HI0) hz0 hzz1 hz2 _ 0 [] hon ao g n c zs hzl (Row.below hka hroww) hnil (by omega) hka.size
        rw [List.nil_append, Nat.zero_add] at hob
        obtain ⟨ao', g', c', rfl, hl', hr', hn', hz', hs'⟩ := own_sl hob
        have hkb : Below wr.heap.size wr wb := below_grown hka hgb hka.size (fun k hk => (hon.lt k hk).1)
        have HKB := hide hkb
        have HRBB := hide hrb
        have HR' := hide hr'
        have HC14 := hide hc14
        clear hob hgb hon hl' hn' hz' hs' hr' hrb hkb hARR hzl hrow hnil hby hgz hroww hPR hCE hCO hc14
        go_wp2_with (at_builtin; refine wpList_append_run rfl _ _ _ _ _ rfl _ _ rfl rfl (unhide HRBB) ?_)
        clear hwa hka hc14a HRBB
        refine (parse_any ao' g' n c' zs wb (by omega) (unhide HZL) (unhide HBYZ) (unhide HR')).mono ?_
        rintro e wc2 ⟨hp, hk⟩
        obtain rfl := unhide HPR _ hp
        have HKC := hide ((unhide HKB).trans (hk.mono (unhide HKB).size))
        clear hp hk
        obtain ⟨wd2, hWN1⟩ : ∃ W, ((((wc2.alloc (.cells #[.int .i64 0, .int .i64 0, .int .i64 0, .int .i64 0] 29)).alloc (.cells #[.int .i64 0, .int .i64 0, .int .i64 0, .int .u8 0, .int .u8 0, .int .u8 0, .int .u8 0, .int .u8 0, .int .u8 0, .int .u8 0, .int .u8 0, .int .u8 0, .int .u8 0, .int .u8 0, .int .u8 0, .int .u8 0, .int .u8 0, .int .u8 0, .int .u8 0] 24)).setRow wc2.heap.size CH).setRow (wc2.heap.size + 1) CE) = W := ⟨_, rfl⟩
        obtain ⟨n1, n2, n3, n4, n5⟩ := two_new10 wc2 #[.int .i64 0, .int .i64 0, .int .i64 0, .int .i64 0] #[.int .i64 0, .int .i64 0, .int .i64 0, .int .u8 0, .int .u8 0, .int .u8 0, .int .u8 0, .int .u8 0, .int .u8 0, .int .u8 0, .int .u8 0, .int .u8 0, .int .u8 0, .int .u8 0, .int .u8 0, .int .u8 0, .int .u8 0, .int .u8 0, .int .u8 0] CH CE 29 24 wd2 hWN1
        have HXa1 := hide n1
        have HXb1 := hide n2
        have HXc1 := hide n3
        have HXd1 := hide n4
        have HWN1 := hide hWN1
        have hkn : Below wr.heap.size wr wd2 := (unhide HKC).trans (n5.mono (unhide HKC).size)
        have hsn : wc2.heap.size + 2 ≤ wd2.heap.size := by have := n3.lt; have := n4.lt; omega
        have hcd : wd2.cell? ⟨g14, q, none⟩ = some (.slice ao n c) := (hkn.cell (block_lt_of_cell (unhide HC14))).trans (unhide HC14)
        replace HKC := hide hkn
        clear n1 n2 n3 n4 n5 hWN1 hkn hsn
        go_wp2_with (first | (refine wpList_store_row rfl 29 _ _ rfl wc2.heap.size CH rfl rfl 29 #[.int .i64 0, .int .i64 0, .int .i64 0, .int .i64 0] (unhide HXa1).blk (by rw [sizeTH, (unhide HCO).2.2]) (by rw [(unhide HCO).2.2]; rfl) (unhide HCO).2.1 ?_) | (refine wpList_store_row rfl 24 _ _ rfl (wc2.heap.size + 1) CE rfl rfl 24 #[.int .i64 0, .int .i64 0, .int .i64 0, .int .u8 0, .int .u8 0, .int .u8 0, .int .u8 0, .int .u8 0, .int .u8 0, .int .u8 0, .int .u8 0, .int .u8 0, .int .u8 0, .int .u8 0, .int .u8 0, .int .u8 0, .int .u8 0, .int .u8 0, .int .u8 0] (unhide HXb1).blk (by rw [sizeTE, unhide HCE]) (by rw [unhide HCE]; rfl) (unhide HCO).1 ?_; rw [unhide HWN1]))
        clear hcd HXa1 HXb1 HWN1
        refine (rparse_any ao g n c zs wd2 (by omega) (unhide HZL) hnc ((unhide HGZ).imp_right (fun h => Nat.lt_of_lt_of_le h (unhide HKC).size)) (unhide HBYZ) (Row.below (unhide HKC) (unhide HROWW))).mono ?_
        rintro e we2 ⟨hp, hk⟩
        obtain rfl := unhide HPR _ hp
        replace HKC := hide ((unhide HKC).trans (hk.mono (unhide HKC).size))
        have HXc := hide ((unhide HXc1).below hk)
        have HXd := hide ((unhide HXd1).below hk)
        clear hp hk HXc1 HXd1
        obtain ⟨wf2, hWN2⟩ : ∃ W, ((((we2.alloc (.cells #[.int .i64 0, .int .i64 0, .int .i64 0, .int .i64 0] 29)).alloc (.cells #[.int .i64 0, .int .i64 0, .int .i64 0, .int .u8 0, .int .u8 0, .int .u8 0, .int .u8 0, .int .u8 0, .int .u8 0, .int .u8 0, .int .u8 0, .int .u8 0, .int .u8 0, .int .u8 0, .int .u8 0, .int .u8 0, .int .u8 0, .int .u8 0, .int .u8 0] 24)).setRow we2.heap.size CH).setRow (we2.heap.size + 1) CE) = W := ⟨_, rfl⟩
        obtain ⟨n1, n2, n3, n4, n5⟩ := two_new10 we2 #[.int .i64 0, .int .i64 0, .int .i64 0, .int .i64 0] #[.int .i64 0, .int .i64 0, .int .i64 0, .int .u8 0, .int .u8 0, .int .u8 0, .int .u8 0, .int .u8 0, .int .u8 0, .int .u8 0, .int .u8 0, .int .u8 0, .int .u8 0, .int .u8 0, .int .u8 0, .int .u8 0, .int .u8 0, .int .u8 0, .int .u8 0] CH CE 29 24 wf2 hWN2
        have HXa2 := hide n1
        have HXb2 := hide n2
        have HXc2 := hide n3
        have HXd2 := hide n4
        have HWN2 := hide hWN2
        have hkn : Below wr.heap.size wr wf2 := (unhide HKC).trans (n5.mono (unhide HKC).size)
        have hsn : we2.heap.size + 2 ≤ wf2.heap.size := by have := n3.lt; have := n4.lt; omega
        replace HXc := hide ((unhide HXc).below n5)
        replace HXd := hide ((unhide HXd).below n5)
        replace HKC := hide hkn
        clear n1 n2 n3 n4 n5 hWN2 hkn hsn
        go_wp2_with (first | (refine wpList_store_row rfl 29 _ _ rfl we2.heap.size CH rfl rfl 29 #[.int .i64 0, .int .i64 0, .int .i64 0, .int .i64 0] (unhide HXa2).blk (by rw [sizeTH, (unhide HCO).2.2]) (by rw [(unhide HCO).2.2]; rfl) (unhide HCO).2.1 ?_) | (refine wpList_store_row rfl 24 _ _ rfl (we2.heap.size + 1) CE rfl rfl 24 #[.int .i64 0, .int .i64 0, .int .i64 0, .int .u8 0, .int .u8 0, .int .u8 0, .int .u8 0, .int .u8 0, .int .u8 0, .int .u8 0, .int .u8 0, .int .u8 0, .int .u8 0, .int .u8 0, .int .u8 0, .int .u8 0, .int .u8 0, .int .u8 0, .int .u8 0] (unhide HXb2).blk (by rw [sizeTE, unhide HCE]) (by rw [unhide HCE]; rfl) (unhide HCO).1 ?_; rw [unhide HWN2]) | (refine wpList_load_want10 rfl 29 _ rfl wc2.heap.size rfl 29 CH _ _ (unhide HXc).blk Try.underlying29 rfl (by rw [sizeTH, (unhide HCO).2.2]) ?_) | (refine wpList_load_want10 rfl 29 _ rfl we2.heap.size rfl 29 CH _ _ (unhide HXc2).blk Try.underlying29 rfl (by rw [sizeTH, (unhide HCO).2.2]) ?_) | (refine wpList_load_want10 rfl 24 _ rfl (wc2.heap.size + 1) rfl 24 CE _ _ (unhide HXd).blk Try.underlying24 rfl (by rw [sizeTE, unhide HCE]) ?_) | (refine wpList_load_want10 rfl 24 _ rfl (we2.heap.size + 1) rfl 24 CE _ _ (unhide HXd2).blk Try.underlying24 rfl (by rw [sizeTE, unhide HCE]) ?_))
        go_roundw
        case rel => exact ⟨q + 1, by omega, by go_num, (unhide HB).trans ((unhide HKC).mono (unhide HB).size)⟩
        case measure => simp [intOf] <;> omega
      · have h44 : q = 4 := by omega
        subst h44
        go_wp2
        go_ret
        exact ⟨rfl, (unhide HT).trans ((unhide HB).mono (unhide HT).size)⟩
  · have hct' : (cut.tmod 3 == 1) = false := by rw [beq_eq_false_iff_ne]; exact hct
    go_wp2_with fail
    clear hct hct'
    have hml : (L.take 48).length = 48 := by rw [List.length_take, unhide HL]; omega
    have HRL : Hid (Row W8 (some ⟨g7, 0, none⟩) g7 (L.take 48)) := row_take (unhide HROW) 48
    have HML := hide hml
    clear hml
    refine wp_region_noPanic ?_
    refine wp_region_held_drew (S := fun V => Below W8.drew.heap.size W8.drew V) (by kernel_rfl) (Below.refl _ _) (fun hHeld => ?_)
    have HH := hide hHeld
    clear hHeld
    replace HT := hide ((unhide HT).drew)
    replace HBE := hide ((unhide HBE).below (Below.refl _ _).drew)
    replace HR5 := hide (Row.below (Below.refl _ W8).drew (unhide HR5))
    replace HRL := hide (Row.below (Below.refl _ W8).drew (unhide HRL))
    have HRR8 : Hid (Row W8.drew ar gr zr) := Row.below (unhide HT) (unhide HRR)
    replace HG7 : Hid (g7 < W8.drew.heap.size) := unhide HG7
    generalize W8.drew = wc at HT HBE HR5 HRL HRR8 HG7 HH ⊢
    refine takeL (i := 0) (v := ?_) rfl (by kernel_rfl) (by kernel_rfl) (by kernel_rfl) (fun _ _ _ h => h) (Or.inl ⟨by rfl, ?_⟩) (unhide HH) ?_
    rotate_left 1
    · intro W hSW; go_simp; all_goals (with_reducible rfl)
    (try simp only [Act.put, List.setIfInBounds_toArray, List.set_cons_zero, List.set_cons_succ])
    refine takeL (i := 2) (v := ?_) rfl (by kernel_rfl) (by kernel_rfl) (by kernel_rfl) (fun _ _ _ h => h) (Or.inl ⟨by rfl, ?_⟩) (unhide HH) ?_
    rotate_left 1
    · intro W hSW; go_simp; all_goals (with_reducible rfl)
    (try simp only [Act.put, List.setIfInBounds_toArray, List.set_cons_zero, List.set_cons_succ])
    refine takeL (i := 4) (v := ?_) rfl (by kernel_rfl) (by kernel_rfl) (by kernel_rfl) (fun _ _ _ h => h) (Or.inl ⟨by rfl, ?_⟩) (unhide HH) ?_
    rotate_left 1
    · intro W hSW; go_simp; all_goals (with_reducible rfl)
    (try simp only [Act.put, List.setIfInBounds_toArray, List.set_cons_zero, List.set_cons_succ])
    refine takeL (i := 6) (v := ?_) rfl (by kernel_rfl) (by kernel_rfl) (by kernel_rfl) (fun _ _ _ h => h) (Or.inl ⟨by rfl, ?_⟩) (unhide HH) ?_
    rotate_left 1
    · intro W hSW; go_simp; all_goals (with_reducible rfl)
    (try simp only [Act.put, List.setIfInBounds_toArray, List.set_cons_zero, List.set_cons_succ])
    refine takeL (i := 7) (v := ?_) rfl (by kernel_rfl) (by kernel_rfl) (by kernel_rfl) (fun _ _ _ h => h) (Or.inl ⟨by rfl, ?_⟩) (unhide HH) ?_
    rotate_left 1
    · intro W hSW; go_simp; all_goals (with_reducible rfl)
    (try simp only [Act.put, List.setIfInBounds_toArray, List.set_cons_zero, List.set_cons_succ])
    refine takeL (i := 8) (v := .agg (headA cut 0 0 0)) rfl (by kernel_rfl) (by kernel_rfl) (by kernel_rfl) (fun _ _ _ h => h) (Or.inl ⟨by rfl, ?_⟩) (unhide HH) ?_
    · intro W hSW; clear hSW; go_simp; all_goals (first | rfl | simp)
    (try simp only [Act.put, List.setIfInBounds_toArray, List.set_cons_zero, List.set_cons_succ])
    refine takeL (i := 9) (v := .agg (entA k l s d)) rfl (by kernel_rfl) (by kernel_rfl) (by kernel_rfl) (fun _ _ _ h => h) (Or.inl ⟨by rfl, fun W1 hSW => run_load_agg9 rfl rfl (load_TE ((unhide HBE).below hSW).blk (entA_size hd))⟩) (unhide HH) ?_
    (try simp only [Act.put, List.setIfInBounds_toArray, List.set_cons_zero, List.set_cons_succ])
    refine wpAnyH_ready (rs := [1]) (by kernel_rfl) (by simp) ?_
    refine consL rfl (fun K hK => ?_) AllReadyH.nil
    go_simp
    have hS : Below wc.heap.size wc (wc.alloc (.cells #[] 5)) := (Below.refl _ _).alloc (Nat.le_refl _) _
    have hON := own_none wc 5
    generalize wc.alloc (.cells #[] 5) = wa at hS hON ⊢
    have HO1 := hide hON
    have HSA : Hid (wc.heap.size ≤ wa.heap.size) := hS.size
    clear hON
    refine hK.out _ _ hS (fun hHeld => ?_)
    clear hK K HH hS
    have HH := hide hHeld
    clear hHeld
    (try simp only [Act.put, List.setIfInBounds_toArray, List.set_cons_zero, List.set_cons_succ])
    refine wpAnyH_ready (rs := [3]) (by kernel_rfl) (by simp) ?_
    refine consL rfl (fun K hK => ?_) AllReadyH.nil
    refine wp_append_b (.tmp 78) (.tmp 79) (by rfl) wc.heap.size _ 0 _ (byT 5 1 2 3 (gdK k) (gdLb k l) (gdS k s) (gdD k d)) (by rfl) (unhide HO1) _ g5 48 _ (by rfl) (byW_len (unhide HGL) rfl) (Row.below (unhide HH) (unhide HR5)) (fun h => by cases h) (by omega) (unhide HSA) ?_
    intro v3 wb ho hg
    rw [List.nil_append, Nat.zero_add] at ho
    obtain ⟨g3, c3, rfl⟩ := ownsRow_succ (k := 47) ho
    have hS : Below wc.heap.size wc wb := below_grown (unhide HH) hg (unhide HSA) (fun k hk => ((unhide HO1).lt k hk).1)
    have HO3 := hide ho
    have HSB : Hid (wc.heap.size ≤ wb.heap.size) := hS.size
    clear ho hg
    refine hK.out _ _ hS (fun hHeld => ?_)
    clear hK K HH hS
    have HH := hide hHeld
    clear hHeld
    (try simp only [Act.put, List.setIfInBounds_toArray, List.set_cons_zero, List.set_cons_succ])
    refine wpAnyH_ready (rs := [5]) (by kernel_rfl) (by simp) ?_
    refine consL rfl (fun K hK => ?_) AllReadyH.nil
    refine wp_append_b (.tmp 80) (.tmp 81) (by rfl) wc.heap.size _ 48 _ zr (by rfl) (unhide HO3) _ gr nr _ (by rfl) (unhide HZR) (Row.below (unhide HH) (unhide HRR8)) (unhide HRN) (by omega) (unhide HSB) ?_
    intro v5 wd ho hg
    rw [← List.map_append] at ho
    have hS : Below wc.heap.size wc wd := below_grown (unhide HH) hg (unhide HSB) (fun k hk => ((unhide HO3).lt k hk).1)
    obtain ⟨a5, g5', c5', rfl, l5, r5, n5, z5, s5⟩ := own_sl ho
    have HR5B := hide r5
    have HL5 := hide l5
    have HS5 : Hid ((byT 5 1 2 3 (gdK k) (gdLb k l) (gdS k s) (gdD k d) ++ zr) = [] ∨ g5' < wd.heap.size) := s5.imp_right (fun h => h.2)
    have HN5 := hide n5
    have HZ5 := hide z5
    clear ho hg r5 s5 l5 n5 z5
    refine hK.out _ _ hS (fun hHeld => ?_)
    clear hK K HH hS
    have HH := hide hHeld
    clear hHeld
    (try simp only [Act.put, List.setIfInBounds_toArray, List.set_cons_zero, List.set_cons_succ])
    refine wpAnyH_ready (rs := [10]) (by kernel_rfl) (by simp) ?_
    refine consL rfl (fun K hK => ?_) AllReadyH.nil
    go_simp
    refine (rbytes_any cut 0 0 0 k l s d hd _).mono ?_
    rintro e we ⟨g10, c10, rfl, ho, hk⟩
    have hS : Below wc.heap.size wc we := (unhide HH).trans (hk.mono (unhide HH).size)
    replace HR5B := hide (Row.below hk (unhide HR5B))
    replace HS5 : Hid ((byT 5 1 2 3 (gdK k) (gdLb k l) (gdS k s) (gdD k d) ++ zr) = [] ∨ g5' < we.heap.size) := (unhide HS5).imp_right (fun h => Nat.lt_of_lt_of_le h hk.size)
    have HR10 := hide (row_of_owns ho)
    have HG10 : Hid (g10 < we.heap.size) := (ho.lt g10 rfl).2
    have hc10 : 48 ≤ c10 := by
      rcases ho.2 with ⟨hx, _⟩ | ⟨g, cap, cur, hx, _, _, h1, _⟩
      · cases hx
      · cases hx; exact h1
    clear ho hk
    refine hK.out _ _ hS (fun hHeld => ?_)
    clear hK K HH hS
    have HH := hide hHeld
    clear hHeld
    (try simp only [Act.put, List.setIfInBounds_toArray, List.set_cons_zero, List.set_cons_succ])
    refine wpAnyH_ready (rs := [11]) (by kernel_rfl) (by simp) ?_
    refine consL rfl (fun K hK => ?_) AllReadyH.nil
    go_simp
    have hk : Below we.heap.size we (we.alloc (.cells #[.slice (some ⟨g7, 0, none⟩) 48 c7, .slice a5 (48 + nr) c5', .slice ar nr cr, .slice (some ⟨g10, 0, none⟩) 48 c10] 30)) := (Below.refl _ _).alloc (Nat.le_refl _) _
    have hS : Below wc.heap.size wc (we.alloc (.cells #[.slice (some ⟨g7, 0, none⟩) 48 c7, .slice a5 (48 + nr) c5', .slice ar nr cr, .slice (some ⟨g10, 0, none⟩) 48 c10] 30)) := (unhide HH).trans (hk.mono (unhide HH).size)
    have hbk : (we.alloc (.cells #[.slice (some ⟨g7, 0, none⟩) 48 c7, .slice a5 (48 + nr) c5', .slice ar nr cr, .slice (some ⟨g10, 0, none⟩) 48 c10] 30)).heap[we.heap.size]? = some (.cells #[.slice (some ⟨g7, 0, none⟩) 48 c7, .slice a5 (48 + nr) c5', .slice ar nr cr, .slice (some ⟨g10, 0, none⟩) 48 c10] 30 (0, 0)) := World.alloc_heap_new we _
    generalize we.alloc (.cells #[.slice (some ⟨g7, 0, none⟩) 48 c7, .slice a5 (48 + nr) c5', .slice ar nr cr, .slice (some ⟨g10, 0, none⟩) 48 c10] 30) = wf at hk hS hbk ⊢
    obtain ⟨g14, hg14⟩ : ∃ b, we.heap.size = b := ⟨_, rfl⟩
    rw [hg14] at hbk ⊢
    replace HR5B := hide (Row.below hk (unhide HR5B))
    replace HS5 : Hid ((byT 5 1 2 3 (gdK k) (gdLb k l) (gdS k s) (gdD k d) ++ zr) = [] ∨ g5' < wf.heap.size) := (unhide HS5).imp_right (fun h => Nat.lt_of_lt_of_le h hk.size)
    replace HR10 := hide (Row.below hk (unhide HR10))
    replace HG10 : Hid (g10 < wf.heap.size) := Nat.lt_of_lt_of_le (unhide HG10) hk.size
    have HBK := hide hbk
    clear hk hbk
    refine hK.out _ _ hS (fun hHeld => ?_)
    clear hK K HH hS
    have HH := hide hHeld
    clear hHeld
    (try simp only [Act.put, List.setIfInBounds_toArray, List.set_cons_zero, List.set_cons_succ])
    refine takeL (i := 12) (v := ?_) rfl (by kernel_rfl) (by kernel_rfl) (by kernel_rfl) (fun _ _ _ h => h) (Or.inl ⟨by rfl, ?_⟩) (unhide HH) ?_
    rotate_left 1
    · intro W hSW; go_simp; all_goals (with_reducible rfl)
    (try simp only [Act.put, List.setIfInBounds_toArray, List.set_cons_zero, List.set_cons_succ])
    refine wpAnyH_done (by kernel_rfl) ?_ _
    refine NoPanic.normal ?_
    have HRS : Hid (∀ i, i < 4 → ∃ ao n c g zs, (#[.slice (some ⟨g7, 0, none⟩) 48 c7, .slice a5 (48 + nr) c5', .slice ar nr cr, .slice (some ⟨g10, 0, none⟩) 48 c10] : Array Value)[i]? = some (.slice ao n c) ∧ zs.length = n ∧ Row wf ao g zs ∧ n ≤ c ∧ (ao = none → n = 0 ∧ c = 0) ∧ Byt zs ∧ n ≤ 200 ∧ (zs = [] ∨ g < wf.heap.size)) := by
      have hkc := unhide HH
      intro i hi
      match i, hi with
      | 0, _ => exact ⟨_, _, _, g7, L.take 48, rfl, unhide HML, Row.below hkc (unhide HRL), by omega, (fun h => by cases h), fun z hz => unhide HYL z (List.mem_of_mem_take hz), by omega, .inr (Nat.lt_of_lt_of_le (unhide HG7) hkc.size)⟩
      | 1, _ => exact ⟨_, _, _, g5', byT 5 1 2 3 (gdK k) (gdLb k l) (gdS k s) (gdD k d) ++ zr, rfl, unhide HL5, unhide HR5B, unhide HN5, unhide HZ5, byt_app (byW_byt (mem_lt10 (unhide HGB)) (by simp)) (unhide HYR), by omega, unhide HS5⟩
      | 2, _ => exact ⟨_, _, _, gr, zr, rfl, unhide HZR, Row.below hkc (unhide HRR8), hrc, unhide HRN, unhide HYR, by omega, (by
          rcases unhide HRR with h | ⟨o, h, h'⟩
          · exact .inl h
          · by_cases hz : zr = []
            · exact .inl hz
            · have h3 := block_lt_of_cell (h' 0 (List.length_pos_iff.2 hz))
              have h4 := (unhide HT).size
              have h5 := hkc.size
              exact .inr (by dsimp only at h3; omega))⟩
      | 3, _ => exact ⟨_, _, _, g10, byT cut 0 0 0 k l s d, rfl, byW_len hd rfl, unhide HR10, hc10, (fun h => by cases h), byW_byt (mem_lt10 (unhide HDB)) (by simp), by omega, .inr (unhide HG10)⟩
    replace HT := hide ((unhide HT).trans ((unhide HH).mono (unhide HT).size))
    clear HH HR5B HS5 HR10 HG10 HL5 HN5 HZ5 HRL HRR8 HG7 HR5 HBE HML
    go_wp2_with fail
    go_loopw [15] (fun i wr => ∃ q : Nat, q ≤ 4 ∧ i = .int .i64 q ∧ Below wf.heap.size wf wr) (fun i _ => 4 - (intOf i).toNat)
    case atStart => exact ⟨0, by omega, rfl, Below.refl _ _⟩
    case round =>
      obtain ⟨q, hq, rfl, hb⟩ := hrel
      have HB := hide hb
      clear hb
      by_cases h4 : q < 4
      · have h4' : (q : Int) < 4 := by omega
        obtain ⟨ao, n, c, g, zs, hARR, hzl, hrow, hnc, hnil, hby, hn2, hgz⟩ := unhide HRS q h4
        have hc14 : wr.cell? ⟨g14, q, none⟩ = some (.slice ao n c) := cell_blk (((unhide HB).block _ (lt_of_block (unhide HBK))).trans (unhide HBK)) hARR
        have hroww : Row wr ao g zs := Row.below (unhide HB) hrow
        have HROWW := hide hroww
        have HZL := hide hzl
        have HBYZ := hide hby
        have HGZ : Hid (zs = [] ∨ g < wr.heap.size) := hgz.imp_right (fun h => Nat.lt_of_lt_of_le h (unhide HB).size)
        obtain ⟨CH, CE, F, hPR, hCE, hCO, hqH, hqE⟩ : ∃ (CH CE : Array Value) (F : Int), (∀ e, ParR e zs → e = .returned (.tuple #[.agg CH, .agg CE, .int .i64 F])) ∧ CE.size = 19 ∧ (CE.all (·.oneCell') = true ∧ CH.all (·.oneCell') = true ∧ CH.size = 4) ∧ (∀ W, (binOp .neq 29 (.agg CH) (.agg CH)).run Try.prog W = .ok (.bool false) W) ∧ (∀ W, (binOp .neq 24 (.agg CE) (.agg CE)).run Try.prog W = .ok (.bool false) W) :=
          ⟨_, _, _, fun e h => h, entA_size (parD_len _), ⟨entA_one _ _ _ _, one_head _ _ _ _, rfl⟩, fun W => neTH _ _ _ _ _ _ _ _ false (by simp) W, fun W => neTE _ _ _ _ _ _ _ _ (parD_len _) (parD_len _) false (by simp) W⟩
        have HPR := hide hPR
        have HCE := hide hCE
        have HCO := hide hCO
        have hFF : (F != F) = false := by simp
        obtain ⟨wa, hwa⟩ : ∃ W, wr.alloc (.cells #[] 5) = W := ⟨_, rfl⟩
        have hka : Below wr.heap.size wr wa := by rw [← hwa]; exact (Below.refl _ _).alloc (Nat.le_refl _) _
        have hon : wa.ownsRow wr.heap.size 5 1 (.slice (some ⟨wr.heap.size, 0, none⟩) 0 0) 0 [] := by rw [← hwa]; exact own_none wr 5
        have hc14a : wa.cell? ⟨g14, q, none⟩ = some (.slice ao n c) := (hka.cell (block_lt_of_cell hc14)).trans hc14
        obtain ⟨v7, wb, hrb, hob, hgb, -⟩ := run_append_row (P := Try.prog) wa wr.heap.size 30 30 5 i0 Try.underlying30 (unhide HI0) hz0 hzz1 hz2 _ 0 [] hon ao g n c zs hzl (Row.below hka hroww) hnil (by omega) hka.size
        rw [List.nil_append, Nat.zero_add] at hob
        obtain ⟨ao', g', c', rfl, hl', hr', hn', hz', hs'⟩ := own_sl hob
        have hkb : Below wr.heap.size wr wb := below_grown hka hgb hka.size (fun k hk => (hon.lt k hk).1)
        have HKB := hide hkb
        have HRBB := hide hrb
        have HR' := hide hr'
        have HC14 := hide hc14
        clear hob hgb hon hl' hn' hz' hs' hr' hrb hkb hARR hzl hrow hnil hby hgz hroww hPR hCE hCO hc14
        go_wp2_with (at_builtin; refine wpList_append_run rfl _ _ _ _ _ rfl _ _ rfl rfl (unhide HRBB) ?_)
        clear hwa hka hc14a HRBB
        refine (parse_any ao' g' n c' zs wb (by omega) (unhide HZL) (unhide HBYZ) (unhide HR')).mono ?_
        rintro e wc2 ⟨hp, hk⟩
        obtain rfl := unhide HPR _ hp
        have HKC := hide ((unhide HKB).trans (hk.mono (unhide HKB).size))
        clear hp hk
        obtain ⟨wd2, hWN1⟩ : ∃ W, ((((wc2.alloc (.cells #[.int .i64 0, .int .i64 0, .int .i64 0, .int .i64 0] 29)).alloc (.cells #[.int .i64 0, .int .i64 0, .int .i64 0, .int .u8 0, .int .u8 0, .int .u8 0, .int .u8 0, .int .u8 0, .int .u8 0, .int .u8 0, .int .u8 0, .int .u8 0, .int .u8 0, .int .u8 0, .int .u8 0, .int .u8 0, .int .u8 0, .int .u8 0, .int .u8 0] 24)).setRow wc2.heap.size CH).setRow (wc2.heap.size + 1) CE) = W := ⟨_, rfl⟩
        obtain ⟨n1, n2, n3, n4, n5⟩ := two_new10 wc2 #[.int .i64 0, .int .i64 0, .int .i64 0, .int .i64 0] #[.int .i64 0, .int .i64 0, .int .i64 0, .int .u8 0, .int .u8 0, .int .u8 0, .int .u8 0, .int .u8 0, .int .u8 0, .int .u8 0, .int .u8 0, .int .u8 0, .int .u8 0, .int .u8 0, .int .u8 0, .int .u8 0, .int .u8 0, .int .u8 0, .int .u8 0] CH CE 29 24 wd2 hWN1
        have HXa1 := hide n1
        have HXb1 := hide n2
        have HXc1 := hide n3
        have HXd1 := hide n4
        have HWN1 := hide hWN1
        have hkn : Below wr.heap.size wr wd2 := (unhide HKC).trans (n5.mono (unhide HKC).size)
        have hsn : wc2.heap.size + 2 ≤ wd2.heap.size := by have := n3.lt; have := n4.lt; omega
        have hcd : wd2.cell? ⟨g14, q, none⟩ = some (.slice ao n c) := (hkn.cell (block_lt_of_cell (unhide HC14))).trans (unhide HC14)
        replace HKC := hide hkn
        clear n1 n2 n3 n4 n5 hWN1 hkn hsn
        go_wp2_with (first | (refine wpList_store_row rfl 29 _ _ rfl wc2.heap.size CH rfl rfl 29 #[.int .i64 0, .int .i64 0, .int .i64 0, .int .i64 0] (unhide HXa1).blk (by rw [sizeTH, (unhide HCO).2.2]) (by rw [(unhide HCO).2.2]; rfl) (unhide HCO).2.1 ?_) | (refine wpList_store_row rfl 24 _ _ rfl (wc2.heap.size + 1) CE rfl rfl 24 #[.int .i64 0, .int .i64 0, .int .i64 0, .int .u8 0, .int .u8 0, .int .u8 0, .int .u8 0, .int .u8 0, .int .u8 0, .int .u8 0, .int .u8 0, .int .u8 0, .int .u8 0, .int .u8 0, .int .u8 0, .int .u8 0, .int .u8 0, .int .u8 0, .int .u8 0] (unhide HXb1).blk (by rw [sizeTE, unhide HCE]) (by rw [unhide HCE]; rfl) (unhide HCO).1 ?_; rw [unhide HWN1]))
        clear hcd HXa1 HXb1 HWN1
        refine (rparse_any ao g n c zs wd2 (by omega) (unhide HZL) hnc ((unhide HGZ).imp_right (fun h => Nat.lt_of_lt_of_le h (unhide HKC).size)) (unhide HBYZ) (Row.below (unhide HKC) (unhide HROWW))).mono ?_
        rintro e we2 ⟨hp, hk⟩
        obtain rfl := unhide HPR _ hp
        replace HKC := hide ((unhide HKC).trans (hk.mono (unhide HKC).size))
        have HXc := hide ((unhide HXc1).below hk)
        have HXd := hide ((unhide HXd1).below hk)
        clear hp hk HXc1 HXd1
        obtain ⟨wf2, hWN2⟩ : ∃ W, ((((we2.alloc (.cells #[.int .i64 0, .int .i64 0, .int .i64 0, .int .i64 0] 29)).alloc (.cells #[.int .i64 0, .int .i64 0, .int .i64 0, .int .u8 0, .int .u8 0, .int .u8 0, .int .u8 0, .int .u8 0, .int .u8 0, .int .u8 0, .int .u8 0, .int .u8 0, .int .u8 0, .int .u8 0, .int .u8 0, .int .u8 0, .int .u8 0, .int .u8 0, .int .u8 0] 24)).setRow we2.heap.size CH).setRow (we2.heap.size + 1) CE) = W := ⟨_, rfl⟩
        obtain ⟨n1, n2, n3, n4, n5⟩ := two_new10 we2 #[.int .i64 0, .int .i64 0, .int .i64 0, .int .i64 0] #[.int .i64 0, .int .i64 0, .int .i64 0, .int .u8 0, .int .u8 0, .int .u8 0, .int .u8 0, .int .u8 0, .int .u8 0, .int .u8 0, .int .u8 0, .int .u8 0, .int .u8 0, .int .u8 0, .int .u8 0, .int .u8 0, .int .u8 0, .int .u8 0, .int .u8 0] CH CE 29 24 wf2 hWN2
        have HXa2 := hide n1
        have HXb2 := hide n2
        have HXc2 := hide n3
        have HXd2 := hide n4
        have HWN2 := hide hWN2
        have hkn : Below wr.heap.size wr wf2 := (unhide HKC).trans (n5.mono (unhide HKC).size)
        have hsn : we2.heap.size + 2 ≤ wf2.heap.size := by have := n3.lt; have := n4.lt; omega
        replace HXc := hide ((unhide HXc).below n5)
        replace HXd := hide ((unhide HXd).below n5)
        replace HKC := hide hkn
        clear n1 n2 n3 n4 n5 hWN2 hkn hsn
        go_wp2_with (first | (refine wpList_store_row rfl 29 _ _ rfl we2.heap.size CH rfl rfl 29 #[.int .i64 0, .int .i64 0, .int .i64 0, .int .i64 0] (unhide HXa2).blk (by rw [sizeTH, (unhide HCO).2.2]) (by rw [(unhide HCO).2.2]; rfl) (unhide HCO).2.1 ?_) | (refine wpList_store_row rfl 24 _ _ rfl (we2.heap.size + 1) CE rfl rfl 24 #[.int .i64 0, .int .i64 0, .int .i64 0, .int .u8 0, .int .u8 0, .int .u8 0, .int .u8 0, .int .u8 0, .int .u8 0, .int .u8 0, .int .u8 0, .int .u8 0, .int .u8 0, .int .u8 0, .int .u8 0, .int .u8 0, .int .u8 0, .int .u8 0, .int .u8 0] (unhide HXb2).blk (by rw [sizeTE, unhide HCE]) (by rw [unhide HCE]; rfl) (unhide HCO).1 ?_; rw [unhide HWN2]) | (refine wpList_load_want10 rfl 29 _ rfl wc2.heap.size rfl 29 CH _ _ (unhide HXc).blk Try.underlying29 rfl (by rw [sizeTH, (unhide HCO).2.2]) ?_) | (refine wpList_load_want10 rfl 29 _ rfl we2.heap.size rfl 29 CH _ _ (unhide HXc2).blk Try.underlying29 rfl (by rw [sizeTH, (unhide HCO).2.2]) ?_) | (refine wpList_load_want10 rfl 24 _ rfl (wc2.heap.size + 1) rfl 24 CE _ _ (unhide HXd).blk Try.underlying24 rfl (by rw [sizeTE, unhide HCE]) ?_) | (refine wpList_load_want10 rfl 24 _ rfl (we2.heap.size + 1) rfl 24 CE _ _ (unhide HXd2).blk Try.underlying24 rfl (by rw [sizeTE, unhide HCE]) ?_))
        go_roundw
        case rel => exact ⟨q + 1, by omega, by go_num, (unhide HB).trans ((unhide HKC).mono (unhide HB).size)⟩
        case measure => simp [intOf] <;> omega
      · have h44 : q = 4 := by omega
        subst h44
        go_wp2
        go_ret
        exact ⟨rfl, (unhide HT).trans ((unhide HB).mono (unhide HT).size)⟩
end Go.Proofs.Ytabfaehpopeckaa
