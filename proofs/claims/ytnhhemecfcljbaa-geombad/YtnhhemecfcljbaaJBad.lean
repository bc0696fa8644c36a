/-
  The walk of GeomBad.
-/
import Derived.Test.YtnhhemecfcljbaaK9n
import Derived.Test.YtnhhemecfcljbaaK9k
namespace Go.Proofs.Ytnhhemecfcljbaa
open Go.RowKit Go.Shelf

set_option maxRecDepth 100000 in
set_option maxHeartbeats 32000000 in
theorem gbad_walk (a : Int) (lo : Option Addr) (n cz gz : Nat) (zs : List Int) (po : Option Addr) (nb cb gb : Nat) (no : List (Int × Int)) (w : World) (hZ : ZArg w (.slice lo n cz) gz zs) (hP : PArg w (.slice po nb cb) gb no) :
    Calls Try.prog 7 #[.int .i64 a, .slice lo n cz, .slice po nb cb] w fun x w' => x = .returned (.bool true) ∧ Below w.heap.size w w' := by
  obtain ⟨A, hA, a1, a2⟩ := mod9 a 6 (by omega)
  obtain ⟨d, hd⟩ := Int.eq_ofNat_of_zero_le a1
  subst hd
  have HA := hide hA
  have hd6 : d < 6 := by omega
  have HZ := hide hZ
  have HP := hide hP
  have hnm := (parg_len hP).2
  have HNB := hide (parg_len hP).1
  have HZL := hide hZ.nil_imp.1
  have hn1 : (n : Int) ≤ 9223372036854775807 := by
    obtain ⟨⟨ao', c', h1, h2, h3, _⟩, _⟩ := hZ
    cases h1
    unfold maxLen at h3
    omega
  clear hA hZ hP
  go_enter Try.func7, Try.ntmps7
  go_wp2_with fail
  refine (known9_any _).mono ?_
  rintro e w1 ⟨rfl, hk⟩
  have HT := hide hk
  clear hk
  by_cases h20 : 20 < nb
  · have h20' : (20 : Int) < (nb : Int) := by omega
    go_wp2_with fail
    go_ret
    exact ⟨rfl, unhide HT⟩
  · have h20' : (nb : Int) ≤ 20 := by omega
    clear h20
    obtain ⟨W, hW, hG, hb⟩ := GeoAt.new w1 6 12 4
    have HG := hide hG
    have hsz1 := (unhide HT).size
    replace HT := hide ((unhide HT).trans (hb.mono (unhide HT).size))
    have hzTB := fun w : World => zeroTB w
    clear hG hb
    go_wp2_with fail
    refine (within9_any a 6 _ (by omega) (by omega)).mono ?_
    rintro e w3 ⟨rfl, hw3⟩
    rw [unhide HA]
    clear hW HA
    subst hw3
    go_wp2_with fail
    have hal : Below w3.heap.size w3 (w3.alloc (.cells (Array.replicate 12 (Value.bool false)) 43)) := (Below.refl _ _).alloc (Nat.le_refl _) _
    have hbs := World.alloc_heap_new w3 (.cells (Array.replicate 12 (Value.bool false)) 43)
    have hz4 : (w3.alloc (.cells (Array.replicate 12 (Value.bool false)) 43)).heap.size = w3.heap.size + 1 := World.size_alloc _ _
    generalize w3.alloc (.cells (Array.replicate 12 (Value.bool false)) 43) = w4 at hal hbs hz4 ⊢
    have HS : Hid (RowC w4 w3.heap.size 43 12 (fun k => .bool (decide (((d : Int), (k : Int)) ∈ ([] : List (Int × Int)))))) := ⟨_, hbs, fun i hi => by simp [hi]⟩
    have hz4a := Nat.le_of_eq hz4
    have hz4b := Nat.le_of_eq hz4.symm
    have hgl := (unhide HG).lt
    replace HG := hide ((unhide HG).below hal)
    replace HT := hide ((unhide HT).trans (hal.mono (unhide HT).size))
    have hws4 := (unhide HT).size
    have HN0 : Hid (0 + (gdL (d : Int) 12 []).length = 12) := by show _ = _; rw [gdL_none9]
    clear hal hbs hz4 hzTB
    go_loopw [9, 11, 12] (fun q9 q11 q12 wr => ∃ (i nn : Nat) (bl : List (Int × Int)), q12 = .int .i64 i ∧ q11 = .int .i64 nn ∧ i ≤ n ∧ i ≤ 20 ∧ w4.heap.size ≤ wr.heap.size ∧ Hid (OwnP w4.heap.size wr q9 bl) ∧ Hid (bl.length = i) ∧ Hid (RowC wr w3.heap.size 43 12 (fun k => .bool (decide (((d : Int), (k : Int)) ∈ bl)))) ∧ Hid (nn + (gdL (d : Int) 12 bl).length = 12) ∧ Hid (∀ p ∈ bl, p.1 = (d : Int) ∧ 0 ≤ p.2 ∧ p.2 < 12) ∧ Hid (GeoAt wr w1.heap.size 6 12 4) ∧ Hid (Below w.heap.size w wr)) (fun _ _ q _ => n - (intOf q).toNat)
    case atStart => exact ⟨0, 0, [], rfl, rfl, by omega, by omega, Nat.le_refl _, OwnP.nil _ _, rfl, HS, HN0, (fun p h => by cases h), HG, HT⟩
    case round =>
      clear HS HN0 HG HT
      obtain ⟨i, nn, bl, rfl, rfl, hin, hi20, hzr, HO, HBL, HS, HNN, HOWN, HG, HT⟩ := hrel
      obtain ⟨wa, rfl⟩ : ∃ wa, wa = wr := ⟨_, rfl⟩
      have hnn : nn ≤ 12 := by have := unhide HNN; omega
      by_cases hlt : i < n
      · have hi1 : (i : Int) < (n : Int) := by omega
        by_cases hl20 : i < 20
        · have hi2 : (i : Int) < 20 := by omega
          obtain ⟨oz, hoz, hcz⟩ := irow_some' (unhide HZ).nil_imp.2.2 (by rw [unhide HZL]; omega)
          subst hoz
          have hz := ((unhide HT).cell (block_lt_of_cell (hcz i (by rw [unhide HZL]; exact hlt)))).trans (hcz i (by rw [unhide HZL]; exact hlt))
          obtain ⟨K, hK, k1, k2⟩ := mod9 (zs.getD i 0) 12 (by omega)
          obtain ⟨k, hkk⟩ := Int.eq_ofNat_of_zero_le k1
          subst hkk
          have HKQ := hide hK
          obtain ⟨z, hzz⟩ : ∃ z, zs.getD i 0 = z := ⟨_, rfl⟩
          rw [hzz] at hz HKQ
          clear hcz hK hzz
          go_wp2_with fail
          refine (within9_any z 12 _ (by omega) (by omega)).mono ?_
          rintro e w5 ⟨rfl, hw5⟩
          rw [unhide HKQ]
          clear hz HKQ
          subst hw5
          obtain ⟨vo, vc, hvo⟩ := (unhide HO).shape
          subst hvo
          have hbl := unhide HBL
          have hal : Below w5.heap.size w5 (w5.alloc (.cells #[.int .i64 (d : Int), .int .i64 (k : Int)] 39)) := (Below.refl _ _).alloc (Nat.le_refl _) _
          have hnw := World.alloc_heap_new w5 (.cells #[.int .i64 (d : Int), .int .i64 (k : Int)] 39)
          obtain ⟨v6, w6, hr6, hO6, hg6⟩ := run_append_two _ w4.heap.size 24 (.slice vo bl.length vc) bl ((unhide HO).below hal) w5.heap.size ((d : Int), (k : Int)) (cell_blk hnw rfl) (cell_blk hnw rfl) (by omega) (by have := hal.size; omega)
          have hk6 : Below w4.heap.size w5 w6 := below_grown (hal.mono hzr) hg6 (by have := hal.size; omega) (fun k hk => (unhide HO).row k hk)
          have HS6 := hide ((unhide HS).below hk6 (by omega))
          have HG6 : Hid (GeoAt w6 w1.heap.size 6 12 4) := ⟨(hk6.block _ (by omega)).trans (unhide HG).blk⟩
          have HT6 := hide ((unhide HT).trans (hk6.mono (by omega)))
          have HO6 := hide hO6
          have HR6 := hide hr6
          have hzr6 : w4.heap.size ≤ w6.heap.size := by have := hk6.size; omega
          have hadd := gdL_add (d : Int) k bl 12
          have HOWN6 : Hid (∀ p ∈ bl ++ [((d : Int), (k : Int))], p.1 = (d : Int) ∧ 0 ≤ p.2 ∧ p.2 < 12) := by
            intro p hp
            rcases List.mem_append.1 hp with h | h
            · exact unhide HOWN p h
            · rw [List.mem_singleton.1 h]; exact ⟨rfl, k1, k2⟩
          have HBL6 : Hid ((bl ++ [((d : Int), (k : Int))]).length = i + 1) := by show _ = _; rw [List.length_append, hbl]; rfl
          have hc6 := (unhide HS6).cell (i := k) (by omega)
          obtain ⟨o6, c6, hv6⟩ := hO6.shape
          subst hv6
          rw [unhide HBL6] at HR6 HO6
          rw [hbl] at HR6 ⊢
          clear hal hnw hr6 hO6 hg6 hk6 hbl
          by_cases hmem : ((d : Int), (k : Int)) ∈ bl
          · rw [decide_eq_true hmem] at hc6
            rw [if_neg (fun h => h.2 hmem)] at hadd
            have HNN6 : Hid (nn + (gdL (d : Int) 12 (bl ++ [((d : Int), (k : Int))])).length = 12) := by show _ = _; have := unhide HNN; omega
            have HS7 : Hid (RowC w6 w3.heap.size 43 12 (fun j => .bool (decide (((d : Int), (j : Int)) ∈ bl ++ [((d : Int), (k : Int))])))) := (unhide HS6).congr9 (fun j hj => by
              congr 1
              refine decide_eq_decide.2 ⟨fun h => List.mem_append_left _ h, fun h => ?_⟩
              rcases List.mem_append.1 h with h | h
              · exact h
              · rw [List.mem_singleton.1 h]; exact hmem)
            clear hadd hmem
            go_wp2_with (at_builtin; refine wpList_append_run rfl _ _ _ _ _ rfl _ _ rfl rfl (unhide HR6) ?_)
            go_roundw
            case rel => exact ⟨i + 1, nn, bl ++ [((d : Int), (k : Int))], by go_num, rfl, by omega, by omega, hzr6, HO6, HBL6, HS7, HNN6, HOWN6, HG6, HT6⟩
            case measure => simp [intOf]; omega
          · rw [decide_eq_false hmem] at hc6
            rw [if_pos ⟨by omega, hmem⟩] at hadd
            have HNN6 : Hid (nn + 1 + (gdL (d : Int) 12 (bl ++ [((d : Int), (k : Int))])).length = 12) := by show _ = _; have := unhide HNN; omega
            have HS7 : Hid (RowC (w6.setCell ⟨w3.heap.size, k, none⟩ (.bool true)) w3.heap.size 43 12 (fun j => .bool (decide (((d : Int), (j : Int)) ∈ bl ++ [((d : Int), (k : Int))])))) := ((unhide HS6).set (i := k) (by omega) (.bool true)).congr9 (fun j hj => by
              by_cases e : j = k
              · rw [if_pos e, e, decide_eq_true (List.mem_append_right _ (List.mem_singleton.2 rfl))]
              · rw [if_neg e]
                congr 1
                refine decide_eq_decide.2 ⟨fun h => List.mem_append_left _ h, fun h => ?_⟩
                rcases List.mem_append.1 h with h | h
                · exact h
                · have h2 := List.mem_singleton.1 h
                  rw [Prod.mk.injEq] at h2
                  omega)
            have hfz := (unhide HS6).free k
            clear hadd hmem
            go_wp2_with (at_builtin; refine wpList_append_run rfl _ _ _ _ _ rfl _ _ rfl rfl (unhide HR6) ?_)
            go_roundw
            case rel => exact ⟨i + 1, nn + 1, bl ++ [((d : Int), (k : Int))], by go_num, by go_num, by omega, by omega, by simp [World.setCell]; omega, hide ((unhide HO6).keepB (w' := w6.setCell ⟨w3.heap.size, k, none⟩ (.bool true)) (fun b h1 _ => Below.heap_setCell _ _ _ _ (by dsimp only; omega))), HBL6, HS7, HNN6, HOWN6, hide ⟨(Below.heap_setCell _ _ _ _ (by dsimp only; omega)).trans (unhide HG6).blk⟩, hide ((unhide HT6).setCell (p := ⟨w3.heap.size, k, none⟩) (by dsimp only; omega) _)⟩
            case measure => simp [intOf]; omega
        · have hi2 : (20 : Int) ≤ (i : Int) := by omega
          obtain ⟨vo, vc, hvo⟩ := (unhide HO).shape
          subst hvo
          have hbl := unhide HBL
          have hbl20 : bl.length ≤ 20 := by omega
          clear hbl
          go_wp2_with fail
          have hz4w := hws4
          go_loopw [9, 14] (fun q9 q14 wr => ∃ (j : Nat) (bad : List (Int × Int)), q14 = .int .i64 j ∧ j ≤ nb ∧ bad.length ≤ 20 + 3 * j ∧ Hid (OwnP w4.heap.size wr q9 bad) ∧ Hid (Bad9 d bl bad) ∧ Hid (Below w4.heap.size wa wr)) (fun _ q _ => nb - (intOf q).toNat)
          case atStart => exact ⟨0, bl, rfl, by omega, by omega, HO, ⟨fun p h => h, unhide HOWN, fun p h => .inl h⟩, Below.refl _ _⟩
          case round =>
            clear HO
            obtain ⟨j, bad, rfl, hj, hbl60, HOB, HB9, HKB⟩ := hrel
            obtain ⟨wb, rfl⟩ : ∃ wb, wb = wr := ⟨_, rfl⟩
            have HTB := hide ((unhide HT).trans ((unhide HKB).mono hws4))
            have hzb : w4.heap.size ≤ wb.heap.size := by have := (unhide HKB).size; omega
            by_cases hlj : j < nb
            · have hj1 : (j : Int) < (nb : Int) := by omega
              obtain ⟨hln, o, hpo, k0, k1⟩ := two_at ((unhide HP).below' (unhide HTB)) hlj
              have hgb4 : gb < w4.heap.size := by have := (unhide HP).lt (fun e => by have := unhide HNB; rw [e] at this; simp at this; omega); omega
              subst hpo
              obtain ⟨⟨y0, y1⟩, hy⟩ : ∃ y, no.getD j (0, 0) = y := ⟨_, rfl⟩
              rw [hy] at k0 k1
              dsimp only at k0 k1
              obtain ⟨p0, hp0, q00, q01⟩ := mod9 y0 9 (by omega)
              obtain ⟨p1, hp1, q10, q11⟩ := mod9 y1 9 (by omega)
              have HQ0 := hide hp0
              have HQ1 := hide hp1
              have HCE0' := hide k0
              have HCE1' := hide k1
              obtain ⟨vo, vc, hvo⟩ := (unhide HOB).shape
              subst hvo
              obtain ⟨bn, hbn⟩ : ∃ bn, bad.length = bn := ⟨_, rfl⟩
              rw [hbn] at HOB hbl60 ⊢
              have HBN := hide hbn
              clear hp0 hp1 k0 k1 hy hbn hln
              go_wp2_with fail
              have HCE0 : Hid (wb.drew.cell? ⟨gb, o + j * 2, none⟩ = some (.int .i64 y0)) := unhide HCE0'
              have HCE1 : Hid (wb.drew.cell? ⟨gb, o + j * 2 + 1, none⟩ = some (.int .i64 y1)) := unhide HCE1'
              have HOC := hide ((unhide HOB).below (Below.refl _ _).drew)
              replace HKB : Hid (Below w4.heap.size wa wb.drew) := hide ((unhide HKB).drew)
              have hzc : w4.heap.size ≤ wb.drew.heap.size := hzb
              refine wp_region_noPanic ?_
              refine wp_region_held_drew (S := fun W => Below w4.heap.size wb.drew W) (by kernel_rfl) (Below.refl _ _) (fun hHeld => ?_)
              have HH := hide hHeld
              clear hHeld HCE0' HCE1' HOB hzb
              generalize wb.drew = wc at HCE0 HCE1 HOC HKB hzc HH ⊢
              refine takeL (i := 0) (v := ?_) rfl (by kernel_rfl) (by kernel_rfl) (by kernel_rfl) (fun _ _ _ h => h) (Or.inl ⟨by rfl, ?_⟩) (unhide HH) ?_
              rotate_left 1
              · intro W hSW; go_simp; all_goals (with_reducible rfl)
              (try simp only [Act.put, List.setIfInBounds_toArray, List.set_cons_zero, List.set_cons_succ])
              refine takeL (i := 1) (v := ?_) rfl (by kernel_rfl) (by kernel_rfl) (by kernel_rfl) (fun _ _ _ h => h) (Or.inl ⟨by rfl, ?_⟩) (unhide HH) ?_
              rotate_left 1
              · intro W hSW; go_simp; all_goals (with_reducible rfl)
              (try simp only [Act.put, List.setIfInBounds_toArray, List.set_cons_zero, List.set_cons_succ])
              refine takeL (i := 2) (v := ?_) rfl (by kernel_rfl) (by kernel_rfl) (by kernel_rfl) (fun _ _ _ h => h) (Or.inl ⟨by rfl, ?_⟩) (unhide HH) ?_
              rotate_left 1
              · intro W hSW; go_simp; all_goals (with_reducible rfl)
              (try simp only [Act.put, List.setIfInBounds_toArray, List.set_cons_zero, List.set_cons_succ])
              refine takeL (i := 3) (v := ?_) rfl (by kernel_rfl) (by kernel_rfl) (by kernel_rfl) (fun _ _ _ h => h) (Or.inl ⟨by rfl, ?_⟩) (unhide HH) ?_
              rotate_left 1
              · intro W hSW; go_simp; all_goals (with_reducible rfl)
              (try simp only [Act.put, List.setIfInBounds_toArray, List.set_cons_zero, List.set_cons_succ])
              refine takeL (i := 4) (v := ?_) rfl (by kernel_rfl) (by kernel_rfl) (by kernel_rfl) (fun _ _ _ h => h) (Or.inl ⟨by rfl, ?_⟩) (unhide HH) ?_
              rotate_left 1
              · intro W hSW; go_simp; all_goals (with_reducible rfl)
              (try simp only [Act.put, List.setIfInBounds_toArray, List.set_cons_zero, List.set_cons_succ])
              refine takeL (i := 5) (v := ?_) rfl (by kernel_rfl) (by kernel_rfl) (by kernel_rfl) (fun _ _ _ h => h) (Or.inl ⟨by rfl, ?_⟩) (unhide HH) ?_
              rotate_left 1
              · intro W1 hSW; have hcl := (hSW.cell (p := ⟨gb, _, none⟩) hgb4).trans (unhide HCE0); clear hSW; go_simp; all_goals (with_reducible rfl)
              (try simp only [Act.put, List.setIfInBounds_toArray, List.set_cons_zero, List.set_cons_succ])
              refine takeL (i := 8) (v := ?_) rfl (by kernel_rfl) (by kernel_rfl) (by kernel_rfl) (fun _ _ _ h => h) (Or.inl ⟨by rfl, ?_⟩) (unhide HH) ?_
              rotate_left 1
              · intro W hSW; go_simp; all_goals (with_reducible rfl)
              (try simp only [Act.put, List.setIfInBounds_toArray, List.set_cons_zero, List.set_cons_succ])
              refine takeL (i := 9) (v := ?_) rfl (by kernel_rfl) (by kernel_rfl) (by kernel_rfl) (fun _ _ _ h => h) (Or.inl ⟨by rfl, ?_⟩) (unhide HH) ?_
              rotate_left 1
              · intro W hSW; go_simp; all_goals (with_reducible rfl)
              (try simp only [Act.put, List.setIfInBounds_toArray, List.set_cons_zero, List.set_cons_succ])
              refine takeL (i := 10) (v := ?_) rfl (by kernel_rfl) (by kernel_rfl) (by kernel_rfl) (fun _ _ _ h => h) (Or.inl ⟨by rfl, ?_⟩) (unhide HH) ?_
              rotate_left 1
              · intro W hSW; go_simp; all_goals (with_reducible rfl)
              (try simp only [Act.put, List.setIfInBounds_toArray, List.set_cons_zero, List.set_cons_succ])
              refine takeL (i := 11) (v := ?_) rfl (by kernel_rfl) (by kernel_rfl) (by kernel_rfl) (fun _ _ _ h => h) (Or.inl ⟨by rfl, ?_⟩) (unhide HH) ?_
              rotate_left 1
              · intro W hSW; go_simp; all_goals (with_reducible rfl)
              (try simp only [Act.put, List.setIfInBounds_toArray, List.set_cons_zero, List.set_cons_succ])
              refine takeL (i := 12) (v := ?_) rfl (by kernel_rfl) (by kernel_rfl) (by kernel_rfl) (fun _ _ _ h => h) (Or.inl ⟨by rfl, ?_⟩) (unhide HH) ?_
              rotate_left 1
              · intro W1 hSW; have hcl := (hSW.cell (p := ⟨gb, _, none⟩) hgb4).trans (unhide HCE1); clear hSW; go_simp; all_goals (with_reducible rfl)
              (try simp only [Act.put, List.setIfInBounds_toArray, List.set_cons_zero, List.set_cons_succ])
              refine takeL (i := 14) (v := ?_) rfl (by kernel_rfl) (by kernel_rfl) (by kernel_rfl) (fun _ _ _ h => h) (Or.inl ⟨by rfl, ?_⟩) (unhide HH) ?_
              rotate_left 1
              · intro W hSW; go_simp; all_goals (with_reducible rfl)
              (try simp only [Act.put, List.setIfInBounds_toArray, List.set_cons_zero, List.set_cons_succ])
              refine takeL (i := 15) (v := ?_) rfl (by kernel_rfl) (by kernel_rfl) (by kernel_rfl) (fun _ _ _ h => h) (Or.inl ⟨by rfl, ?_⟩) (unhide HH) ?_
              rotate_left 1
              · intro W hSW; go_simp; all_goals (with_reducible rfl)
              (try simp only [Act.put, List.setIfInBounds_toArray, List.set_cons_zero, List.set_cons_succ])
              refine takeL (i := 16) (v := ?_) rfl (by kernel_rfl) (by kernel_rfl) (by kernel_rfl) (fun _ _ _ h => h) (Or.inl ⟨by rfl, ?_⟩) (unhide HH) ?_
              rotate_left 1
              · intro W hSW; go_simp; all_goals (with_reducible rfl)
              (try simp only [Act.put, List.setIfInBounds_toArray, List.set_cons_zero, List.set_cons_succ])
              refine takeL (i := 17) (v := ?_) rfl (by kernel_rfl) (by kernel_rfl) (by kernel_rfl) (fun _ _ _ h => h) (Or.inl ⟨by rfl, ?_⟩) (unhide HH) ?_
              rotate_left 1
              · intro W hSW; go_simp; all_goals (with_reducible rfl)
              (try simp only [Act.put, List.setIfInBounds_toArray, List.set_cons_zero, List.set_cons_succ])
              refine takeL (i := 18) (v := ?_) rfl (by kernel_rfl) (by kernel_rfl) (by kernel_rfl) (fun _ _ _ h => h) (Or.inl ⟨by rfl, ?_⟩) (unhide HH) ?_
              rotate_left 1
              · intro W hSW; go_simp; all_goals (with_reducible rfl)
              (try simp only [Act.put, List.setIfInBounds_toArray, List.set_cons_zero, List.set_cons_succ])
              refine takeL (i := 19) (v := ?_) rfl (by kernel_rfl) (by kernel_rfl) (by kernel_rfl) (fun _ _ _ h => h) (Or.inl ⟨by rfl, ?_⟩) (unhide HH) ?_
              rotate_left 1
              · intro W1 hSW; have hcl := (hSW.cell (p := ⟨gb, _, none⟩) hgb4).trans (unhide HCE1); clear hSW; go_simp; all_goals (with_reducible rfl)
              (try simp only [Act.put, List.setIfInBounds_toArray, List.set_cons_zero, List.set_cons_succ])
              refine takeL (i := 23) (v := .agg #[.int .i64 (-1), .int .i64 0]) rfl (by kernel_rfl) (by kernel_rfl) (by kernel_rfl) (fun _ _ _ h => h) (Or.inl ⟨by rfl, ?_⟩) (unhide HH) ?_
              · intro W hSW; go_simp
              (try simp only [Act.put, List.setIfInBounds_toArray, List.set_cons_zero, List.set_cons_succ])
              refine wpAnyH_ready (rs := [6]) (by kernel_rfl) (by simp) ?_
              refine consL rfl (fun K hK => ?_) AllReadyH.nil
              go_simp
              refine (within9_any y0 9 _ (by omega) (by omega)).mono ?_
              rintro e wq ⟨rfl, hwq⟩
              rw [unhide HQ0, hwq]
              clear hwq wq
              go_wp2_with fail
              refine hK.out _ _ (unhide HH) (fun hHeld => ?_)
              clear hK K HH
              have HH := hide hHeld
              clear hHeld
              (try simp only [Act.put, List.setIfInBounds_toArray, List.set_cons_zero, List.set_cons_succ])
              refine takeL (i := 7) (v := .int .i64 (6 + p0)) rfl (by kernel_rfl) (by kernel_rfl) (by kernel_rfl) (fun _ _ _ h => h) (Or.inl ⟨by rfl, ?_⟩) (unhide HH) ?_
              · intro W hSW; go_simp; rw [IntWalk.i64_in _ ⟨by omega, by omega⟩]
              (try simp only [Act.put, List.setIfInBounds_toArray, List.set_cons_zero, List.set_cons_succ])
              refine takeL (i := 13) (v := .agg #[.int .i64 (6 + p0), .int .i64 y1]) rfl (by kernel_rfl) (by kernel_rfl) (by kernel_rfl) (fun _ _ _ h => h) (Or.inl ⟨by rfl, ?_⟩) (unhide HH) ?_
              · intro W hSW; go_simp
              (try simp only [Act.put, List.setIfInBounds_toArray, List.set_cons_zero, List.set_cons_succ])
              refine wpAnyH_ready (rs := [20]) (by kernel_rfl) (by simp) ?_
              refine consL rfl (fun K hK => ?_) AllReadyH.nil
              go_simp
              refine (within9_any y1 9 _ (by omega) (by omega)).mono ?_
              rintro e wq ⟨rfl, hwq⟩
              rw [unhide HQ1, hwq]
              clear hwq wq
              go_wp2_with fail
              refine hK.out _ _ (unhide HH) (fun hHeld => ?_)
              clear hK K HH
              have HH := hide hHeld
              clear hHeld
              (try simp only [Act.put, List.setIfInBounds_toArray, List.set_cons_zero, List.set_cons_succ])
              refine takeL (i := 21) (v := .int .i64 (12 + p1)) rfl (by kernel_rfl) (by kernel_rfl) (by kernel_rfl) (fun _ _ _ h => h) (Or.inl ⟨by rfl, ?_⟩) (unhide HH) ?_
              · intro W hSW; go_simp; rw [IntWalk.i64_in _ ⟨by omega, by omega⟩]
              (try simp only [Act.put, List.setIfInBounds_toArray, List.set_cons_zero, List.set_cons_succ])
              refine takeL (i := 22) (v := .agg #[.int .i64 (d : Int), .int .i64 (12 + p1)]) rfl (by kernel_rfl) (by kernel_rfl) (by kernel_rfl) (fun _ _ _ h => h) (Or.inl ⟨by rfl, ?_⟩) (unhide HH) ?_
              · intro W hSW; go_simp
              (try simp only [Act.put, List.setIfInBounds_toArray, List.set_cons_zero, List.set_cons_succ])
              refine wpAnyH_ready (rs := [24]) (by kernel_rfl) (by simp) ?_
              refine consL rfl (fun K hK => ?_) AllReadyH.nil
              go_simp
              have hal : Below wc.heap.size wc (wc.alloc (.cells #[.int .i64 (6 + p0), .int .i64 y1, .int .i64 (d : Int), .int .i64 (12 + p1), .int .i64 (-1), .int .i64 0] 39)) := (Below.refl _ _).alloc (Nat.le_refl _) _
              have hb6 := World.alloc_heap_new wc (.cells #[.int .i64 (6 + p0), .int .i64 y1, .int .i64 (d : Int), .int .i64 (12 + p1), .int .i64 (-1), .int .i64 0] 39)
              have hO7 := (unhide HOC).below hal
              generalize wc.alloc (.cells #[.int .i64 (6 + p0), .int .i64 y1, .int .i64 (d : Int), .int .i64 (12 + p1), .int .i64 (-1), .int .i64 0] 39) = wd at hal hb6 hO7 ⊢
              refine hK.out _ _ (hal.mono hzc) (fun hHeld => ?_)
              have HAL := hide hal
              have HB6 := hide hb6
              have HO7 := hide hO7
              clear hal hb6 hO7
              clear hK K HH
              have HH := hide hHeld
              clear hHeld
              (try simp only [Act.put, List.setIfInBounds_toArray, List.set_cons_zero, List.set_cons_succ])
              refine wpAnyH_ready (rs := [25]) (by kernel_rfl) (by simp) ?_
              refine consL rfl (fun K hK => ?_) AllReadyH.nil
              rw [if_pos (by rfl)]
              obtain ⟨v7, w7, hr7, hO8, hg7⟩ := run_append_six wd w4.heap.size 24 (.slice vo bn vc) bad (unhide HO7) wc.heap.size (6 + p0, y1) ((d : Int), 12 + p1) (-1, 0) (unhide HB6) (by have := unhide HBN; omega) (by have := (unhide HAL).size; omega)
              have hk7 : Below w4.heap.size wc w7 := below_grown ((unhide HAL).mono hzc) hg7 (by have := (unhide HAL).size; omega) (fun k hk => (unhide HO7).row k hk)
              have hl8 : (bad ++ [(6 + p0, y1), ((d : Int), 12 + p1), (-1, 0)]).length = bn + 3 := by rw [List.length_append, unhide HBN]; rfl
              have HB8 := hide ((unhide HB9).more (p := (6 + p0, y1)) (q := ((d : Int), 12 + p1)) (r := (-1, 0)) (.inl (by intro h; dsimp only at h; omega)) (.inr ⟨rfl, by dsimp only; omega⟩) (.inl (by intro h; dsimp only at h; omega)))
              obtain ⟨o7, c7, hv7⟩ := hO8.shape
              rw [hl8] at hv7
              subst hv7
              obtain ⟨bad2, hbad2⟩ : ∃ bad2, bad ++ [(6 + p0, y1), ((d : Int), 12 + p1), (-1, 0)] = bad2 := ⟨_, rfl⟩
              rw [hbad2] at hO8 hl8 HB8
              have HO8 := hide hO8
              have HR7 := hide hr7
              have HL8 := hide hl8
              have HK7 := hide ((unhide HKB).trans hk7)
              clear hO8 hr7 hl8 hg7 hbad2
              refine wp_append_run _ (.tmp 61) (.tmp 85) 24 24 (by rfl) _ _ (by rfl) (by rfl) (unhide HR7) ?_
              refine hK.out _ _ hk7 (fun hHeld => ?_)
              clear hk7
              clear hK K HH
              have HH := hide hHeld
              clear hHeld
              (try simp only [Act.put, List.setIfInBounds_toArray, List.set_cons_zero, List.set_cons_succ])
              refine takeL (i := 26) (v := ?_) rfl (by kernel_rfl) (by kernel_rfl) (by kernel_rfl) (fun _ _ _ h => h) (Or.inl ⟨by rfl, ?_⟩) (unhide HH) ?_
              rotate_left 1
              · intro W hSW; go_simp; all_goals (with_reducible rfl)
              (try simp only [Act.put, List.setIfInBounds_toArray, List.set_cons_zero, List.set_cons_succ])
              refine wpAnyH_done (by kernel_rfl) ?_ _
              refine NoPanic.normal ?_
              go_wp2_with fail
              go_roundw
              case rel => exact ⟨j + 1, bad2, by go_num, by omega, by rw [unhide HL8]; omega, HO8, HB8, HK7⟩
              case measure => simp [intOf]; omega
            · obtain rfl : j = nb := by omega
              obtain ⟨vo, vc, hvo⟩ := (unhide HOB).shape
              subst hvo
              obtain ⟨gq, hPB⟩ := (unhide HOB).parg
              obtain ⟨bn, hbn⟩ : ∃ bn, bad.length = bn := ⟨_, rfl⟩
              rw [hbn] at hPB ⊢
              have HPB := hide hPB
              have HGB : Hid (GeoAt wb w1.heap.size 6 12 4) := ⟨((unhide HKB).block _ (by omega)).trans (unhide HG).blk⟩
              have HSB := hide ((unhide HS).below (unhide HKB) (by omega))
              have c0 := (unhide HGB).c0
              have c1 := (unhide HGB).c1
              have c2 := (unhide HGB).c2
              clear hPB hbn HOB
              go_wp2_with fail
              clear c0 c1 c2
              refine (gsupers_any 6 12 4 bad vo bn vc gq _ (unhide HPB)).mono ?_
              rintro e w8 ⟨v8, rfl, hO, hk⟩
              have e6 : supG 6 12 4 bad = sup9 6 12 bad := by rw [supG, if_pos (by decide)]; rfl
              have hsn := (unhide HB9).sn hd6 (unhide HNN)
              have hml := sup9_len 6 12 bad
              rw [e6] at hO
              obtain ⟨so, sc, hv8⟩ := hO.sl
              subst hv8
              obtain ⟨m, hm⟩ : ∃ m, sn9 6 12 bad = m := ⟨_, rfl⟩
              rw [hm] at hml hsn
              rw [hml] at hO ⊢
              have HX := hide hO
              have HM := hide hm
              have HML := hide hml
              have HE6 := hide e6
              replace HGB := hide ((unhide HGB).below hk)
              replace HPB := hide ((unhide HPB).below' hk)
              have HS8 := hide ((unhide HSB).below hk (unhide HSB).lt)
              have HT8 := hide ((unhide HTB).trans (hk.mono (unhide HTB).size))
              have hne : ((m : Int) != 12 - (nn : Int)) = false := by rw [bne_eq_false_iff_eq]; omega
              have hm12 : m ≤ 12 := by omega
              have HSM := hide hsn
              clear hO hm hml e6 hk HSB hsn
              go_wp2_with fail
              go_loopw [16, 17] (fun q16 q17 wr => ∃ b t : Nat, q17 = .int .i64 b ∧ q16 = .int .i64 t ∧ b ≤ 12 ∧ Hid (t = (gdL (d : Int) b bl).length) ∧ t ≤ 12 ∧ wr = w8) (fun _ q _ => 12 - (intOf q).toNat)
              case atStart => exact ⟨0, 0, rfl, rfl, by omega, rfl, by omega, rfl⟩
              case round =>
                clear hne
                obtain ⟨b, t, rfl, rfl, hb12, HTT, ht12, hwr⟩ := hrel
                replace hwr := hwr.symm
                subst hwr
                by_cases hlb : b < 12
                · have hb1 : (b : Int) < 12 := by omega
                  have hsb := (unhide HS8).cell (i := b) hlb
                  have HGS := hide (gdL_succ (d : Int) b bl)
                  by_cases hmem : ((d : Int), (b : Int)) ∈ bl
                  · rw [decide_eq_true hmem] at hsb
                    rw [if_pos hmem, List.append_nil] at HGS
                    clear hmem
                    go_wp2_with fail
                    go_roundw
                    case rel => exact ⟨b + 1, t, by go_num, rfl, by omega, by rw [unhide HGS]; exact HTT, ht12, trivial⟩
                    case measure => simp [intOf]; omega
                  · obtain ⟨i1, i2, i3⟩ := (unhide HB9).item hd6 (unhide HNN) hlb hmem
                    rw [decide_eq_false hmem] at hsb
                    rw [if_neg hmem] at HGS
                    rw [← unhide HTT] at i1 i2 i3
                    obtain ⟨G, hso⟩ := (unhide HX).top9 (by rw [unhide HML, ← unhide HM]; omega)
                    subst hso
                    have hrl := sup9_row_len (D := 6) (B := 12) (bad := bad) (i := t) i1
                    obtain ⟨ua, uc, hc, hu⟩ := (unhide HX).row9 (i := t) (by rw [unhide HML, ← unhide HM]; exact i1)
                    rw [hrl] at hc hu
                    obtain ⟨q, hq, hcd⟩ := hu.item9 (d := d) (by rw [hrl]; exact hd6)
                    subst hq
                    obtain ⟨rn, hrn⟩ : ∃ rn, (d + 1) % 6 = rn := ⟨_, rfl⟩
                    have hrn6 : rn < 6 := by rw [← hrn]; exact Nat.mod_lt _ (by omega)
                    rw [hrn] at i3
                    obtain ⟨q2, hq2, hce⟩ := hu.item9 (d := rn) (by rw [hrl]; exact hrn6)
                    cases hq2
                    rw [i2] at hcd
                    rw [i3] at hce
                    have htm : (t : Int) < (m : Int) := by rw [unhide HM] at i1; omega
                    have hrn1 : (rn : Int) < 6 := by omega
                    have hd61 : (d : Int) < 6 := by omega
                    have hqm : ((d : Int) + 1) % 6 = (rn : Int) := by omega
                    have hqt : ((d : Int) + 1).tmod 6 = (rn : Int) := by rw [Int.tmod_eq_emod_of_nonneg (by omega), hqm]
                    have HGL : Hid (t + 1 = (gdL (d : Int) (b + 1) bl).length) := by show _ = _; rw [unhide HGS, List.length_append, ← unhide HTT]; rfl
                    have ht13 : t + 1 ≤ 12 := by omega
                    clear i1 i2 i3 hu hrl hrn hmem
                    go_wp2_with fail
                    go_roundw
                    case rel => exact ⟨b + 1, t + 1, by go_num, by go_num, by omega, HGL, ht13, trivial⟩
                    case measure => simp [intOf]; omega
                · obtain rfl : b = 12 := by omega
                  have htm : (t : Int) = (m : Int) := by have h1 := unhide HTT; have h2 := unhide HNN; have h3 := unhide HSM; omega
                  have htm2 : t = m := by omega
                  subst htm2
                  have c0 := (unhide HGB).c0
                  have c1 := (unhide HGB).c1
                  have c2 := (unhide HGB).c2
                  clear htm
                  go_wp2_with fail
                  clear c0 c1 c2
                  refine (rsupers_any 6 12 4 bad vo bn vc gq _ (unhide HPB)).mono ?_
                  rintro e w9 ⟨v9, rfl, hO, hk⟩
                  rw [unhide HE6] at hO
                  obtain ⟨so9, sc9, hv9⟩ := hO.sl
                  subst hv9
                  rw [unhide HML]
                  replace HT8 := hide ((unhide HT8).trans (hk.mono (unhide HT8).size))
                  clear hO hk
                  go_wp2_with fail
                  go_ret
                  exact ⟨rfl, unhide HT8⟩
      · have hi1 : (n : Int) ≤ (i : Int) := by omega
        obtain ⟨vo, vc, hvo⟩ := (unhide HO).shape
        subst hvo
        have hbl := unhide HBL
        have hbl20 : bl.length ≤ 20 := by omega
        clear hbl
        go_wp2_with fail
        have hz4w := hws4
        go_loopw [9, 14] (fun q9 q14 wr => ∃ (j : Nat) (bad : List (Int × Int)), q14 = .int .i64 j ∧ j ≤ nb ∧ bad.length ≤ 20 + 3 * j ∧ Hid (OwnP w4.heap.size wr q9 bad) ∧ Hid (Bad9 d bl bad) ∧ Hid (Below w4.heap.size wa wr)) (fun _ q _ => nb - (intOf q).toNat)
        case atStart => exact ⟨0, bl, rfl, by omega, by omega, HO, ⟨fun p h => h, unhide HOWN, fun p h => .inl h⟩, Below.refl _ _⟩
        case round =>
          clear HO
          obtain ⟨j, bad, rfl, hj, hbl60, HOB, HB9, HKB⟩ := hrel
          obtain ⟨wb, rfl⟩ : ∃ wb, wb = wr := ⟨_, rfl⟩
          have HTB := hide ((unhide HT).trans ((unhide HKB).mono hws4))
          have hzb : w4.heap.size ≤ wb.heap.size := by have := (unhide HKB).size; omega
          by_cases hlj : j < nb
          · have hj1 : (j : Int) < (nb : Int) := by omega
            obtain ⟨hln, o, hpo, k0, k1⟩ := two_at ((unhide HP).below' (unhide HTB)) hlj
            have hgb4 : gb < w4.heap.size := by have := (unhide HP).lt (fun e => by have := unhide HNB; rw [e] at this; simp at this; omega); omega
            subst hpo
            obtain ⟨⟨y0, y1⟩, hy⟩ : ∃ y, no.getD j (0, 0) = y := ⟨_, rfl⟩
            rw [hy] at k0 k1
            dsimp only at k0 k1
            obtain ⟨p0, hp0, q00, q01⟩ := mod9 y0 9 (by omega)
            obtain ⟨p1, hp1, q10, q11⟩ := mod9 y1 9 (by omega)
            have HQ0 := hide hp0
            have HQ1 := hide hp1
            have HCE0' := hide k0
            have HCE1' := hide k1
            obtain ⟨vo, vc, hvo⟩ := (unhide HOB).shape
            subst hvo
            obtain ⟨bn, hbn⟩ : ∃ bn, bad.length = bn := ⟨_, rfl⟩
            rw [hbn] at HOB hbl60 ⊢
            have HBN := hide hbn
            clear hp0 hp1 k0 k1 hy hbn hln
            go_wp2_with fail
            have HCE0 : Hid (wb.drew.cell? ⟨gb, o + j * 2, none⟩ = some (.int .i64 y0)) := unhide HCE0'
            have HCE1 : Hid (wb.drew.cell? ⟨gb, o + j * 2 + 1, none⟩ = some (.int .i64 y1)) := unhide HCE1'
            have HOC := hide ((unhide HOB).below (Below.refl _ _).drew)
            replace HKB : Hid (Below w4.heap.size wa wb.drew) := hide ((unhide HKB).drew)
            have hzc : w4.heap.size ≤ wb.drew.heap.size := hzb
            refine wp_region_noPanic ?_
            refine wp_region_held_drew (S := fun W => Below w4.heap.size wb.drew W) (by kernel_rfl) (Below.refl _ _) (fun hHeld => ?_)
            have HH := hide hHeld
            clear hHeld HCE0' HCE1' HOB hzb
            generalize wb.drew = wc at HCE0 HCE1 HOC HKB hzc HH ⊢
            refine takeL (i := 0) (v := ?_) rfl (by kernel_rfl) (by kernel_rfl) (by kernel_rfl) (fun _ _ _ h => h) (Or.inl ⟨by rfl, ?_⟩) (unhide HH) ?_
            rotate_left 1
            · intro W hSW; go_simp; all_goals (with_reducible rfl)
            (try simp only [Act.put, List.setIfInBounds_toArray, List.set_cons_zero, List.set_cons_succ])
            refine takeL (i := 1) (v := ?_) rfl (by kernel_rfl) (by kernel_rfl) (by kernel_rfl) (fun _ _ _ h => h) (Or.inl ⟨by rfl, ?_⟩) (unhide HH) ?_
            rotate_left 1
            · intro W hSW; go_simp; all_goals (with_reducible rfl)
            (try simp only [Act.put, List.setIfInBounds_toArray, List.set_cons_zero, List.set_cons_succ])
            refine takeL (i := 2) (v := ?_) rfl (by kernel_rfl) (by kernel_rfl) (by kernel_rfl) (fun _ _ _ h => h) (Or.inl ⟨by rfl, ?_⟩) (unhide HH) ?_
            rotate_left 1
            · intro W hSW; go_simp; all_goals (with_reducible rfl)
            (try simp only [Act.put, List.setIfInBounds_toArray, List.set_cons_zero, List.set_cons_succ])
            refine takeL (i := 3) (v := ?_) rfl (by kernel_rfl) (by kernel_rfl) (by kernel_rfl) (fun _ _ _ h => h) (Or.inl ⟨by rfl, ?_⟩) (unhide HH) ?_
            rotate_left 1
            · intro W hSW; go_simp; all_goals (with_reducible rfl)
            (try simp only [Act.put, List.setIfInBounds_toArray, List.set_cons_zero, List.set_cons_succ])
            refine takeL (i := 4) (v := ?_) rfl (by kernel_rfl) (by kernel_rfl) (by kernel_rfl) (fun _ _ _ h => h) (Or.inl ⟨by rfl, ?_⟩) (unhide HH) ?_
            rotate_left 1
            · intro W hSW; go_simp; all_goals (with_reducible rfl)
            (try simp only [Act.put, List.setIfInBounds_toArray, List.set_cons_zero, List.set_cons_succ])
            refine takeL (i := 5) (v := ?_) rfl (by kernel_rfl) (by kernel_rfl) (by kernel_rfl) (fun _ _ _ h => h) (Or.inl ⟨by rfl, ?_⟩) (unhide HH) ?_
            rotate_left 1
            · intro W1 hSW; have hcl := (hSW.cell (p := ⟨gb, _, none⟩) hgb4).trans (unhide HCE0); clear hSW; go_simp; all_goals (with_reducible rfl)
            (try simp only [Act.put, List.setIfInBounds_toArray, List.set_cons_zero, List.set_cons_succ])
            refine takeL (i := 8) (v := ?_) rfl (by kernel_rfl) (by kernel_rfl) (by kernel_rfl) (fun _ _ _ h => h) (Or.inl ⟨by rfl, ?_⟩) (unhide HH) ?_
            rotate_left 1
            · intro W hSW; go_simp; all_goals (with_reducible rfl)
            (try simp only [Act.put, List.setIfInBounds_toArray, List.set_cons_zero, List.set_cons_succ])
            refine takeL (i := 9) (v := ?_) rfl (by kernel_rfl) (by kernel_rfl) (by kernel_rfl) (fun _ _ _ h => h) (Or.inl ⟨by rfl, ?_⟩) (unhide HH) ?_
            rotate_left 1
            · intro W hSW; go_simp; all_goals (with_reducible rfl)
            (try simp only [Act.put, List.setIfInBounds_toArray, List.set_cons_zero, List.set_cons_succ])
            refine takeL (i := 10) (v := ?_) rfl (by kernel_rfl) (by kernel_rfl) (by kernel_rfl) (fun _ _ _ h => h) (Or.inl ⟨by rfl, ?_⟩) (unhide HH) ?_
            rotate_left 1
            · intro W hSW; go_simp; all_goals (with_reducible rfl)
            (try simp only [Act.put, List.setIfInBounds_toArray, List.set_cons_zero, List.set_cons_succ])
            refine takeL (i := 11) (v := ?_) rfl (by kernel_rfl) (by kernel_rfl) (by kernel_rfl) (fun _ _ _ h => h) (Or.inl ⟨by rfl, ?_⟩) (unhide HH) ?_
            rotate_left 1
            · intro W hSW; go_simp; all_goals (with_reducible rfl)
            (try simp only [Act.put, List.setIfInBounds_toArray, List.set_cons_zero, List.set_cons_succ])
            refine takeL (i := 12) (v := ?_) rfl (by kernel_rfl) (by kernel_rfl) (by kernel_rfl) (fun _ _ _ h => h) (Or.inl ⟨by rfl, ?_⟩) (unhide HH) ?_
            rotate_left 1
            · intro W1 hSW; have hcl := (hSW.cell (p := ⟨gb, _, none⟩) hgb4).trans (unhide HCE1); clear hSW; go_simp; all_goals (with_reducible rfl)
            (try simp only [Act.put, List.setIfInBounds_toArray, List.set_cons_zero, List.set_cons_succ])
            refine takeL (i := 14) (v := ?_) rfl (by kernel_rfl) (by kernel_rfl) (by kernel_rfl) (fun _ _ _ h => h) (Or.inl ⟨by rfl, ?_⟩) (unhide HH) ?_
            rotate_left 1
            · intro W hSW; go_simp; all_goals (with_reducible rfl)
            (try simp only [Act.put, List.setIfInBounds_toArray, List.set_cons_zero, List.set_cons_succ])
            refine takeL (i := 15) (v := ?_) rfl (by kernel_rfl) (by kernel_rfl) (by kernel_rfl) (fun _ _ _ h => h) (Or.inl ⟨by rfl, ?_⟩) (unhide HH) ?_
            rotate_left 1
            · intro W hSW; go_simp; all_goals (with_reducible rfl)
            (try simp only [Act.put, List.setIfInBounds_toArray, List.set_cons_zero, List.set_cons_succ])
            refine takeL (i := 16) (v := ?_) rfl (by kernel_rfl) (by kernel_rfl) (by kernel_rfl) (fun _ _ _ h => h) (Or.inl ⟨by rfl, ?_⟩) (unhide HH) ?_
            rotate_left 1
            · intro W hSW; go_simp; all_goals (with_reducible rfl)
            (try simp only [Act.put, List.setIfInBounds_toArray, List.set_cons_zero, List.set_cons_succ])
            refine takeL (i := 17) (v := ?_) rfl (by kernel_rfl) (by kernel_rfl) (by kernel_rfl) (fun _ _ _ h => h) (Or.inl ⟨by rfl, ?_⟩) (unhide HH) ?_
            rotate_left 1
            · intro W hSW; go_simp; all_goals (with_reducible rfl)
            (try simp only [Act.put, List.setIfInBounds_toArray, List.set_cons_zero, List.set_cons_succ])
            refine takeL (i := 18) (v := ?_) rfl (by kernel_rfl) (by kernel_rfl) (by kernel_rfl) (fun _ _ _ h => h) (Or.inl ⟨by rfl, ?_⟩) (unhide HH) ?_
            rotate_left 1
            · intro W hSW; go_simp; all_goals (with_reducible rfl)
            (try simp only [Act.put, List.setIfInBounds_toArray, List.set_cons_zero, List.set_cons_succ])
            refine takeL (i := 19) (v := ?_) rfl (by kernel_rfl) (by kernel_rfl) (by kernel_rfl) (fun _ _ _ h => h) (Or.inl ⟨by rfl, ?_⟩) (unhide HH) ?_
            rotate_left 1
            · intro W1 hSW; have hcl := (hSW.cell (p := ⟨gb, _, none⟩) hgb4).trans (unhide HCE1); clear hSW; go_simp; all_goals (with_reducible rfl)
            (try simp only [Act.put, List.setIfInBounds_toArray, List.set_cons_zero, List.set_cons_succ])
            refine takeL (i := 23) (v := .agg #[.int .i64 (-1), .int .i64 0]) rfl (by kernel_rfl) (by kernel_rfl) (by kernel_rfl) (fun _ _ _ h => h) (Or.inl ⟨by rfl, ?_⟩) (unhide HH) ?_
            · intro W hSW; go_simp
            (try simp only [Act.put, List.setIfInBounds_toArray, List.set_cons_zero, List.set_cons_succ])
            refine wpAnyH_ready (rs := [6]) (by kernel_rfl) (by simp) ?_
            refine consL rfl (fun K hK => ?_) AllReadyH.nil
            go_simp
            refine (within9_any y0 9 _ (by omega) (by omega)).mono ?_
            rintro e wq ⟨rfl, hwq⟩
            rw [unhide HQ0, hwq]
            clear hwq wq
            go_wp2_with fail
            refine hK.out _ _ (unhide HH) (fun hHeld => ?_)
            clear hK K HH
            have HH := hide hHeld
            clear hHeld
            (try simp only [Act.put, List.setIfInBounds_toArray, List.set_cons_zero, List.set_cons_succ])
            refine takeL (i := 7) (v := .int .i64 (6 + p0)) rfl (by kernel_rfl) (by kernel_rfl) (by kernel_rfl) (fun _ _ _ h => h) (Or.inl ⟨by rfl, ?_⟩) (unhide HH) ?_
            · intro W hSW; go_simp; rw [IntWalk.i64_in _ ⟨by omega, by omega⟩]
            (try simp only [Act.put, List.setIfInBounds_toArray, List.set_cons_zero, List.set_cons_succ])
            refine takeL (i := 13) (v := .agg #[.int .i64 (6 + p0), .int .i64 y1]) rfl (by kernel_rfl) (by kernel_rfl) (by kernel_rfl) (fun _ _ _ h => h) (Or.inl ⟨by rfl, ?_⟩) (unhide HH) ?_
            · intro W hSW; go_simp
            (try simp only [Act.put, List.setIfInBounds_toArray, List.set_cons_zero, List.set_cons_succ])
            refine wpAnyH_ready (rs := [20]) (by kernel_rfl) (by simp) ?_
            refine consL rfl (fun K hK => ?_) AllReadyH.nil
            go_simp
            refine (within9_any y1 9 _ (by omega) (by omega)).mono ?_
            rintro e wq ⟨rfl, hwq⟩
            rw [unhide HQ1, hwq]
            clear hwq wq
            go_wp2_with fail
            refine hK.out _ _ (unhide HH) (fun hHeld => ?_)
            clear hK K HH
            have HH := hide hHeld
            clear hHeld
            (try simp only [Act.put, List.setIfInBounds_toArray, List.set_cons_zero, List.set_cons_succ])
            refine takeL (i := 21) (v := .int .i64 (12 + p1)) rfl (by kernel_rfl) (by kernel_rfl) (by kernel_rfl) (fun _ _ _ h => h) (Or.inl ⟨by rfl, ?_⟩) (unhide HH) ?_
            · intro W hSW; go_simp; rw [IntWalk.i64_in _ ⟨by omega, by omega⟩]
            (try simp only [Act.put, List.setIfInBounds_toArray, List.set_cons_zero, List.set_cons_succ])
            refine takeL (i := 22) (v := .agg #[.int .i64 (d : Int), .int .i64 (12 + p1)]) rfl (by kernel_rfl) (by kernel_rfl) (by kernel_rfl) (fun _ _ _ h => h) (Or.inl ⟨by rfl, ?_⟩) (unhide HH) ?_
            · intro W hSW; go_simp
            (try simp only [Act.put, List.setIfInBounds_toArray, List.set_cons_zero, List.set_cons_succ])
            refine wpAnyH_ready (rs := [24]) (by kernel_rfl) (by simp) ?_
            refine consL rfl (fun K hK => ?_) AllReadyH.nil
            go_simp
            have hal : Below wc.heap.size wc (wc.alloc (.cells #[.int .i64 (6 + p0), .int .i64 y1, .int .i64 (d : Int), .int .i64 (12 + p1), .int .i64 (-1), .int .i64 0] 39)) := (Below.refl _ _).alloc (Nat.le_refl _) _
            have hb6 := World.alloc_heap_new wc (.cells #[.int .i64 (6 + p0), .int .i64 y1, .int .i64 (d : Int), .int .i64 (12 + p1), .int .i64 (-1), .int .i64 0] 39)
            have hO7 := (unhide HOC).below hal
            generalize wc.alloc (.cells #[.int .i64 (6 + p0), .int .i64 y1, .int .i64 (d : Int), .int .i64 (12 + p1), .int .i64 (-1), .int .i64 0] 39) = wd at hal hb6 hO7 ⊢
            refine hK.out _ _ (hal.mono hzc) (fun hHeld => ?_)
            have HAL := hide hal
            have HB6 := hide hb6
            have HO7 := hide hO7
            clear hal hb6 hO7
            clear hK K HH
            have HH := hide hHeld
            clear hHeld
            (try simp only [Act.put, List.setIfInBounds_toArray, List.set_cons_zero, List.set_cons_succ])
            refine wpAnyH_ready (rs := [25]) (by kernel_rfl) (by simp) ?_
            refine consL rfl (fun K hK => ?_) AllReadyH.nil
            rw [if_pos (by rfl)]
            obtain ⟨v7, w7, hr7, hO8, hg7⟩ := run_append_six wd w4.heap.size 24 (.slice vo bn vc) bad (unhide HO7) wc.heap.size (6 + p0, y1) ((d : Int), 12 + p1) (-1, 0) (unhide HB6) (by have := unhide HBN; omega) (by have := (unhide HAL).size; omega)
            have hk7 : Below w4.heap.size wc w7 := below_grown ((unhide HAL).mono hzc) hg7 (by have := (unhide HAL).size; omega) (fun k hk => (unhide HO7).row k hk)
            have hl8 : (bad ++ [(6 + p0, y1), ((d : Int), 12 + p1), (-1, 0)]).length = bn + 3 := by rw [List.length_append, unhide HBN]; rfl
            have HB8 := hide ((unhide HB9).more (p := (6 + p0, y1)) (q := ((d : Int), 12 + p1)) (r := (-1, 0)) (.inl (by intro h; dsimp only at h; omega)) (.inr ⟨rfl, by dsimp only; omega⟩) (.inl (by intro h; dsimp only at h; omega)))
            obtain ⟨o7, c7, hv7⟩ := hO8.shape
            rw [hl8] at hv7
            subst hv7
            obtain ⟨bad2, hbad2⟩ : ∃ bad2, bad ++ [(6 + p0, y1), ((d : Int), 12 + p1), (-1, 0)] = bad2 := ⟨_, rfl⟩
            rw [hbad2] at hO8 hl8 HB8
            have HO8 := hide hO8
            have HR7 := hide hr7
            have HL8 := hide hl8
            have HK7 := hide ((unhide HKB).trans hk7)
            clear hO8 hr7 hl8 hg7 hbad2
            refine wp_append_run _ (.tmp 61) (.tmp 85) 24 24 (by rfl) _ _ (by rfl) (by rfl) (unhide HR7) ?_
            refine hK.out _ _ hk7 (fun hHeld => ?_)
            clear hk7
            clear hK K HH
            have HH := hide hHeld
            clear hHeld
            (try simp only [Act.put, List.setIfInBounds_toArray, List.set_cons_zero, List.set_cons_succ])
            refine takeL (i := 26) (v := ?_) rfl (by kernel_rfl) (by kernel_rfl) (by kernel_rfl) (fun _ _ _ h => h) (Or.inl ⟨by rfl, ?_⟩) (unhide HH) ?_
            rotate_left 1
            · intro W hSW; go_simp; all_goals (with_reducible rfl)
            (try simp only [Act.put, List.setIfInBounds_toArray, List.set_cons_zero, List.set_cons_succ])
            refine wpAnyH_done (by kernel_rfl) ?_ _
            refine NoPanic.normal ?_
            go_wp2_with fail
            go_roundw
            case rel => exact ⟨j + 1, bad2, by go_num, by omega, by rw [unhide HL8]; omega, HO8, HB8, HK7⟩
            case measure => simp [intOf]; omega
          · obtain rfl : j = nb := by omega
            obtain ⟨vo, vc, hvo⟩ := (unhide HOB).shape
            subst hvo
            obtain ⟨gq, hPB⟩ := (unhide HOB).parg
            obtain ⟨bn, hbn⟩ : ∃ bn, bad.length = bn := ⟨_, rfl⟩
            rw [hbn] at hPB ⊢
            have HPB := hide hPB
            have HGB : Hid (GeoAt wb w1.heap.size 6 12 4) := ⟨((unhide HKB).block _ (by omega)).trans (unhide HG).blk⟩
            have HSB := hide ((unhide HS).below (unhide HKB) (by omega))
            have c0 := (unhide HGB).c0
            have c1 := (unhide HGB).c1
            have c2 := (unhide HGB).c2
            clear hPB hbn HOB
            go_wp2_with fail
            clear c0 c1 c2
            refine (gsupers_any 6 12 4 bad vo bn vc gq _ (unhide HPB)).mono ?_
            rintro e w8 ⟨v8, rfl, hO, hk⟩
            have e6 : supG 6 12 4 bad = sup9 6 12 bad := by rw [supG, if_pos (by decide)]; rfl
            have hsn := (unhide HB9).sn hd6 (unhide HNN)
            have hml := sup9_len 6 12 bad
            rw [e6] at hO
            obtain ⟨so, sc, hv8⟩ := hO.sl
            subst hv8
            obtain ⟨m, hm⟩ : ∃ m, sn9 6 12 bad = m := ⟨_, rfl⟩
            rw [hm] at hml hsn
            rw [hml] at hO ⊢
            have HX := hide hO
            have HM := hide hm
            have HML := hide hml
            have HE6 := hide e6
            replace HGB := hide ((unhide HGB).below hk)
            replace HPB := hide ((unhide HPB).below' hk)
            have HS8 := hide ((unhide HSB).below hk (unhide HSB).lt)
            have HT8 := hide ((unhide HTB).trans (hk.mono (unhide HTB).size))
            have hne : ((m : Int) != 12 - (nn : Int)) = false := by rw [bne_eq_false_iff_eq]; omega
            have hm12 : m ≤ 12 := by omega
            have HSM := hide hsn
            clear hO hm hml e6 hk HSB hsn
            go_wp2_with fail
            go_loopw [16, 17] (fun q16 q17 wr => ∃ b t : Nat, q17 = .int .i64 b ∧ q16 = .int .i64 t ∧ b ≤ 12 ∧ Hid (t = (gdL (d : Int) b bl).length) ∧ t ≤ 12 ∧ wr = w8) (fun _ q _ => 12 - (intOf q).toNat)
            case atStart => exact ⟨0, 0, rfl, rfl, by omega, rfl, by omega, rfl⟩
            case round =>
              clear hne
              obtain ⟨b, t, rfl, rfl, hb12, HTT, ht12, hwr⟩ := hrel
              replace hwr := hwr.symm
              subst hwr
              by_cases hlb : b < 12
              · have hb1 : (b : Int) < 12 := by omega
                have hsb := (unhide HS8).cell (i := b) hlb
                have HGS := hide (gdL_succ (d : Int) b bl)
                by_cases hmem : ((d : Int), (b : Int)) ∈ bl
                · rw [decide_eq_true hmem] at hsb
                  rw [if_pos hmem, List.append_nil] at HGS
                  clear hmem
                  go_wp2_with fail
                  go_roundw
                  case rel => exact ⟨b + 1, t, by go_num, rfl, by omega, by rw [unhide HGS]; exact HTT, ht12, trivial⟩
                  case measure => simp [intOf]; omega
                · obtain ⟨i1, i2, i3⟩ := (unhide HB9).item hd6 (unhide HNN) hlb hmem
                  rw [decide_eq_false hmem] at hsb
                  rw [if_neg hmem] at HGS
                  rw [← unhide HTT] at i1 i2 i3
                  obtain ⟨G, hso⟩ := (unhide HX).top9 (by rw [unhide HML, ← unhide HM]; omega)
                  subst hso
                  have hrl := sup9_row_len (D := 6) (B := 12) (bad := bad) (i := t) i1
                  obtain ⟨ua, uc, hc, hu⟩ := (unhide HX).row9 (i := t) (by rw [unhide HML, ← unhide HM]; exact i1)
                  rw [hrl] at hc hu
                  obtain ⟨q, hq, hcd⟩ := hu.item9 (d := d) (by rw [hrl]; exact hd6)
                  subst hq
                  obtain ⟨rn, hrn⟩ : ∃ rn, (d + 1) % 6 = rn := ⟨_, rfl⟩
                  have hrn6 : rn < 6 := by rw [← hrn]; exact Nat.mod_lt _ (by omega)
                  rw [hrn] at i3
                  obtain ⟨q2, hq2, hce⟩ := hu.item9 (d := rn) (by rw [hrl]; exact hrn6)
                  cases hq2
                  rw [i2] at hcd
                  rw [i3] at hce
                  have htm : (t : Int) < (m : Int) := by rw [unhide HM] at i1; omega
                  have hrn1 : (rn : Int) < 6 := by omega
                  have hd61 : (d : Int) < 6 := by omega
                  have hqm : ((d : Int) + 1) % 6 = (rn : Int) := by omega
                  have hqt : ((d : Int) + 1).tmod 6 = (rn : Int) := by rw [Int.tmod_eq_emod_of_nonneg (by omega), hqm]
                  have HGL : Hid (t + 1 = (gdL (d : Int) (b + 1) bl).length) := by show _ = _; rw [unhide HGS, List.length_append, ← unhide HTT]; rfl
                  have ht13 : t + 1 ≤ 12 := by omega
                  clear i1 i2 i3 hu hrl hrn hmem
                  go_wp2_with fail
                  go_roundw
                  case rel => exact ⟨b + 1, t + 1, by go_num, by go_num, by omega, HGL, ht13, trivial⟩
                  case measure => simp [intOf]; omega
              · obtain rfl : b = 12 := by omega
                have htm : (t : Int) = (m : Int) := by have h1 := unhide HTT; have h2 := unhide HNN; have h3 := unhide HSM; omega
                have htm2 : t = m := by omega
                subst htm2
                have c0 := (unhide HGB).c0
                have c1 := (unhide HGB).c1
                have c2 := (unhide HGB).c2
                clear htm
                go_wp2_with fail
                clear c0 c1 c2
                refine (rsupers_any 6 12 4 bad vo bn vc gq _ (unhide HPB)).mono ?_
                rintro e w9 ⟨v9, rfl, hO, hk⟩
                rw [unhide HE6] at hO
                obtain ⟨so9, sc9, hv9⟩ := hO.sl
                subst hv9
                rw [unhide HML]
                replace HT8 := hide ((unhide HT8).trans (hk.mono (unhide HT8).size))
                clear hO hk
                go_wp2_with fail
                go_ret
                exact ⟨rfl, unhide HT8⟩

end Go.Proofs.Ytnhhemecfcljbaa
