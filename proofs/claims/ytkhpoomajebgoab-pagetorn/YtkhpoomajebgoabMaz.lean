/-
  ramekinref8.Encode.
  ramekinref8.Decode.
  The laws' own within.
  The laws' own Same: where both are one page.
  Pages with bits turned, by themselves.
  The laws' own known.
  copy of bytes into bytes that the call has made.
  The laws' own Data, as it is of what it is handed.
-/
import Derived.Test.YtkhpoomajebgoabMay
import Derived.Test.YtkhpoomajebgoabMat
import Derived.Test.YtkhpoomajebgoabMai
import Derived.Test.YtkhpoomajebgoabMaw
import Derived.Test.YtkhpoomajebgoabMaj
import Derived.Test.YtkhpoomajebgoabMav
import Derived.Test.YtkhpoomajebgoabMax
namespace Go.Proofs.Ytkhpoomajebgoab
open Go.RowKit Go.Shelf

set_option maxRecDepth 100000 in
set_option maxHeartbeats 2000000 in
theorem rpencode_not (v : Value) (g : Nat) (d : List Nat) (w : World) (hA : Arg w v g d) (hl : d.length ≠ 48) : Calls Try.prog 5 #[v] w fun e w' => e = .returned (.slice none 0 0) ∧ w' = w := by
  obtain ⟨⟨ao, c, rfl, hc1, hc2, hnil, hr⟩, hbs⟩ := hA
  have h24 : ((d.length : Int) != 48) = true := by rw [bne_iff_ne]; omega
  clear hr hnil
  go_enter Try.func5, Try.ntmps5
  go_wp2
  go_ret
  exact ⟨rfl, rfl⟩

theorem app_owns {w : World} {base n m : Nat} {v : Value} {a b : List Nat} (ho : w.ownsRow base 5 1 v (n + m) ((ints a).map (Value.int .u8) ++ (ints b).map (Value.int .u8))) : w.ownsRow base 5 1 v (n + m) ((ints (a ++ b)).map (Value.int .u8)) := by
  rwa [show (ints (a ++ b)).map (Value.int .u8) = (ints a).map (Value.int .u8) ++ (ints b).map (Value.int .u8) from by simp only [ints, List.map_append]]

set_option maxRecDepth 100000 in
set_option maxHeartbeats 4000000 in
theorem rpencode_any (v : Value) (g : Nat) (d : List Nat) (w : World) (hA : Arg w v g d) (hl : d.length = 48) :
    Calls Try.prog 5 #[v] w fun e w' => ∃ v', e = .returned v' ∧ Fr w.heap.size w' v' (pageF d) ∧ Below w.heap.size w w' := by
  have HA := hide hA
  have hbs := hA.bs
  obtain ⟨⟨ao, c, rfl, hc1, hc2, hnil, hr⟩, _⟩ := hA
  obtain ⟨o, rfl⟩ := row_some hr (by omega)
  rw [hl] at HA hc1 ⊢
  clear hr hnil
  have HL := hide hl
  have HBS := hide hbs
  have hmk : ∀ w : World, (Instr.makeSlice 22 (.int .i64 4) (.int .i64 4)).run Try.prog w = .ok (.slice (some ⟨w.heap.size, 0, none⟩) 4 4) (w.alloc (.cells (List.replicate 4 (Value.int .u8 0)).toArray 5)) := run_zeros 4 (by omega)
  obtain ⟨i0, hi0, hz0, hz1, hz2⟩ := info_parts infoE
  have HI := hide hi0
  have HO := hide (made_owns 4 (by omega) w)
  have HK1 : Hid (Below w.heap.size w (w.alloc (.cells (List.replicate 4 (Value.int .u8 0)).toArray 5))) := (Below.refl _ w).alloc (Nat.le_refl _) _
  have HA1 := hide ((unhide HA).below (unhide HK1))
  have hca : (24 : Int) ≤ (c : Int) := by omega
  clear hi0
  obtain ⟨z4, hz4⟩ : ∃ z4, (List.replicate 4 (Value.int .u8 0)).toArray = z4 := ⟨_, rfl⟩
  rw [hz4] at HO HK1 HA1
  simp only [hz4] at hmk
  clear hz4
  have HF := hide ((unhide HA1).front (m := 24) (by omega))
  go_enter Try.func5, Try.ntmps5
  go_wp2_with fail
  refine (rencode_any _ g (d.take 24) _ (unhide HF) (by rw [List.length_take, unhide HL]; rfl)).mono ?_
  rintro e w2 ⟨v2, rfl, hF, hk⟩
  have hl1 : (encF (d.take 24)).length = 28 := encF_len (by rw [List.length_take, unhide HL]; rfl)
  obtain ⟨q, cq, rfl, hq1, hq2, hB, hq3⟩ := hF.blk (by intro e; rw [e] at hl1; simp at hl1)
  have hrow := hB.row (o := 0) (n := 28)
  rw [List.drop_zero, List.take_of_length_le (by omega)] at hrow
  rw [hl1] at hq1 ⊢
  have HROW := hide hrow
  have HL1 := hide hl1
  have HO2 := hide (owns_below (unhide HO) hk)
  have HK2 := hide ((unhide HK1).trans (hk.mono (by simp)))
  have HA2 := hide ((unhide HA1).below hk)
  have hw2 : w.heap.size ≤ w2.heap.size := (unhide HK2).size
  clear hF hk hB hrow hl1 HF HO HA1
  go_wp2_with (at_builtin; refine wpList_append_row _ rfl _ _ 22 rfl w.heap.size 5 i0 Try.underlying22 (unhide HI) hz0 hz1 hz2 (.slice (some ⟨w.heap.size, 0, none⟩) 4 4) 4 _ rfl (unhide HO2) (some ⟨q, 0, none⟩) q 28 cq (ints (encF (d.take 24))) rfl (by rw [ints_len]; exact unhide HL1) (unhide HROW) (fun h => by cases h) (by omega) (by omega) ?_)
  intro v' w3 ho hg _
  have ho2 := app_owns (n := 4) (m := 28) (a := List.replicate 4 0) ho
  obtain ⟨g3, cap3, rfl⟩ := ownsRow_succ (k := 31) ho2
  have HO3 := hide ho2
  have HK3 : Hid (Below w.heap.size w w3) := (unhide HK2).grown hg hw2 (fun k e => by cases e; exact Nat.le_refl _)
  have hw3 : w.heap.size ≤ w3.heap.size := (unhide HK3).size
  have HA3 := hide ((unhide HA).below (unhide HK3))
  have HF := hide ((unhide HA3).rest (k := 24) (by omega))
  have hcn : ¬ c = 24 := by omega
  have hcm : (48 : Int) ≤ (c : Int) := by omega
  clear ho ho2 hg HA2 HROW
  go_wp2_with fail
  refine (rencode_any _ g (d.drop 24) _ (unhide HF) (by rw [List.length_drop, unhide HL])).mono ?_
  rintro e w4 ⟨v4, rfl, hF, hk⟩
  have hl2 : (encF (d.drop 24)).length = 28 := encF_len (by rw [List.length_drop, unhide HL])
  obtain ⟨q4, cq4, rfl, hq41, hq42, hB, hq43⟩ := hF.blk (by intro e; rw [e] at hl2; simp at hl2)
  have hrow := hB.row (o := 0) (n := 28)
  rw [List.drop_zero, List.take_of_length_le (by omega)] at hrow
  rw [hl2] at hq41 ⊢
  have HROW := hide hrow
  have HL2 := hide hl2
  have HO4 := hide (owns_below (unhide HO3) hk)
  have HK4 := hide ((unhide HK3).trans (hk.mono hw3))
  have hw4 : w.heap.size ≤ w4.heap.size := (unhide HK4).size
  clear hF hk hB hrow hl2 HF HO3
  go_wp2_with (at_builtin; refine wpList_append_row _ rfl _ _ 22 rfl w.heap.size 5 i0 Try.underlying22 (unhide HI) hz0 hz1 hz2 (.slice (some ⟨g3, 0, none⟩) 32 cap3) 32 _ rfl (unhide HO4) (some ⟨q4, 0, none⟩) q4 28 cq4 (ints (encF (d.drop 24))) rfl (by rw [ints_len]; exact unhide HL2) (unhide HROW) (fun h => by cases h) (by omega) (by omega) ?_)
  intro v' w5 ho hg _
  have ho2 := app_owns (n := 32) (m := 28) (a := List.replicate 4 0 ++ encF (d.take 24)) ho
  obtain ⟨g5, cap5, rfl⟩ := ownsRow_succ (k := 59) ho2
  have hF5 := (owns_fr ho2).2
  have HF5 := hide hF5
  have HK5 : Hid (Below w.heap.size w w5) := (unhide HK4).grown hg hw4 (fun k e => (unhide HO4).lt k e |>.1)
  clear ho ho2 hg hF5
  go_wp2
  go_ret
  refine ⟨_, rfl, ?_, unhide HK5⟩
  have e : pageF d = List.replicate 4 0 ++ encF (d.take 24) ++ encF (d.drop 24) := by rw [pageF, List.append_assoc]
  rw [e]
  exact unhide HF5
end Go.Proofs.Ytkhpoomajebgoab

namespace Go.Proofs.Ytkhpoomajebgoab
open Go.RowKit Go.Shelf

theorem both_told8 {t : List Nat} (hl : t.length = 28) (hb : Bs t) {l : List Nat} (hg : Good (syn t) l) (h3 : l.length ≤ 3) : restF (mend t) = 0 ∧ flips t l = mend t := by
  obtain ⟨f1, f2⟩ := found_told hl hb
  by_cases hz : restF (mend t) = 0
  · rcases Told.once hl hb (.near l hg h3) (f1 hz) with ⟨h, _⟩ | ⟨a, b, ha, hb', h1, _⟩
    · cases h
    · cases ha
      cases hb'
      exact ⟨hz, h1⟩
  · rcases Told.once hl hb (.near l hg h3) (f2 hz) with ⟨h, _⟩ | ⟨a, b, ha, hb', h1, h2⟩
    · cases h
    · cases hb'
theorem told_far8 {t : List Nat} (hl : t.length = 28) (hb : Bs t) (hf : ∀ l, Good (syn t) l → 4 ≤ l.length) : ¬ restF (mend t) = 0 := by
  intro hz
  obtain ⟨f1, f2⟩ := found_told hl hb
  rcases Told.once hl hb (.far hf) (f1 hz) with ⟨_, h⟩ | ⟨a, b, ha, hb', h1, h2⟩
  · cases h
  · cases ha

/-- What the second telling's Decode of a word tells, by what is mended. -/
theorem rdec_any (v : Value) (g : Nat) (s : List Nat) (w : World) (hA : Arg w v g s) (hs : s.length = 28) :
    Calls Try.prog 17 #[v] w fun e w' => Below w.heap.size w w' ∧
      ((restF (mend s) = 0 ∧ ∃ q c n, e = .returned (.tuple #[.slice (some ⟨q, 4, none⟩) 24 c, .int .i64 (n : Nat), .bool true]) ∧ Arg w' (.slice (some ⟨q, 4, none⟩) 24 c) q ((mend s).drop 4)) ∨
       (¬ restF (mend s) = 0 ∧ e = .returned (.tuple #[.slice none 0 0, .int .i64 0, .bool false]))) :=
  (rdecode_any v g s w hA hs).mono (fun e w' ⟨hk, h⟩ => ⟨hk, by
    rcases h with ⟨l, h1, h2, q, c, rfl, h4⟩ | ⟨h1, rfl⟩
    · obtain ⟨k1, k2⟩ := both_told8 hs hA.bs h1 h2
      rw [k2] at h4
      exact .inl ⟨k1, q, c, _, rfl, h4⟩
    · exact .inr ⟨told_far8 hs hA.bs h1, rfl⟩⟩)

set_option maxRecDepth 100000 in
set_option maxHeartbeats 4000000 in
theorem rpdecode_any (v : Value) (g : Nat) (s : List Nat) (w : World) (hA : Arg w v g s) :
    Calls Try.prog 10 #[v] w fun e w' => ∃ vb, e = .returned (.agg #[.int .i64 (pageD s).1, vb]) ∧ Fr w.heap.size w' vb (pageD s).2 ∧ Below w.heap.size w w' := by
  have HA := hide hA
  have hbs := hA.bs
  obtain ⟨⟨ao, c, rfl, hc1, hc2, hnil, hr⟩, _⟩ := hA
  have HB1 : Hid (Below w.heap.size w (w.alloc (.cells #[.int .i64 0, .slice none 0 0] 29))) := (Below.refl _ w).alloc (Nat.le_refl _) _
  have HP1 := hide (PgB.new w (.int .i64 0) (.slice none 0 0))
  by_cases hl : s.length = 60
  case neg =>
    have h24 : ((s.length : Int) != 60) = true := by rw [bne_iff_ne]; omega
    have hD : pageD s = (1, []) := by rw [pageD, if_pos hl]
    have hc0 := (PgB.new w (.int .i64 0) (.slice none 0 0)).c0
    have hf0 := (PgB.new w (.int .i64 0) (.slice none 0 0)).f0
    have hc1' := (PgB.new w (.int .i64 0) (.slice none 0 0)).c1
    have hf1 := (PgB.new w (.int .i64 0) (.slice none 0 0)).f1
    have HD := hide hD
    clear hr hnil hD
    go_enter Try.func10, Try.ntmps10
    go_wp2
    refine bodyPost_ret (results_cell8 rfl _ _ ⟨w.heap.size, 0, none⟩ _ rfl (PgB.load (PgB.new w (.int .i64 1) (.slice none 0 0)))) rfl ?_
    rw [unhide HD]
    exact ⟨_, rfl, .inl ⟨rfl, rfl⟩, (Below.refl _ w).alloc (Nat.le_refl _) _⟩
  case pos =>
    obtain ⟨o, rfl⟩ := row_some hr (by omega)
    rw [hl] at HA hc1 ⊢
    have hc4 : (4 : Int) ≤ (c : Int) := by omega
    have hc32 : (32 : Int) ≤ (c : Int) := by omega
    have HA1 := hide ((unhide HA).below (unhide HB1))
    have HON := hide (rones_any _ g (s.take 4) _ ((unhide HA1).front (m := 4) (by omega)) (by rw [List.length_take]; omega))
    rw [show (s.take 4).length = 4 from by rw [List.length_take, hl]; rfl] at HON
    rw [show (onF (cf (s.take 4)) 4).length = marks s from rfl] at HON
    obtain ⟨m, hm⟩ : ∃ m, marks s = m := ⟨_, rfl⟩
    rw [hm] at HON
    have HM := hide hm
    have HL := hide hl
    clear hr hnil hm hl
    go_enter Try.func10, Try.ntmps10
    go_wp2_with fail
    refine (unhide HON).mono ?_
    rintro e w2 ⟨rfl, hw2⟩
    have HP2 : Hid (PgB w2 w.heap.size (.int .i64 0) (.slice none 0 0)) := by rw [hw2]; exact unhide HP1
    have HB2 : Hid (Below w.heap.size w w2) := by rw [hw2]; exact unhide HB1
    have HA2 : Hid (Arg w2 (.slice (some ⟨g, o, none⟩) 60 c) g s) := by rw [hw2]; exact unhide HA1
    clear hw2 HON HP1
    by_cases hm16 : 16 < m
    · have hm' : (16 : Int) < (m : Int) := by omega
      have hD : Hid (pageD s = (0, [])) := by show _ = _; rw [pageD, if_neg (by rw [unhide HL]; simp), if_pos (by rw [unhide HM]; exact hm16)]
      have hc0 := PgB.c0 (unhide HP2)
      have hf0 := PgB.f0 (unhide HP2)
      have hc1' := PgB.c1 (unhide HP2)
      have hf1 := PgB.f1 (unhide HP2)
      go_wp2_with fail
      refine bodyPost_ret (results_cell8 rfl _ _ ⟨w.heap.size, 0, none⟩ _ rfl (PgB.load (((unhide HP2 : PgB _ _ _ _).s0 (.int .i64 0)).s1 (.slice none 0 0)))) rfl ?_
      rw [unhide hD]
      exact ⟨_, rfl, .inl ⟨rfl, rfl⟩, ((unhide HB2).setCell (p := ⟨w.heap.size, 0, none⟩) (by simp) _).setCell (p := ⟨w.heap.size, 1, none⟩) (by simp) _⟩
    · have hm' : ¬ (16 : Int) < (m : Int) := by omega
      have HW := hide (rdec_any _ g (wordA s) w2 (by
        obtain ⟨⟨a1, c1, h1, h2, h3, h4, h5⟩, h6⟩ := ((unhide HA2).rest (k := 4) (by omega)).front (m := 28) (by omega)
        exact ⟨⟨a1, c1, h1, h2, h3, h4, h5⟩, h6⟩) (wordA_len (unhide HL)))
      have hcn : ¬ c = 4 := by omega
      have hcn2 : ¬ c = 32 := by omega
      have hcle : (60 : Int) ≤ (c : Int) := by omega
      go_wp2_with fail
      refine (unhide HW).mono ?_
      rintro e w3 ⟨hk, hres⟩
      have HP3 : Hid (PgB w3 w.heap.size (.int .i64 0) (.slice none 0 0)) := PgB.below (unhide HP2) hk
      have HB3 := hide ((unhide HB2).trans (hk.mono (unhide HB2).size))
      have HA3 := hide ((unhide HA2).below hk)
      have HW2 := hide (rdec_any _ g (wordB s) w3 ((unhide HA3).rest (k := 32) (by omega)) (wordB_len (unhide HL)))
      clear hk HW HA2 HB2 HP2
      rcases hres with ⟨hzA, qa, ca, na, rfl, hDA⟩ | ⟨hzA, rfl⟩
      · have HZA := hide hzA
        have HDA := hide hDA
        clear hzA hDA
        go_wp2_with fail
        refine (unhide HW2).mono ?_
        rintro e w4 ⟨hk, hres⟩
        have HP4 : Hid (PgB w4 w.heap.size (.int .i64 0) (.slice none 0 0)) := PgB.below (unhide HP3) hk
        have HB4 := hide ((unhide HB3).trans (hk.mono (unhide HB3).size))
        have HDA4 := hide ((unhide HDA).below hk)
        clear hk HW2 HA3 HB3 HP3 HDA
        rcases hres with ⟨hzB, qb, cb, nb', rfl, hDB⟩ | ⟨hzB, rfl⟩
        · have hD : Hid (pageD s = (2, dataW s)) := by show _ = _; rw [pageD, if_neg (by rw [unhide HL]; simp), if_neg (by rw [unhide HM]; exact hm16), if_pos ⟨unhide HZA, hzB⟩]
          have HE4 := hide (empty_owns' w4)
          have HAL : Hid (Below w4.heap.size w4 (w4.alloc (.cells #[] 5))) := (Below.refl _ w4).alloc (Nat.le_refl _) _
          have hal : ((mend (wordA s)).drop 4).length = 24 := by rw [List.length_drop, mend_len, wordA_len (unhide HL)]
          have hbl : ((mend (wordB s)).drop 4).length = 24 := by rw [List.length_drop, mend_len, wordB_len (unhide HL)]
          have HRA : Hid (Row (w4.alloc (.cells #[] 5)) (some ⟨qa, 4, none⟩) qa (ints ((mend (wordA s)).drop 4))) := arg_row ((unhide HDA4).below (unhide HAL))
          have HDB := hide hDB
          have HLA : Hid ((ints ((mend (wordA s)).drop 4)).length = 24) := by show _ = _; rw [ints_len, hal]
          have HLB : Hid ((ints ((mend (wordB s)).drop 4)).length = 24) := by show _ = _; rw [ints_len, hbl]
          obtain ⟨i0, hi0, hz0, hz1, hz2⟩ := info_parts infoE
          have HI := hide hi0
          have hw4 := (unhide HB4).size
          clear hi0 hDB hal hbl hzB
          go_wp2_with (at_builtin; refine wpList_append_row _ rfl _ _ 22 rfl w4.heap.size 5 i0 Try.underlying22 (unhide HI) hz0 hz1 hz2 (.slice (some ⟨w4.heap.size, 0, none⟩) 0 0) 0 _ rfl (unhide HE4) (some ⟨qa, 4, none⟩) qa 24 ca (ints ((mend (wordA s)).drop 4)) rfl (unhide HLA) (unhide HRA) (fun h => by cases h) (by omega) (by simp) ?_)
          intro v' w5 ho hg _
          obtain ⟨g5, cap5, rfl⟩ := ownsRow_succ (k := 23) ho
          have HO5 : Hid (w5.ownsRow w4.heap.size 5 1 (.slice (some ⟨g5, 0, none⟩) 24 cap5) 24 ((ints ((mend (wordA s)).drop 4)).map (Value.int .u8))) := by
            have h := ho
            rw [show (ints ([] : List Nat)).map (Value.int .u8) = [] from rfl, List.nil_append] at h
            exact h
          have HK5 : Hid (Below w4.heap.size w4 w5) := (unhide HAL).grown hg (by simp) (fun k e => by cases e; exact Nat.le_refl _)
          have HRB5 : Hid (Row w5 (some ⟨qb, 4, none⟩) qb (ints ((mend (wordB s)).drop 4))) := arg_row ((unhide HDB).below (unhide HK5))
          clear ho hg HRA HDB
          have hbase5 : w4.heap.size ≤ w5.heap.size := (unhide HK5).size
          go_wp2_with (at_builtin; refine wpList_append_row _ rfl _ _ 22 rfl w4.heap.size 5 i0 Try.underlying22 (unhide HI) hz0 hz1 hz2 (.slice (some ⟨g5, 0, none⟩) 24 cap5) 24 _ rfl (unhide HO5) (some ⟨qb, 4, none⟩) qb 24 cb (ints ((mend (wordB s)).drop 4)) rfl (unhide HLB) (unhide HRB5) (fun h => by cases h) (by omega) (by omega) ?_)
          intro v' w6 ho hg _
          have ho2 := app_owns (n := 24) (m := 24) (a := (mend (wordA s)).drop 4) ho
          obtain ⟨g6, cap6, rfl⟩ := ownsRow_succ (k := 47) ho2
          have HF6 := hide (owns_fr ho2).2
          have HK6 : Hid (Below w4.heap.size w4 w6) := (unhide HK5).grown hg hbase5 (fun k e => (unhide HO5).lt k e |>.1)
          have HP6 : Hid (PgB w6 w.heap.size (.int .i64 0) (.slice none 0 0)) := PgB.below (unhide HP4) (unhide HK6)
          have HB6 := hide ((unhide HB4).trans ((unhide HK6).mono hw4))
          have hplt := PgB.lt (unhide HP4)
          have hc0 := PgB.c0 (unhide HP6)
          have hf0 := PgB.f0 (unhide HP6)
          have hc1' := PgB.c1 (unhide HP6)
          have hf1 := PgB.f1 (unhide HP6)
          clear ho ho2 hg
          go_wp2_with fail
          refine bodyPost_ret (results_cell8 rfl _ _ ⟨w.heap.size, 0, none⟩ _ rfl (PgB.load (((unhide HP6 : PgB _ _ _ _).s0 (.int .i64 2)).s1 (.slice (some ⟨g6, 0, none⟩) 48 cap6)))) rfl ?_
          rw [unhide hD]
          refine ⟨_, rfl, ?_, ((unhide HB6).setCell (p := ⟨w.heap.size, 0, none⟩) (by simp) _).setCell (p := ⟨w.heap.size, 1, none⟩) (by simp) _⟩
          rcases unhide HF6 with ⟨h0, _⟩ | ⟨g', c', h1, h2, h3, h4, h5⟩
          · exfalso
            have := dataW_len (unhide HL)
            rw [show dataW s = [] from h0] at this
            simp at this
          · exact .inr ⟨g', c', h1, h2, h3, (h4.of (Below.heap_setCell _ _ _ _ (by dsimp only; omega))).of (Below.heap_setCell _ _ _ _ (by dsimp only; omega)), by omega⟩
        · have hD : Hid (pageD s = (1, [])) := by show _ = _; rw [pageD, if_neg (by rw [unhide HL]; simp), if_neg (by rw [unhide HM]; exact hm16), if_neg (by rintro ⟨h0, h1⟩; exact hzB h1)]
          have hc0 := PgB.c0 (unhide HP4)
          have hf0 := PgB.f0 (unhide HP4)
          have hc1' := PgB.c1 (unhide HP4)
          have hf1 := PgB.f1 (unhide HP4)
          clear hzB HZA
          go_wp2_with fail
          refine bodyPost_ret (results_cell8 rfl _ _ ⟨w.heap.size, 0, none⟩ _ rfl (PgB.load (((unhide HP4 : PgB _ _ _ _).s0 (.int .i64 1)).s1 (.slice none 0 0)))) rfl ?_
          rw [unhide hD]
          exact ⟨_, rfl, .inl ⟨rfl, rfl⟩, ((unhide HB4).setCell (p := ⟨w.heap.size, 0, none⟩) (by simp) _).setCell (p := ⟨w.heap.size, 1, none⟩) (by simp) _⟩
      · have HZA : Hid (¬ restF (mend (wordA s)) = 0) := hzA
        clear hzA
        go_wp2_with fail
        refine (unhide HW2).mono ?_
        rintro e w4 ⟨hk, hres⟩
        have HP4 : Hid (PgB w4 w.heap.size (.int .i64 0) (.slice none 0 0)) := PgB.below (unhide HP3) hk
        have HB4 := hide ((unhide HB3).trans (hk.mono (unhide HB3).size))
        clear hk HW2 HA3 HB3 HP3
        rcases hres with ⟨hzB, qb, cb, nb', rfl, hDB⟩ | ⟨hzB, rfl⟩
        · clear hzB hDB
          have hD : Hid (pageD s = (1, [])) := by show _ = _; rw [pageD, if_neg (by rw [unhide HL]; simp), if_neg (by rw [unhide HM]; exact hm16), if_neg (by rintro ⟨h0, h1⟩; exact (unhide HZA) h0)]
          have hc0 := PgB.c0 (unhide HP4)
          have hf0 := PgB.f0 (unhide HP4)
          have hc1' := PgB.c1 (unhide HP4)
          have hf1 := PgB.f1 (unhide HP4)
          go_wp2_with fail
          refine bodyPost_ret (results_cell8 rfl _ _ ⟨w.heap.size, 0, none⟩ _ rfl (PgB.load (((unhide HP4 : PgB _ _ _ _).s0 (.int .i64 1)).s1 (.slice none 0 0)))) rfl ?_
          rw [unhide hD]
          exact ⟨_, rfl, .inl ⟨rfl, rfl⟩, ((unhide HB4).setCell (p := ⟨w.heap.size, 0, none⟩) (by simp) _).setCell (p := ⟨w.heap.size, 1, none⟩) (by simp) _⟩
        · clear hzB
          have hD : Hid (pageD s = (1, [])) := by show _ = _; rw [pageD, if_neg (by rw [unhide HL]; simp), if_neg (by rw [unhide HM]; exact hm16), if_neg (by rintro ⟨h0, h1⟩; exact (unhide HZA) h0)]
          have hc0 := PgB.c0 (unhide HP4)
          have hf0 := PgB.f0 (unhide HP4)
          have hc1' := PgB.c1 (unhide HP4)
          have hf1 := PgB.f1 (unhide HP4)
          go_wp2_with fail
          refine bodyPost_ret (results_cell8 rfl _ _ ⟨w.heap.size, 0, none⟩ _ rfl (PgB.load (((unhide HP4 : PgB _ _ _ _).s0 (.int .i64 1)).s1 (.slice none 0 0)))) rfl ?_
          rw [unhide hD]
          exact ⟨_, rfl, .inl ⟨rfl, rfl⟩, ((unhide HB4).setCell (p := ⟨w.heap.size, 0, none⟩) (by simp) _).setCell (p := ⟨w.heap.size, 1, none⟩) (by simp) _⟩
end Go.Proofs.Ytkhpoomajebgoab

namespace Go.Proofs.Ytkhpoomajebgoab
open Go.RowKit Go.Shelf

end Go.Proofs.Ytkhpoomajebgoab

namespace Go.Proofs.Ytkhpoomajebgoab
open Go.RowKit Go.Shelf

set_option maxRecDepth 100000 in
set_option maxHeartbeats 2000000 in
theorem same8_any (st : Int) (b : List Nat) (u v : Value) (ga gb : Nat) (w : World) (hA : Arg w u ga b) (hB : Arg w v gb b) :
    Calls Try.prog 8 #[.agg #[.int .i64 st, u], .agg #[.int .i64 st, v]] w fun e w' => e = .returned (.bool true) ∧ Below w.heap.size w w' := by
  have HA := hide hA
  have HB := hide hB
  obtain ⟨⟨ao, ca, rfl, _⟩, _⟩ := hA
  obtain ⟨⟨bo, cb, rfl, _⟩, _⟩ := hB
  have HW : Hid (Below w.heap.size w ((w.alloc (.cells #[.int .i64 st, .slice ao b.length ca] 29)).alloc (.cells #[.int .i64 st, .slice bo b.length cb] 29))) := ((Below.refl _ w).alloc (Nat.le_refl _) _).alloc (by simp) _
  have P1 : Hid (PgB ((w.alloc (.cells #[.int .i64 st, .slice ao b.length ca] 29)).alloc (.cells #[.int .i64 st, .slice bo b.length cb] 29)) w.heap.size (.int .i64 st) (.slice ao b.length ca)) := (PgB.new _ _ _).below ((Below.refl _ _).alloc (Nat.le_refl _) _)
  have P2 : Hid (PgB ((w.alloc (.cells #[.int .i64 st, .slice ao b.length ca] 29)).alloc (.cells #[.int .i64 st, .slice bo b.length cb] 29)) (w.heap.size + 1) (.int .i64 st) (.slice bo b.length cb)) := by
    have h := PgB.new (w.alloc (.cells #[.int .i64 st, .slice ao b.length ca] 29)) (.int .i64 st) (.slice bo b.length cb)
    rwa [World.size_alloc] at h
  have c1 := conv_arg ((unhide HA).below (unhide HW))
  have c2 := conv_arg ((unhide HB).below (unhide HW))
  have heq := beq_self_eq_true (strOf (ints b)).toList
  go_enter Try.func8, Try.ntmps8
  go_wp2
  go_ret
  exact ⟨rfl, unhide HW⟩
end Go.Proofs.Ytkhpoomajebgoab

namespace Go.Proofs.Ytkhpoomajebgoab

theorem bf_wb (s : List Nat) (k : Nat) : cf (wb s) k = bf (cf s) k := cf_wb s k
theorem cf_wordA {s : List Nat} {j : Nat} (hj : j < 28) : cf (wordA s) j = cf s (j + 4) := by
  rw [wordA, ← cf_getD, List.getD_eq_getElem?_getD, List.getElem?_take, if_pos hj, List.getElem?_drop, ← List.getD_eq_getElem?_getD, cf_getD, Nat.add_comm]
theorem cf_wordB {s : List Nat} {j : Nat} : cf (wordB s) j = cf s (j + 32) := by rw [wordB, cf_drop, Nat.add_comm]
theorem bf_wordA {s : List Nat} {k : Nat} (hk : k < 224) : bf (cf (wordA s)) k = bf (cf s) (k + 32) := by
  unfold bf
  rw [cf_wordA (by omega), show (k + 32) / 8 = k / 8 + 4 from by omega, show (k + 32) % 8 = k % 8 from by omega]
theorem bf_wordB {s : List Nat} {k : Nat} : bf (cf (wordB s)) k = bf (cf s) (k + 256) := by
  unfold bf
  rw [cf_wordB, show (k + 256) / 8 = k / 8 + 32 from by omega, show (k + 256) % 8 = k % 8 from by omega]

/-- Places in a page: of the words', of the marker. -/
def psOf (A B M : List Nat) : List Nat := A.map (fun a => 32 + a) ++ B.map (fun b => 256 + b) ++ M
structure Pl8 (A B M : List Nat) : Prop where
  a : Pl A
  b : Pl B
  m : M.Nodup
  ml : ∀ k ∈ M, k < 32

theorem ps_A {A B M : List Nat} (h : Pl8 A B M) {k : Nat} (hk : k < 224) : k + 32 ∈ psOf A B M ↔ k ∈ A := by
  unfold psOf
  simp only [List.mem_append, List.mem_map]
  constructor
  · rintro ((⟨a, h1, h2⟩ | ⟨b, h1, h2⟩) | h1)
    · have : a = k := by omega
      rw [← this]; exact h1
    · omega
    · have := h.ml _ h1; omega
  · intro h1
    exact .inl (.inl ⟨k, h1, by omega⟩)
theorem ps_B {A B M : List Nat} (h : Pl8 A B M) {k : Nat} : k + 256 ∈ psOf A B M ↔ k ∈ B := by
  unfold psOf
  simp only [List.mem_append, List.mem_map]
  constructor
  · rintro ((⟨a, h1, h2⟩ | ⟨b, h1, h2⟩) | h1)
    · have := h.a.lt _ h1; omega
    · have : b = k := by omega
      rw [← this]; exact h1
    · have := h.ml _ h1; omega
  · intro h1
    exact .inl (.inr ⟨k, h1, by omega⟩)
theorem ps_M {A B M : List Nat} {k : Nat} (hk : k < 32) : k ∈ psOf A B M ↔ k ∈ M := by
  unfold psOf
  simp only [List.mem_append, List.mem_map]
  constructor
  · rintro ((⟨a, h1, h2⟩ | ⟨b, h1, h2⟩) | h1)
    · omega
    · omega
    · exact h1
  · intro h1
    exact .inr h1
theorem ps_nodup {A B M : List Nat} (h : Pl8 A B M) : (psOf A B M).Nodup := by
  unfold psOf
  rw [List.nodup_append, List.nodup_append]
  refine ⟨⟨?_, ?_, ?_⟩, h.m, ?_⟩
  · exact List.pairwise_map.2 (h.a.nd.imp (fun hne e => hne (by omega)))
  · exact List.pairwise_map.2 (h.b.nd.imp (fun hne e => hne (by omega)))
  · intro x hx y hy e
    obtain ⟨a, h1, rfl⟩ := List.mem_map.1 hx
    obtain ⟨b, h3, rfl⟩ := List.mem_map.1 hy
    have := h.a.lt _ h1
    omega
  · intro x hx y hy e
    subst e
    have := h.ml _ hy
    rcases List.mem_append.1 hx with h1 | h1
    · obtain ⟨a, _, h2⟩ := List.mem_map.1 h1; omega
    · obtain ⟨a, _, h2⟩ := List.mem_map.1 h1; omega

theorem bf_ps {A B M : List Nat} (h : Pl8 A B M) {s : List Nat} {k : Nat} (hk : k < 8 * s.length) : bf (cf (flipZ s (ints (psOf A B M)))) k = bf (cf s) k ^^^ (if k ∈ psOf A B M then 1 else 0) := by
  rw [bf_flipZ _ _ hk, count_ints (ps_nodup h)]
  split <;> rfl
theorem turned_A {A B M : List Nat} (h : Pl8 A B M) {s : List Nat} (hl : s.length = 60) (hb : Bs s) : wordA (flipZ s (ints (psOf A B M))) = flips (wordA s) A := by
  have hl2 : (flipZ s (ints (psOf A B M))).length = 60 := by rw [flipZ_len, hl]
  refine bytes_ext (by rw [flips_len, wordA_len hl2, wordA_len hl]) (wordA_bs (flipZ_bs hb _)) (flips_bs (wordA_bs hb) _) (fun k hk => ?_)
  rw [wordA_len hl2] at hk
  rw [bf_wordA (by omega), bf_ps h (by omega), ← bf_wb, ← bf_wb, wb_flips (fun j hj => by rw [wordA_len hl]; exact h.a.lt j hj) h.a.nd, bf_wb, bf_wb, bf_wordA (by omega)]
  simp only [ps_A h (show k < 224 by omega)]
theorem turned_B {A B M : List Nat} (h : Pl8 A B M) {s : List Nat} (hl : s.length = 60) (hb : Bs s) : wordB (flipZ s (ints (psOf A B M))) = flips (wordB s) B := by
  have hl2 : (flipZ s (ints (psOf A B M))).length = 60 := by rw [flipZ_len, hl]
  refine bytes_ext (by rw [flips_len, wordB_len hl2, wordB_len hl]) (wordB_bs (flipZ_bs hb _)) (flips_bs (wordB_bs hb) _) (fun k hk => ?_)
  rw [wordB_len hl2] at hk
  rw [bf_wordB, bf_ps h (by omega), ← bf_wb, ← bf_wb, wb_flips (fun j hj => by rw [wordB_len hl]; exact h.b.lt j hj) h.b.nd, bf_wb, bf_wb, bf_wordB]
  simp only [ps_B h]

theorem marks_eq (s : List Nat) : marks s = ((List.range 32).filter (fun k => bf (cf s) k == 1)).length := by
  unfold marks onF
  congr 1
  refine List.filter_congr (fun k hk => ?_)
  have hk := List.mem_range.1 hk
  unfold bf
  rw [← cf_getD (s.take 4), List.getD_eq_getElem?_getD, List.getElem?_take, if_pos (by omega), ← List.getD_eq_getElem?_getD, cf_getD]
theorem filter_mem_len {M : List Nat} (hn : M.Nodup) (hl : ∀ k ∈ M, k < 32) : ((List.range 32).filter (fun k => decide (k ∈ M))).length = M.length := by
  refine len_eq (List.Pairwise.filter _ List.nodup_range) hn (fun i => ?_)
  rw [List.mem_filter, List.mem_range, decide_eq_true_iff]
  exact ⟨fun h => h.2, fun h => ⟨hl i h, h⟩⟩

theorem cf_pageF {d : List Nat} {j : Nat} (hj : j < 4) : cf (pageF d) j = 0 := by
  rw [pageF, cf_append, if_pos (by simpa using hj), cf_replicate]
theorem pageF_A {d : List Nat} (h : d.length = 48) : wordA (pageF d) = encF (d.take 24) := by
  have hl : (encF (d.take 24)).length = 28 := encF_len (by rw [List.length_take, h]; rfl)
  rw [wordA, pageF, List.drop_left' (by simp), List.take_left' hl]
theorem pageF_B {d : List Nat} (h : d.length = 48) : wordB (pageF d) = encF (d.drop 24) := by
  have hl : (encF (d.take 24)).length = 28 := encF_len (by rw [List.length_take, h]; rfl)
  rw [wordB, pageF, ← List.append_assoc, List.drop_left' (by simp [hl])]
theorem marks_page {A B M : List Nat} (h : Pl8 A B M) {d : List Nat} (hd : d.length = 48) : marks (flipZ (pageF d) (ints (psOf A B M))) = M.length := by
  rw [marks_eq, ← filter_mem_len h.m h.ml]
  congr 1
  refine List.filter_congr (fun k hk => ?_)
  have hk := List.mem_range.1 hk
  rw [bf_ps h (by rw [pageF_len hd]; omega)]
  have h0 : bf (cf (pageF d)) k = 0 := by
    unfold bf
    rw [cf_pageF (by omega)]
    simp [bt]
  rw [h0, Nat.zero_xor]
  simp only [ps_M hk]
  by_cases hm : k ∈ M <;> simp [hm]

/-- **A payload's page, with places turned.** -/
theorem page_turned {A B M : List Nat} (h : Pl8 A B M) {d : List Nat} (hd : d.length = 48) (hb : Bs d) :
    (16 < M.length → pageD (flipZ (pageF d) (ints (psOf A B M))) = (0, [])) ∧
    (M.length ≤ 16 → A.length ≤ 3 → B.length ≤ 3 → pageD (flipZ (pageF d) (ints (psOf A B M))) = (2, d)) ∧
    (M.length ≤ 16 → (4 ≤ A.length ∧ A.length ≤ 5) ∨ (4 ≤ B.length ∧ B.length ≤ 5) → pageD (flipZ (pageF d) (ints (psOf A B M))) = (1, [])) := by
  have hl : (pageF d).length = 60 := pageF_len hd
  have hl2 : (flipZ (pageF d) (ints (psOf A B M))).length = 60 := by rw [flipZ_len, hl]
  have hbs := pageF_bs hb
  have eA : IsEnc (d.take 24) (encF (d.take 24)) := encF_is (bs_take hb _) (by rw [List.length_take, hd]; rfl)
  have eB : IsEnc (d.drop 24) (encF (d.drop 24)) := encF_is (bs_drop hb _) (by rw [List.length_drop, hd])
  have tA := turned_A h hl hbs
  have tB := turned_B h hl hbs
  rw [pageF_A hd] at tA
  rw [pageF_B hd] at tB
  have hm := marks_page h hd
  refine ⟨fun h1 => ?_, fun h1 hA hB => ?_, fun h1 hAB => ?_⟩
  · rw [pageD, if_neg (by rw [hl2]; simp), if_pos (by rw [hm]; exact h1)]
  · obtain ⟨a1, a2, _⟩ := dec_data eA h.a hA
    obtain ⟨b1, b2, _⟩ := dec_data eB h.b hB
    rw [pageD, if_neg (by rw [hl2]; simp), if_neg (by rw [hm]; omega), dataW, tA, tB, if_pos ⟨a1, b1⟩, a2, b2, List.take_append_drop]
  · rw [pageD, if_neg (by rw [hl2]; simp), if_neg (by rw [hm]; omega), tA, tB, if_neg]
    rintro ⟨k1, k2⟩
    rcases hAB with ⟨q1, q2⟩ | ⟨q1, q2⟩
    · exact dec_far eA.code h.a q1 q2 k1
    · exact dec_far eB.code h.b q1 q2 k2

theorem pl_nil : Pl [] := ⟨List.nodup_nil, by simp⟩
theorem page_back {d : List Nat} (hd : d.length = 48) (hb : Bs d) : pageD (pageF d) = (2, d) :=
  (page_turned (A := []) (B := []) (M := []) ⟨pl_nil, pl_nil, List.nodup_nil, by simp⟩ hd hb).2.1 (by simp) (by simp) (by simp)
theorem page_ones : (pageD (List.replicate 60 255)).1 = 0 := by
  have h : marks (List.replicate 60 255) = 32 := by decide +kernel
  rw [pageD, if_neg (by simp), if_pos (by rw [h]; omega)]
theorem page_noughts : (pageD (List.replicate 60 0)).1 = 2 := by
  have h : marks (List.replicate 60 0) = 0 := by decide +kernel
  have hA : wordA (List.replicate 60 0) = List.replicate 28 0 := by decide
  have hB : wordB (List.replicate 60 0) = List.replicate 28 0 := by decide
  have hz := (dec_near (l := []) zeros_code pl_nil (by simp)).1
  rw [show flips (List.replicate 28 0) [] = List.replicate 28 0 from rfl] at hz
  rw [pageD, if_neg (by simp), if_neg (by rw [h]; omega), hA, hB, if_pos ⟨hz, hz⟩]
theorem page_marked {m P d : List Nat} (hm : m.length = 4) (hP : encF (d.take 24) ++ encF (d.drop 24) = P) (hd : d.length = 48) (hb : Bs d) :
    (16 < (onF (cf m) 4).length → pageD (m ++ P) = (0, [])) ∧ (¬ 16 < (onF (cf m) 4).length → pageD (m ++ P) = (2, d)) := by
  have hPl : P.length = 56 := by rw [← hP, List.length_append, encF_len (by rw [List.length_take, hd]; rfl), encF_len (by rw [List.length_drop, hd])]
  have hl : (m ++ P).length = 60 := by rw [List.length_append, hm, hPl]
  have h1 : marks (m ++ P) = (onF (cf m) 4).length := by rw [marks, List.take_left' hm]
  have hA : wordA (m ++ P) = encF (d.take 24) := by
    rw [wordA, List.drop_left' hm, ← hP, List.take_left' (encF_len (by rw [List.length_take, hd]; rfl))]
  have hB : wordB (m ++ P) = encF (d.drop 24) := by
    rw [wordB, ← hP, ← List.append_assoc, List.drop_left' (by rw [List.length_append, hm, encF_len (by rw [List.length_take, hd]; rfl)])]
  have eA : IsEnc (d.take 24) (encF (d.take 24)) := encF_is (bs_take hb _) (by rw [List.length_take, hd]; rfl)
  have eB : IsEnc (d.drop 24) (encF (d.drop 24)) := encF_is (bs_drop hb _) (by rw [List.length_drop, hd])
  refine ⟨fun h => ?_, fun h => ?_⟩
  · rw [pageD, if_neg (by rw [hl]; simp), if_pos (by rw [h1]; exact h)]
  · obtain ⟨a1, a2, _⟩ := dec_data eA pl_nil (by simp)
    obtain ⟨b1, b2, _⟩ := dec_data eB pl_nil (by simp)
    rw [show flips (encF (d.take 24)) [] = encF (d.take 24) from rfl] at a1 a2
    rw [show flips (encF (d.drop 24)) [] = encF (d.drop 24) from rfl] at b1 b2
    rw [pageD, if_neg (by rw [hl]; simp), if_neg (by rw [h1]; exact h), dataW, hA, hB, if_pos ⟨a1, b1⟩, a2, b2, List.take_append_drop]
theorem pageD_bs {s : List Nat} (h : Bs s) : Bs (pageD s).2 := by
  unfold pageD
  split
  · exact Bs.nil
  split
  · exact Bs.nil
  split
  · exact dataW_bs h
  · exact Bs.nil
end Go.Proofs.Ytkhpoomajebgoab

namespace Go.Proofs.Ytkhpoomajebgoab
open Go.RowKit Go.Shelf

/-- Ones up to i, noughts from there on. -/
def onesF (i : Nat) : List Nat := (List.range 60).map (fun j => if j < i then 255 else 0)
theorem onesF_len (i : Nat) : (onesF i).length = 60 := by simp [onesF]
theorem onesF_0 : onesF 0 = List.replicate 60 0 := by decide
theorem onesF_60 : onesF 60 = List.replicate 60 255 := by decide
theorem onesF_set : ∀ i : Fin 60, (onesF i.val).set i.val 255 = onesF (i.val + 1) := by decide +kernel
theorem ones_bs (n : Nat) : Bs (List.replicate n 255) := Bs.of (fun x hx => by rw [(List.mem_replicate.1 hx).2]; omega)

theorem field_st (st : Int) (to : Option Addr) (n c : Nat) (w : World) : (Instr.field 29 (.agg #[.int .i64 st, .slice to n c]) 0).run Try.prog w = .ok (.int .i64 st) w := by kernel_rfl

set_option maxRecDepth 100000 in
set_option maxHeartbeats 4000000 in
theorem known8_any (w : World) : Calls Try.prog 4 #[] w fun e w' => e = .returned (.bool true) ∧ Below w.heap.size w w' := by
  have hmk : ∀ w : World, (Instr.makeSlice 22 (.int .i64 60) (.int .i64 60)).run Try.prog w = .ok (.slice (some ⟨w.heap.size, 0, none⟩) 60 60) (w.alloc (.cells (List.replicate 60 (Value.int .u8 0)).toArray 5)) := run_zeros 60 (by omega)
  have hmk8 : ∀ w : World, (Instr.makeSlice 22 (.int .i64 48) (.int .i64 48)).run Try.prog w = .ok (.slice (some ⟨w.heap.size, 0, none⟩) 48 48) (w.alloc (.cells (List.replicate 48 (Value.int .u8 0)).toArray 5)) := run_zeros 48 (by omega)
  have HZ := hide (fun W : World => zeros_arg 60 (by omega) W)
  have HZ8 := hide (fun W : World => zeros_arg 48 (by omega) W)
  have HBL := hide (blk_zeros 60 w)
  obtain ⟨z, hz⟩ : ∃ z, (List.replicate 60 (Value.int .u8 0)).toArray = z := ⟨_, rfl⟩
  obtain ⟨z8, hz8⟩ : ∃ z, (List.replicate 48 (Value.int .u8 0)).toArray = z := ⟨_, rfl⟩
  rw [hz] at HZ HBL
  rw [hz8] at HZ8
  simp only [hz] at hmk
  simp only [hz8] at hmk8
  clear hz hz8
  have HB1 : Hid (Below w.heap.size w (w.alloc (.cells z 5))) := (Below.refl _ w).alloc (Nat.le_refl _) _
  go_enter Try.func4, Try.ntmps4
  go_wp2_with fail
  go_loopw [2] (fun p wr => ∃ i : Nat, p = .int .i64 (i : Int) ∧ i ≤ 60 ∧ Blk wr w.heap.size (onesF i) ∧ Below w.heap.size w wr) (fun p _ => 60 - (intOf p).toNat)
  case atStart => exact ⟨0, rfl, by omega, by rw [onesF_0]; exact unhide HBL, unhide HB1⟩
  case round =>
    obtain ⟨i, rfl, hi, hB, hk⟩ := hrel
    have HB := hide hB
    have HK := hide hk
    by_cases hlt : i < 60
    · have hi1 : (i : Int) < 60 := by omega
      have hc := hB.cell (j := i) (by rw [onesF_len]; exact hlt)
      have hf := hB.free (j := i)
      clear hB hk
      go_wp2_with fail
      go_roundw
      case rel =>
        refine ⟨i + 1, by go_num, by omega, ?_, (unhide HK).setCell (p := ⟨w.heap.size, i, none⟩) (Nat.le_refl _) _⟩
        have h := (unhide HB).set i 255 (by rw [onesF_len]; exact hlt)
        rwa [onesF_set ⟨i, hlt⟩] at h
      case measure => simp [intOf]; omega
    · have hi2 : i = 60 := by omega
      subst hi2
      have HA : Hid (Arg wr (.slice (some ⟨w.heap.size, 0, none⟩) 60 60) w.heap.size (List.replicate 60 255)) := by
        have h := hB
        rw [onesF_60] at h
        have h2 := h.arg (c := 60) (ones_bs 60) (by simp) (by unfold maxLen; omega)
        rwa [List.length_replicate] at h2
      clear hB hk HB HBL
      go_wp2_with fail
      refine (pdecode_any _ _ _ _ (unhide HA)).mono ?_
      rintro e w2 ⟨v2, rfl, hF, hk⟩
      rw [page_ones]
      obtain ⟨to, tl, tc, hv⟩ : ∃ to tl tc, v2 = .slice to tl tc := by
        obtain ⟨to, tc, h⟩ := Fr.shape hF
        exact ⟨_, _, _, h⟩
      subst hv
      have HK2 := hide ((unhide HK).trans (hk.mono (unhide HK).size))
      have HA2 := hide (unhide HZ w2)
      have hfs := fun st to n c w => field_st st to n c w
      clear hF hk HA HK
      go_wp2_with fail
      refine (pdecode_any _ _ _ _ (unhide HA2)).mono ?_
      rintro e w3 ⟨v3, rfl, hF, hk⟩
      rw [page_noughts]
      obtain ⟨so, sl, sc, hv⟩ : ∃ to tl tc, v3 = .slice to tl tc := by
        obtain ⟨to, tc, h⟩ := Fr.shape hF
        exact ⟨_, _, _, h⟩
      subst hv
      have HK3 := hide ((unhide HK2).trans ((((Below.refl _ w2).alloc (Nat.le_refl _) (.cells z 5)).mono (unhide HK2).size).trans (hk.mono (by have := (unhide HK2).size; simp; omega))))
      have HA3 := hide (unhide HZ8 w3)
      clear hF hk HA2 HK2
      go_wp2_with fail
      refine (pencode_any _ _ _ _ (unhide HA3) (by simp)).mono ?_
      rintro e w4 ⟨v4, rfl, hF, hk⟩
      obtain ⟨ro, rc, hv⟩ := Fr.shape hF
      rw [pageF_len (by simp)] at hv
      subst hv
      have HK4 := hide ((unhide HK3).trans ((((Below.refl _ w3).alloc (Nat.le_refl _) (.cells z8 5)).mono (unhide HK3).size).trans (hk.mono (by have := (unhide HK3).size; simp; omega))))
      clear hF hk HA3 HK3
      go_wp2
      go_ret
      exact ⟨rfl, unhide HK4⟩
end Go.Proofs.Ytkhpoomajebgoab

namespace Go.Proofs.Ytkhpoomajebgoab
open Go.RowKit Go.Shelf

/-- What stands there behind a copy. -/
def copyF (t s : List Nat) : List Nat := s.take t.length ++ t.drop s.length
theorem copyF_len (t s : List Nat) : (copyF t s).length = t.length := by
  rw [copyF, List.length_append, List.length_take, List.length_drop]; omega
theorem copyF_bs {t s : List Nat} (ht : Bs t) (hs : Bs s) : Bs (copyF t s) := bs_append (bs_take hs _) (bs_drop ht _)
theorem copy_blk (w : World) (q cq : Nat) (t : List Nat) (hq : Blk w q t) (ao : Option Addr) (n2 c2 g : Nat) (s : List Nat) (hA : Arg w (.slice ao n2 c2) g s) (ty : TypeId) :
    ∃ w', (Builtin.copy_ #[22, 22] ty #[.slice (some ⟨q, 0, none⟩) t.length cq, .slice ao n2 c2]).run Try.prog w = .ok (goInt ((min s.length t.length : Nat) : Int)) w' ∧ Blk w' q (copyF t s) ∧ Kp [q] w w' := by
  obtain ⟨⟨ao', c', h1, h2, h3, h4, h5⟩, hb⟩ := hA
  cases h1
  cases ao with
  | none =>
    have hc : c2 = 0 := h4 rfl
    have hs : s = [] := List.eq_nil_of_length_eq_zero (by omega)
    subst hs hc
    refine ⟨w, ?_, ?_, Kp.refl _ _⟩
    · have h := run_copy_nil (P := Try.prog) w 22 22 ty 5 ⟨q, 0, none⟩ t.length cq Try.underlying22 (by kernel_rfl)
      simpa using h
    · have e : copyF t [] = t := by simp [copyF]
      rw [e]; exact hq
  | some ad =>
    obtain ⟨cur, hc, hcur⟩ := hq
    have hsz : t.length ≤ cur.size := by
      by_cases h0 : t.length = 0
      · omega
      · have := hcur (t.length - 1) (by omega)
        have := (Array.getElem?_eq_some_iff.1 this).1
        omega
    have hl : (((ints (s.take t.length)).map (Value.int .u8)) : List Value).length = min s.length t.length := by rw [List.length_map, ints_len, List.length_take, Nat.min_comm]
    have hr := run_copy_row (P := Try.prog) w 22 22 ty 5 q 0 t.length cq ad s.length c2 cur 5 ((ints (s.take t.length)).map (Value.int .u8)) Try.underlying22 sizeE hc (by rw [hl]) (by
      intro j v hv
      have hj : j < min s.length t.length := by have := (List.getElem?_eq_some_iff.1 hv).1; omega
      obtain ⟨o, ho⟩ := row_some h5 (by omega)
      cases ho
      rw [Addr.add_lit, row_cell h5 (by omega)]
      rw [List.getElem?_map, ints, List.getElem?_map, cf_get (by rw [List.length_take]; omega), cf_take, if_pos (by omega)] at hv
      simpa using hv) (by rw [hl]; omega) (ints_oneCell .u8 _)
    rw [hl] at hr
    refine ⟨_, hr, ⟨_, setRow_heap w q cur _ 5 _ hc, fun j hj => ?_⟩, ⟨rfl, rfl, rfl, by simp [World.setRow], fun k hk hn => ?_⟩⟩
    · rw [copyF_len] at hj
      have hlt : (s.take t.length).length = min t.length s.length := List.length_take
      rw [List.getElem?_toArray, List.take_zero, List.nil_append]
      by_cases h4 : j < s.length
      · rw [List.getElem?_append_left (by rw [hl]; omega), List.getElem?_map, ints, List.getElem?_map, cf_get (by rw [hlt]; omega), copyF, cf_append, if_pos (by rw [hlt]; omega)]
        rfl
      · rw [List.getElem?_append_right (by rw [hl]; omega), hl, List.getElem?_drop, Array.getElem?_toList, show 0 + min s.length t.length + (j - min s.length t.length) = j from by omega, hcur j (by omega), copyF, cf_append, if_neg (by rw [hlt]; omega), cf_drop, hlt, show s.length + (j - min t.length s.length) = j from by omega]
    · exact setRow_other w q k _ (by simpa using hn)
end Go.Proofs.Ytkhpoomajebgoab

namespace Go.Proofs.Ytkhpoomajebgoab
open Go.RowKit

def dataB (b : List Nat) (j : Nat) : Nat := (cf b (j % b.length) + j / b.length) % 256
def dataP (b : List Nat) (n i : Nat) : List Nat := (List.range n).map (fun j => if j < i ∧ 0 < b.length then dataB b j else 0)
/-- So many bytes, of raw ones. -/
def dataF (b : List Nat) (n : Nat) : List Nat := dataP b n n
theorem dataP_len (b : List Nat) (n i : Nat) : (dataP b n i).length = n := by simp [dataP]
theorem dataF_len (b : List Nat) (n : Nat) : (dataF b n).length = n := dataP_len b n n
theorem cf_dataP {b : List Nat} {n i j : Nat} (hj : j < n) : cf (dataP b n i) j = if j < i ∧ 0 < b.length then dataB b j else 0 := by
  rw [← cf_getD, List.getD_eq_getElem?_getD, dataP, List.getElem?_map, List.getElem?_range hj]
  rfl
theorem dataP_0 (b : List Nat) (n : Nat) : List.replicate n 0 = dataP b n 0 := by
  refine eq_of_cf (by rw [List.length_replicate, dataP_len]) (fun j => ?_)
  by_cases hj : j < n
  · rw [cf_replicate, cf_dataP hj, if_neg (by omega)]
  · rw [cf_replicate, cf_ge (by rw [dataP_len]; omega)]
theorem dataP_none {b : List Nat} (h : b.length = 0) (n i : Nat) : dataP b n i = dataF b n := by
  unfold dataF dataP
  rw [h]
  simp
theorem dataP_set {b : List Nat} {n i : Nat} (hi : i < n) (h0 : 0 < b.length) : (dataP b n i).set i (dataB b i) = dataP b n (i + 1) := by
  refine eq_of_cf (by rw [List.length_set, dataP_len, dataP_len]) (fun j => ?_)
  rw [cf_set _ _ _ _ (by rw [dataP_len]; exact hi)]
  by_cases hj : j < n
  · by_cases e : j = i
    · rw [if_pos e, cf_dataP hj, e, if_pos ⟨by omega, h0⟩]
    · rw [if_neg e, cf_dataP hj, cf_dataP hj]
      by_cases hl : j < i
      · rw [if_pos ⟨hl, h0⟩, if_pos ⟨by omega, h0⟩]
      · rw [if_neg (by omega), if_neg (by omega)]
  · rw [if_neg (by omega), cf_ge (by rw [dataP_len]; omega), cf_ge (by rw [dataP_len]; omega)]
theorem dataF_bs (b : List Nat) (n : Nat) : Bs (dataF b n) := fun j => by
  by_cases hj : j < n
  · rw [dataF, cf_dataP hj]
    split
    · unfold dataB; omega
    · omega
  · rw [cf_ge (by rw [dataF_len]; omega)]; omega

set_option maxRecDepth 100000 in
set_option maxHeartbeats 4000000 in
theorem data_det (v : Value) (g : Nat) (b : List Nat) (n : Nat) (hn : n ≤ 100) (w : World) (hA : Arg w v g b) :
    Calls Try.prog 6 #[v, .int .i64 (n : Int)] w fun e w' => ∃ v', e = .returned v' ∧ Fr w.heap.size w' v' (dataF b n) ∧ Below w.heap.size w w' := by
  obtain ⟨⟨ao, c, rfl, hc1, hc2, hnil, hr⟩, hbs⟩ := hA
  have HR := hide hr
  clear hr hnil
  have hmk := run_zeros n (by omega)
  have HZ := hide (blk_zeros n w)
  have HK1 : Hid (Kp [] w (w.alloc (.cells (List.replicate n (Value.int .u8 0)).toArray 5))) := (Kp.refl [] w).alloc _
  obtain ⟨L, hL⟩ : ∃ L, b.length = L := ⟨_, rfl⟩
  rw [hL] at hc1 ⊢
  have HL := hide hL
  clear hL
  have hLm : (L : Int) ≤ 9223372036854775807 := by unfold maxLen at hc2; omega
  go_enter Try.func6, Try.ntmps6
  go_wp2_with fail
  clear hmk
  go_loopw [6] (fun p wr => ∃ (i : Nat) (s : List Nat), p = .int .i64 i ∧ i ≤ n ∧ s.length = n ∧ Bs s ∧ Blk wr w.heap.size s ∧ Kp [] w wr ∧ s = dataP b n i) (fun p _ => n - (intOf p).toNat)
  case atStart => exact ⟨0, _, rfl, by omega, by simp, Bs.zeros _, unhide HZ, unhide HK1, dataP_0 b n⟩
  case round =>
    obtain ⟨i, s, rfl, hi, hsl, hsb, hB, hK, hsd⟩ := hrel
    have HSD := hide hsd
    clear hsd
    have HB := hide hB
    have HK := hide hK
    have HSB := hide hsb
    clear hB hK hsb
    by_cases hlt : i < n
    · have hi1 : (i : Int) < (n : Int) := by omega
      by_cases hL0 : 0 < L
      · have hL1 : (0 : Int) < (L : Int) := by omega
        have hL2 : ¬ (L : Int) = 0 := by omega
        have hL3 : ¬ L = 0 := by omega
        obtain ⟨o, rfl⟩ := row_some (unhide HR) (by rw [unhide HL]; exact hL0)
        obtain ⟨m, hm⟩ : ∃ m, i % L = m := ⟨_, rfl⟩
        obtain ⟨q, hq⟩ : ∃ q, i / L = q := ⟨_, rfl⟩
        have hmL : m < L := by rw [← hm]; exact Nat.mod_lt _ hL0
        have hqi : q ≤ i := by rw [← hq]; exact Nat.div_le_self _ _
        have q1 : (i : Int).tmod (L : Int) = (m : Int) := by rw [Int.tmod_eq_emod_of_nonneg (by omega), ← hm]; simp
        have q2 : (i : Int).tdiv (L : Int) = (q : Int) := by rw [Int.tdiv_eq_ediv_of_nonneg (by omega), ← hq]; simp
        have q2' : (i : Int) / (L : Int) = (q : Int) := by rw [← hq]; simp
        have q1' : (i : Int) % (L : Int) = (m : Int) := by rw [← hm]; simp
        have q3 : IntKind.i64.wrap (q : Int) = (q : Int) := IntWalk.i64_in _ ⟨by omega, by omega⟩
        have q4 : IntKind.u8.wrap (q : Int) = (q : Int) := wraps_u8 _ (by omega) (by omega)
        have hm1 : (m : Int) < (L : Int) := by omega
        have hcm := row_cell (unhide HR) (j := m) (by rw [unhide HL]; exact hmL)
        have hgl := block_lt_of_cell hcm
        dsimp only at hgl
        have HC := hide ((unhide HK).cell hcm (by simp))
        have hcx := hbs m
        obtain ⟨x, hx⟩ : ∃ x, cf b m = x := ⟨_, rfl⟩
        rw [hx] at HC hcx
        have q5 : IntKind.u8.wrap ((x : Int) + (q : Int)) = (((x + q) % 256 : Nat) : Int) := by rw [wrap_u8]; omega
        have HE : Hid ((x + q) % 256 = dataB b i) := by show _ = _; unfold dataB; rw [unhide HL, hm, hq, hx]
        clear hm hq hcm hx
        go_wp2_with fail
        refine wp_region_noPanic ?_
        refine wp_region_held_drew (S := fun W => Kp [w.heap.size] wr W) (by kernel_rfl) ((Kp.refl _ _).drew) (fun hHeld => ?_)
        have HH := hide hHeld
        clear hHeld
        refine takeL (i := 0) (v := ?_) rfl (by kernel_rfl) (by kernel_rfl) (by kernel_rfl) (fun _ _ _ h => h) (Or.inl ⟨by rfl, ?_⟩) (unhide HH) ?_
        rotate_left 1
        · intro W hSW; go_simp; all_goals (with_reducible rfl)
        (try simp only [Act.put, List.setIfInBounds_toArray, List.set_cons_zero, List.set_cons_succ])
        refine takeL (i := 1) (v := ?_) rfl (by kernel_rfl) (by kernel_rfl) (by kernel_rfl) (fun _ _ _ h => h) (Or.inl ⟨by rfl, ?_⟩) (unhide HH) ?_
        rotate_left 1
        · intro W hSW; go_simp; all_goals (with_reducible rfl)
        (try simp only [Act.put, List.setIfInBounds_toArray, List.set_cons_zero, List.set_cons_succ])
        refine takeL (i := 2) (v := ?_) rfl (by kernel_rfl) (by kernel_rfl) (by kernel_rfl) (fun _ _ _ h => h) (Or.inl ⟨by rfl, ?_⟩) (unhide HH) ?_
        rotate_left 1
        · intro W hSW; go_simp; all_goals (with_reducible rfl)
        (try simp only [Act.put, List.setIfInBounds_toArray, List.set_cons_zero, List.set_cons_succ])
        refine takeL (i := 3) (v := ?_) rfl (by kernel_rfl) (by kernel_rfl) (by kernel_rfl) (fun _ _ _ h => h) (Or.inl ⟨by rfl, ?_⟩) (unhide HH) ?_
        rotate_left 1
        · intro W hSW; go_simp; all_goals (with_reducible rfl)
        (try simp only [Act.put, List.setIfInBounds_toArray, List.set_cons_zero, List.set_cons_succ])
        refine takeL (i := 4) (v := ?_) rfl (by kernel_rfl) (by kernel_rfl) (by kernel_rfl) (fun _ _ _ h => h) (Or.inl ⟨by rfl, ?_⟩) (unhide HH) ?_
        rotate_left 1
        · intro W hSW; go_simp; all_goals (with_reducible rfl)
        (try simp only [Act.put, List.setIfInBounds_toArray, List.set_cons_zero, List.set_cons_succ])
        refine takeL (i := 5) (v := ?_) rfl (by kernel_rfl) (by kernel_rfl) (by kernel_rfl) (fun _ _ _ h => h) (Or.inl ⟨by rfl, ?_⟩) (unhide HH) ?_
        rotate_left 1
        · intro W hSW; go_simp; all_goals (with_reducible rfl)
        (try simp only [Act.put, List.setIfInBounds_toArray, List.set_cons_zero, List.set_cons_succ])
        refine takeL (i := 6) (v := ?_) rfl (by kernel_rfl) (by kernel_rfl) (by kernel_rfl) (fun _ _ _ h => h) (Or.inl ⟨by rfl, ?_⟩) (unhide HH) ?_
        rotate_left 1
        · intro W hSW; go_simp; all_goals (with_reducible rfl)
        (try simp only [Act.put, List.setIfInBounds_toArray, List.set_cons_zero, List.set_cons_succ])
        refine takeL (i := 7) (v := ?_) rfl (by kernel_rfl) (by kernel_rfl) (by kernel_rfl) (fun _ _ _ h => h) (Or.inl ⟨by rfl, ?_⟩) (unhide HH) ?_
        rotate_left 1
        · intro W hSW; go_simp; all_goals (with_reducible rfl)
        (try simp only [Act.put, List.setIfInBounds_toArray, List.set_cons_zero, List.set_cons_succ])
        refine takeL (i := 8) (v := ?_) rfl (by kernel_rfl) (by kernel_rfl) (by kernel_rfl) (fun _ _ _ h => h) (Or.inl ⟨by rfl, ?_⟩) (unhide HH) ?_
        rotate_left 1
        · intro W1 hSW; have hc := hSW.cell (unhide HC) (by simp; omega); clear hSW; go_simp; all_goals (with_reducible rfl)
        (try simp only [Act.put, List.setIfInBounds_toArray, List.set_cons_zero, List.set_cons_succ])
        refine takeL (i := 9) (v := ?_) rfl (by kernel_rfl) (by kernel_rfl) (by kernel_rfl) (fun _ _ _ h => h) (Or.inl ⟨by rfl, ?_⟩) (unhide HH) ?_
        rotate_left 1
        · intro W hSW; go_simp; all_goals (with_reducible rfl)
        (try simp only [Act.put, List.setIfInBounds_toArray, List.set_cons_zero, List.set_cons_succ])
        refine takeL (i := 10) (v := ?_) rfl (by kernel_rfl) (by kernel_rfl) (by kernel_rfl) (fun _ _ _ h => h) (Or.inl ⟨by rfl, ?_⟩) (unhide HH) ?_
        rotate_left 1
        · intro W hSW; go_simp; all_goals (with_reducible rfl)
        (try simp only [Act.put, List.setIfInBounds_toArray, List.set_cons_zero, List.set_cons_succ])
        refine takeL (i := 11) (v := ?_) rfl (by kernel_rfl) (by kernel_rfl) (by kernel_rfl) (fun _ _ _ h => h) (Or.inl ⟨by rfl, ?_⟩) (unhide HH) ?_
        rotate_left 1
        · intro W hSW; go_simp; all_goals (with_reducible rfl)
        (try simp only [Act.put, List.setIfInBounds_toArray, List.set_cons_zero, List.set_cons_succ])
        refine takeL (i := 12) (v := ?_) rfl (by kernel_rfl) (by kernel_rfl) (by kernel_rfl) (fun _ _ _ h => h) (Or.inl ⟨by rfl, ?_⟩) (unhide HH) ?_
        rotate_left 1
        · intro W hSW; go_simp; all_goals (with_reducible rfl)
        (try simp only [Act.put, List.setIfInBounds_toArray, List.set_cons_zero, List.set_cons_succ])
        refine takeL (i := 13) (v := ?_) rfl (by kernel_rfl) (by kernel_rfl) (by kernel_rfl) (fun _ _ _ h => h) (Or.inl ⟨by rfl, ?_⟩) (unhide HH) ?_
        rotate_left 1
        · intro W hSW; go_simp; all_goals (with_reducible rfl)
        (try simp only [Act.put, List.setIfInBounds_toArray, List.set_cons_zero, List.set_cons_succ])
        refine takeL (i := 14) (v := ?_) rfl (by kernel_rfl) (by kernel_rfl) (by kernel_rfl) (fun _ _ _ h => h) (Or.inl ⟨by rfl, ?_⟩) (unhide HH) ?_
        rotate_left 1
        · intro W hSW; go_simp; all_goals (with_reducible rfl)
        (try simp only [Act.put, List.setIfInBounds_toArray, List.set_cons_zero, List.set_cons_succ])
        refine takeL (i := 15) (v := ?_) rfl (by kernel_rfl) (by kernel_rfl) (by kernel_rfl) (fun _ _ _ h => h) (Or.inl ⟨by rfl, ?_⟩) (unhide HH) ?_
        rotate_left 1
        · intro W hSW; go_simp; all_goals (with_reducible rfl)
        (try simp only [Act.put, List.setIfInBounds_toArray, List.set_cons_zero, List.set_cons_succ])
        refine wpAnyH_ready (rs := [16]) (by kernel_rfl) (by simp) ?_
        refine consL rfl (fun K hK => ?_) AllReadyH.nil
        have hc4 := ((unhide HB).of (w' := wr.drew) rfl).cell (j := i) (by omega)
        have hf4 := ((unhide HB).of (w' := wr.drew) rfl).free (j := i)
        have HH2 := HH
        go_simp
        refine hK.out _ _ ((unhide HH2).setCell ⟨w.heap.size, i, none⟩ _ (.inl (by simp))) (fun hHeld => ?_)
        clear hHeld hK K hc4 hf4
        (try simp only [Act.put, List.setIfInBounds_toArray, List.set_cons_zero, List.set_cons_succ])
        refine wpAnyH_done (by kernel_rfl) ?_ _
        refine NoPanic.normal ?_
        go_wp2_with fail
        go_roundw
        case rel =>
          refine ⟨i + 1, s.set i ((x + q) % 256), by go_num, by omega, by simp [hsl], ?_, ?_, ?_, by rw [unhide HSD, unhide HE]; exact dataP_set hlt (by rw [unhide HL]; exact hL0)⟩
          · intro j
            rw [cf_set _ _ _ _ (by omega)]
            split
            · omega
            · exact unhide HSB j
          · exact ((unhide HB).of (w' := wr.drew) rfl).set i _ (by omega)
          · exact (unhide HK).drew.setCell _ _ (.inr (Nat.le_refl _))
        case measure => simp [intOf]; omega
      · have hL2 : L = 0 := by omega
        subst hL2
        go_wp2
        go_ret
        have hs0 : s = dataF b n := by rw [unhide HSD]; exact dataP_none (unhide HL) n i
        rw [← hs0]
        exact ⟨_, rfl, .inr ⟨w.heap.size, n, by rw [hsl]; rfl, by omega, by unfold maxLen; omega, unhide HB, Nat.le_refl _⟩, (unhide HK).below⟩
    · have hi2 : i = n := by omega
      subst hi2
      go_wp2
      go_ret
      have hs0 : s = dataF b i := unhide HSD
      rw [← hs0]
      exact ⟨_, rfl, .inr ⟨w.heap.size, i, by rw [hsl]; rfl, by omega, by unfold maxLen; omega, unhide HB, Nat.le_refl _⟩, (unhide HK).below⟩

end Go.Proofs.Ytkhpoomajebgoab
