/-
  The walk of PageHalves.
-/
import Derived.Test.YtkhpoomajebgoaaMaz
import Derived.Test.YtkhpoomajebgoaaMaj
import Derived.Test.YtkhpoomajebgoaaMax
namespace Go.Proofs.Ytkhpoomajebgoaa
open Go.RowKit Go.Shelf

/-- So many of the numbers with off added. -/
def shl (off i : Nat) (ps : List Nat) : List Nat := (ps.take i).map (fun k => k + off) ++ ps.drop i
theorem shl_0 (off : Nat) (ps : List Nat) : shl off 0 ps = ps := by simp [shl]
theorem shl_all (off : Nat) (ps : List Nat) : shl off ps.length ps = ps.map (fun k => k + off) := by simp [shl]
theorem shl_get {off i : Nat} {ps : List Nat} (h : i < ps.length) : (shl off i ps)[i]? = some (cf ps i) := by
  unfold shl
  rw [List.getElem?_append_right (by rw [List.length_map, List.length_take]; omega), List.length_map, List.length_take, List.getElem?_drop, Nat.min_eq_left (by omega), Nat.sub_self, Nat.add_zero]
  exact cf_get h
theorem shl_set {off i : Nat} {ps : List Nat} (h : i < ps.length) : (shl off i ps).set i (cf ps i + off) = shl off (i + 1) ps := by
  have hl : ((ps.take i).map (fun k => k + off)).length = i := by rw [List.length_map, List.length_take]; omega
  have hg := cf_get h
  obtain ⟨h1, h2⟩ := List.getElem?_eq_some_iff.1 hg
  unfold shl
  rw [List.set_append_right _ _ (by omega), hl, Nat.sub_self, List.drop_eq_getElem_cons h, List.set_cons_zero, List.take_succ_eq_append_getElem h, List.map_append, List.append_assoc]
  simp [h2]
theorem shl_vals {off i : Nat} {ps : List Nat} (h : i < ps.length) : ((ints (shl off i ps)).map (Value.int .i64))[i]? = some (.int .i64 ((cf ps i : Nat) : Int)) := by
  rw [ints, List.map_map, List.getElem?_map, shl_get h]
  rfl
theorem shl_stored {off i : Nat} {ps : List Nat} (h : i < ps.length) : ((ints (shl off i ps)).map (Value.int .i64)).set i (.int .i64 ((cf ps i + off : Nat) : Int)) = (ints (shl off (i + 1) ps)).map (Value.int .i64) := by
  rw [← shl_set h, ints, ints, List.map_map, List.map_map, List.map_set]
  rfl

set_option maxRecDepth 100000 in
set_option maxHeartbeats 8000000 in
theorem halves_f (va vb : Value) (ga gb : Nat) (a b : List Nat) (w : World) (hA : Arg w va ga a) (hB : Arg w vb gb b) (ao1 : Option Addr) (g1 len1 cap1 : Nat) (zs : List Int) (hz1 : zs.length = len1) (hr1 : IRow w ao1 g1 zs) (hcp1 : len1 ≤ cap1) (hm1 : cap1 ≤ maxLen) (hbo1 : ∀ z ∈ zs, -9223372036854775808 ≤ z ∧ z ≤ 9223372036854775807) :
    Calls Try.prog 6 #[va, vb, .slice ao1 len1 cap1, .bool false] w fun x w' => x = .returned (.bool true) ∧ Below w.heap.size w w' := by
  have HA := hide hA
  have HB := hide hB
  have HL1 := hide hr1
  clear hr1
  obtain ⟨⟨ao, c, rfl, _⟩, _⟩ := hA
  obtain ⟨⟨bo, cb, rfl, _⟩, _⟩ := hB
  go_enter Try.func6, Try.ntmps6
  go_wp2_with fail
  refine (known8_any _).mono ?_
  rintro e w1 ⟨rfl, hk⟩
  replace HA := hide ((unhide HA).below hk)
  replace HB := hide ((unhide HB).below hk)
  replace HL1 := hide (IRow.below hk (unhide HL1))
  have HT := hide hk
  clear hk
  go_wp2_with fail
  refine (data_any _ _ a 24 (by omega) _ (unhide HA)).mono ?_
  rintro e w2 ⟨v2, x, rfl, hlx, hbx, hF, hk⟩
  replace HB := hide ((unhide HB).below hk)
  replace HL1 := hide (IRow.below hk (unhide HL1))
  replace HT := hide ((unhide HT).trans (hk.mono (unhide HT).size))
  obtain ⟨g2, xc, hv, h21, h22, h23, h24⟩ := hF.blk (by intro e; rw [e] at hlx; simp at hlx)
  have hX := h23.arg hbx h21 h22
  rw [hlx] at hv hX
  subst hv
  have HX := hide hX
  clear hF hk HA hX h21 h22 h23 h24
  go_wp2_with fail
  refine (data_any _ _ b 24 (by omega) _ (unhide HB)).mono ?_
  rintro e w3 ⟨v3, y, rfl, hly, hby, hF, hk⟩
  replace HX := hide ((unhide HX).below hk)
  replace HL1 := hide (IRow.below hk (unhide HL1))
  replace HT := hide ((unhide HT).trans (hk.mono (unhide HT).size))
  obtain ⟨g3, yc, hv, h31, h32, h33, h34⟩ := hF.blk (by intro e; rw [e] at hly; simp at hly)
  have hY := h33.arg hby h31 h32
  rw [hly] at hv hY
  subst hv
  have HY := hide hY
  have HE3 := hide (empty_owns' w3)
  have HAL : Hid (Below w3.heap.size w3 (w3.alloc (.cells #[] 5))) := (Below.refl _ w3).alloc (Nat.le_refl _) _
  have HXR := hide (arg_row ((unhide HX).below (unhide HAL)))
  have HLX : Hid ((ints x).length = 24) := by show _ = _; rw [ints_len, hlx]
  have HLY : Hid ((ints y).length = 24) := by show _ = _; rw [ints_len, hly]
  obtain ⟨i0, hi0, hz0, hzz1, hz2⟩ := info_parts infoE
  have HI := hide hi0
  have hw3 := (unhide HT).size
  clear hF hk HB hY h31 h32 h33 h34 hi0
  go_wp2_with (at_builtin; refine wpList_append_row _ rfl _ _ 22 rfl w3.heap.size 5 i0 Try.underlying22 (unhide HI) hz0 hzz1 hz2 (.slice (some ⟨w3.heap.size, 0, none⟩) 0 0) 0 _ rfl (unhide HE3) (some ⟨g2, 0, none⟩) g2 24 xc (ints x) rfl (unhide HLX) (unhide HXR) (fun h => by cases h) (by omega) (by simp) ?_)
  intro v' w4 ho hg _
  obtain ⟨g4, cap4, rfl⟩ := ownsRow_succ (k := 23) ho
  have HO4 : Hid (w4.ownsRow w3.heap.size 5 1 (.slice (some ⟨g4, 0, none⟩) 24 cap4) 24 ((ints x).map (Value.int .u8))) := by
    have h := ho
    rw [show (ints ([] : List Nat)).map (Value.int .u8) = [] from rfl, List.nil_append] at h
    exact h
  have HK4 : Hid (Below w3.heap.size w3 w4) := (unhide HAL).grown hg (by simp) (fun k e => by cases e; exact Nat.le_refl _)
  have HYR := hide (arg_row ((unhide HY).below (unhide HK4)))
  have hw4 := (unhide HK4).size
  clear ho hg HXR HE3 HAL
  go_wp2_with (at_builtin; refine wpList_append_row _ rfl _ _ 22 rfl w3.heap.size 5 i0 Try.underlying22 (unhide HI) hz0 hzz1 hz2 (.slice (some ⟨g4, 0, none⟩) 24 cap4) 24 _ rfl (unhide HO4) (some ⟨g3, 0, none⟩) g3 24 yc (ints y) rfl (unhide HLY) (unhide HYR) (fun h => by cases h) (by omega) (by omega) ?_)
  intro v' w5 ho hg _
  have ho2 := app_owns (n := 24) (m := 24) (a := x) ho
  obtain ⟨g5, cap5, rfl⟩ := ownsRow_succ (k := 47) ho2
  have HK5 : Hid (Below w3.heap.size w3 w5) := (unhide HK4).grown hg hw4 (fun k e => (unhide HO4).lt k e |>.1)
  have hF := (owns_fr ho2).2
  replace HL1 := hide (IRow.below (unhide HK5) (unhide HL1))
  replace HT := hide ((unhide HT).trans ((unhide HK5).mono hw3))
  obtain ⟨d, hd⟩ : ∃ d, x ++ y = d := ⟨_, rfl⟩
  have hld : d.length = 48 := by rw [← hd, List.length_append, hlx, hly]
  have hbd : Bs d := by rw [← hd]; exact bs_append hbx hby
  rw [hd] at hF
  have HD : Hid (Arg w5 (.slice (some ⟨g5, 0, none⟩) 48 cap5) g5 d) := by
    obtain ⟨q, cq, hv, h1, h2, h3, h4⟩ := hF.blk (by intro e; rw [e] at hld; simp at hld)
    rw [hld] at hv
    cases hv
    have h := h3.arg (c := cap5) hbd h1 h2
    rwa [hld] at h
  clear ho ho2 hg hF HX HY HYR HO4 HK4 HK5 hd HI hw4 hw3
  go_wp2_with fail
  refine (pencode_any _ g5 d _ (unhide HD) hld).mono ?_
  rintro e w6 ⟨v6, rfl, hF, hk⟩
  replace HD := hide ((unhide HD).below hk)
  replace HL1 := hide (IRow.below hk (unhide HL1))
  replace HT := hide ((unhide HT).trans (hk.mono (unhide HT).size))
  obtain ⟨g6, hE, _⟩ := hF.arg (pageF_bs hbd)
  have HE := hide hE
  obtain ⟨eo, ec, hv⟩ := Fr.shape hF
  rw [pageF_len hld] at hv
  subst hv
  clear hF hk hE
  go_wp2_with fail
  refine (places_any ao1 g1 len1 cap1 zs hz1 (unhide HL1) hcp1 hm1 hbo1 224 5 (by omega) (by omega) (by omega)).mono ?_
  rintro e w7 ⟨v7, ps, rfl, hnd, hps, hpl, hO, hk⟩
  have HK67 := hide hk
  have hwk := hk.size
  have HPL : Hid (Pl8 ps [] []) := ⟨⟨hnd, hps⟩, pl_nil, List.nodup_nil, by simp⟩
  obtain ⟨po, pc, hv⟩ : ∃ po pc, v7 = .slice po ps.length pc := by
    rcases hO.shape with ⟨h1, h2⟩ | ⟨g, cap, h1, _⟩
    · exact ⟨none, 0, by rw [h1, h2]; rfl⟩
    · exact ⟨_, _, h1⟩
  subst hv
  have HO : Hid (w7.ownsRow w6.heap.size 3 1 (.slice po ps.length pc) ps.length ((ints (shl 32 0 ps)).map (Value.int .i64))) := by rw [shl_0]; exact hO
  have HLT := hide hps
  clear hO hk hnd HL1 hps
  have hpsm : (ps.length : Int) ≤ 5 := by omega
  have HP5 := hide hpl
  clear hpl
  go_wp2_with fail
  go_loopw [15] (fun p wr => ∃ i : Nat, p = .int .i64 (i : Int) ∧ i ≤ ps.length ∧ wr.ownsRow w6.heap.size 3 1 (.slice po ps.length pc) ps.length ((ints (shl 32 i ps)).map (Value.int .i64)) ∧ Below w6.heap.size w7 wr) (fun p _ => ps.length - (intOf p).toNat)
  case atStart => exact ⟨0, rfl, by omega, unhide HO, (Below.refl _ w7).mono hwk⟩
  case round =>
    obtain ⟨i, rfl, hi, hO, hK⟩ := hrel
    have HO := hide hO
    have HK := hide hK
    by_cases hlt : i < ps.length
    · have hi1 : (i : Int) < (ps.length : Int) := by omega
      obtain ⟨gz, hgz, hgb⟩ : ∃ gz, po = some ⟨gz, 0, none⟩ ∧ w6.heap.size ≤ gz := by
        rcases hO.2 with ⟨h1, _⟩ | ⟨g, cap, cur, h1, h2, _⟩
        · injection h1 with _ h2 _; omega
        · cases h1; exact ⟨g, rfl, h2⟩
      subst hgz
      have hc := (hO.cellAt i (by omega)).trans (shl_vals hlt)
      have hf := hO.frozenAt i
      have hst := hO.stored i (.int .i64 ((cf ps i + 32 : Nat) : Int))
      rw [shl_stored hlt] at hst
      have HST := hide hst.1
      have hk224 := unhide HLT (cf ps i) (cf_memb hlt)
      obtain ⟨k, hkk⟩ : ∃ k, cf ps i = k := ⟨_, rfl⟩
      rw [hkk] at hc HST hk224
      have hw : IntKind.i64.wrap ((k : Int) + 32) = ((k + 32 : Nat) : Int) := by rw [IntWalk.i64_in _ ⟨by omega, by omega⟩]; omega
      have hw' : (k : Int) + 32 = ((k + 32 : Nat) : Int) := by omega
      have HW' := hide hw'
      clear hO hK hst hkk hw'
      go_wp2_with fail
      go_roundw
      case rel =>
        refine ⟨i + 1, by go_num, by omega, ?_, (unhide HK).setCell (p := ⟨gz, i, none⟩) hgb _⟩
        first | exact unhide HST | (rw [unhide HW']; exact unhide HST)
      case measure => simp [intOf]; omega
    · have hi2 : i = ps.length := by omega
      subst hi2
      have hi1 : ¬ (ps.length : Int) < (ps.length : Int) := by omega
      have hO9 : OwnI w6.heap.size wr (.slice po ps.length pc) (ps.map (fun k => k + 32)) := by
        have h := hO
        rw [shl_all] at h
        unfold OwnI
        rwa [List.length_map]
      obtain ⟨po2, pc2, pg2, hv, hZ⟩ := hO9.za (fun k h => by
        obtain ⟨j, h1, rfl⟩ := List.mem_map.1 h
        have := unhide HLT j h1
        omega)
      rw [List.length_map] at hv hZ
      cases hv
      rw [show ps.map (fun k => k + 32) = psOf ps [] [] from by simp [psOf, Nat.add_comm]] at hZ
      have HZ := hide hZ
      have hkw := (unhide HK67).trans (unhide HK)
      replace HD := hide ((unhide HD).below hkw)
      replace HE := hide ((unhide HE).below hkw)
      replace HT := hide ((unhide HT).trans (hkw.mono (unhide HT).size))
      clear hO hO9 hZ hkw HO HK HK67 HLT
      go_wp2_with fail
      refine (rflip_any _ _ g6 pg2 (pageF d) (ints (psOf ps [] [])) _ (unhide HE) (unhide HZ) (by rw [pageF_len hld]; omega)).mono ?_
      rintro e w8 ⟨v8, rfl, hF, hk⟩
      replace HD := hide ((unhide HD).below hk)
      replace HT := hide ((unhide HT).trans (hk.mono (unhide HT).size))
      have hfl : (flipZ (pageF d) (ints (psOf ps [] []))).length = 60 := by rw [flipZ_len, pageF_len hld]
      obtain ⟨g8, hA, _⟩ := hF.arg (flipZ_bs (pageF_bs hbd) _)
      have HF := hide hA
      obtain ⟨fo, fc, hv⟩ := Fr.shape hF
      rw [hfl] at hv
      subst hv
      clear hF hk hA HE HZ hfl
      go_wp2_with fail
      refine (pdecode_any _ g8 _ _ (unhide HF)).mono ?_
      rintro e w9 ⟨v9, rfl, hF, hk⟩
      replace HD := hide ((unhide HD).below hk)
      replace HT := hide ((unhide HT).trans (hk.mono (unhide HT).size))
      obtain ⟨_, p2, p3⟩ := page_turned (unhide HPL) hld hbd
      by_cases h3 : 3 < ps.length
      · have h3' : (3 : Int) < (ps.length : Int) := by omega
        rw [p3 (by simp) (.inl ⟨by omega, by omega⟩)] at hF ⊢
        obtain ⟨qo, qc, hv⟩ := Fr.shape hF
        subst hv
        clear hF hk p2 p3 HF
        go_wp2
        go_ret
        exact ⟨rfl, (unhide HT).alloc (unhide HT).size _⟩
      · have h3' : ¬ (3 : Int) < (ps.length : Int) := by omega
        rw [p2 (by simp) (by omega) (by simp)] at hF ⊢
        obtain ⟨gq, hAq, _⟩ := hF.arg hbd
        obtain ⟨qo, qc, hv⟩ := Fr.shape hF
        rw [hld] at hv
        subst hv
        have hal := (Below.refl w9.heap.size w9).alloc (Nat.le_refl _) (.cells #[.int .i64 2, .slice qo 48 qc] 32)
        have hc1 := conv_arg (hAq.below hal)
        have hc2 := conv_arg ((unhide HD).below hal)
        clear hF hk p2 p3 HF hAq hal
        go_wp2
        go_ret
        exact ⟨rfl, (unhide HT).alloc (unhide HT).size _⟩

set_option maxRecDepth 100000 in
set_option maxHeartbeats 8000000 in
theorem halves_t (va vb : Value) (ga gb : Nat) (a b : List Nat) (w : World) (hA : Arg w va ga a) (hB : Arg w vb gb b) (ao1 : Option Addr) (g1 len1 cap1 : Nat) (zs : List Int) (hz1 : zs.length = len1) (hr1 : IRow w ao1 g1 zs) (hcp1 : len1 ≤ cap1) (hm1 : cap1 ≤ maxLen) (hbo1 : ∀ z ∈ zs, -9223372036854775808 ≤ z ∧ z ≤ 9223372036854775807) :
    Calls Try.prog 6 #[va, vb, .slice ao1 len1 cap1, .bool true] w fun x w' => x = .returned (.bool true) ∧ Below w.heap.size w w' := by
  have HA := hide hA
  have HB := hide hB
  have HL1 := hide hr1
  clear hr1
  obtain ⟨⟨ao, c, rfl, _⟩, _⟩ := hA
  obtain ⟨⟨bo, cb, rfl, _⟩, _⟩ := hB
  go_enter Try.func6, Try.ntmps6
  go_wp2_with fail
  refine (known8_any _).mono ?_
  rintro e w1 ⟨rfl, hk⟩
  replace HA := hide ((unhide HA).below hk)
  replace HB := hide ((unhide HB).below hk)
  replace HL1 := hide (IRow.below hk (unhide HL1))
  have HT := hide hk
  clear hk
  go_wp2_with fail
  refine (data_any _ _ a 24 (by omega) _ (unhide HA)).mono ?_
  rintro e w2 ⟨v2, x, rfl, hlx, hbx, hF, hk⟩
  replace HB := hide ((unhide HB).below hk)
  replace HL1 := hide (IRow.below hk (unhide HL1))
  replace HT := hide ((unhide HT).trans (hk.mono (unhide HT).size))
  obtain ⟨g2, xc, hv, h21, h22, h23, h24⟩ := hF.blk (by intro e; rw [e] at hlx; simp at hlx)
  have hX := h23.arg hbx h21 h22
  rw [hlx] at hv hX
  subst hv
  have HX := hide hX
  clear hF hk HA hX h21 h22 h23 h24
  go_wp2_with fail
  refine (data_any _ _ b 24 (by omega) _ (unhide HB)).mono ?_
  rintro e w3 ⟨v3, y, rfl, hly, hby, hF, hk⟩
  replace HX := hide ((unhide HX).below hk)
  replace HL1 := hide (IRow.below hk (unhide HL1))
  replace HT := hide ((unhide HT).trans (hk.mono (unhide HT).size))
  obtain ⟨g3, yc, hv, h31, h32, h33, h34⟩ := hF.blk (by intro e; rw [e] at hly; simp at hly)
  have hY := h33.arg hby h31 h32
  rw [hly] at hv hY
  subst hv
  have HY := hide hY
  have HE3 := hide (empty_owns' w3)
  have HAL : Hid (Below w3.heap.size w3 (w3.alloc (.cells #[] 5))) := (Below.refl _ w3).alloc (Nat.le_refl _) _
  have HXR := hide (arg_row ((unhide HX).below (unhide HAL)))
  have HLX : Hid ((ints x).length = 24) := by show _ = _; rw [ints_len, hlx]
  have HLY : Hid ((ints y).length = 24) := by show _ = _; rw [ints_len, hly]
  obtain ⟨i0, hi0, hz0, hzz1, hz2⟩ := info_parts infoE
  have HI := hide hi0
  have hw3 := (unhide HT).size
  clear hF hk HB hY h31 h32 h33 h34 hi0
  go_wp2_with (at_builtin; refine wpList_append_row _ rfl _ _ 22 rfl w3.heap.size 5 i0 Try.underlying22 (unhide HI) hz0 hzz1 hz2 (.slice (some ⟨w3.heap.size, 0, none⟩) 0 0) 0 _ rfl (unhide HE3) (some ⟨g2, 0, none⟩) g2 24 xc (ints x) rfl (unhide HLX) (unhide HXR) (fun h => by cases h) (by omega) (by simp) ?_)
  intro v' w4 ho hg _
  obtain ⟨g4, cap4, rfl⟩ := ownsRow_succ (k := 23) ho
  have HO4 : Hid (w4.ownsRow w3.heap.size 5 1 (.slice (some ⟨g4, 0, none⟩) 24 cap4) 24 ((ints x).map (Value.int .u8))) := by
    have h := ho
    rw [show (ints ([] : List Nat)).map (Value.int .u8) = [] from rfl, List.nil_append] at h
    exact h
  have HK4 : Hid (Below w3.heap.size w3 w4) := (unhide HAL).grown hg (by simp) (fun k e => by cases e; exact Nat.le_refl _)
  have HYR := hide (arg_row ((unhide HY).below (unhide HK4)))
  have hw4 := (unhide HK4).size
  clear ho hg HXR HE3 HAL
  go_wp2_with (at_builtin; refine wpList_append_row _ rfl _ _ 22 rfl w3.heap.size 5 i0 Try.underlying22 (unhide HI) hz0 hzz1 hz2 (.slice (some ⟨g4, 0, none⟩) 24 cap4) 24 _ rfl (unhide HO4) (some ⟨g3, 0, none⟩) g3 24 yc (ints y) rfl (unhide HLY) (unhide HYR) (fun h => by cases h) (by omega) (by omega) ?_)
  intro v' w5 ho hg _
  have ho2 := app_owns (n := 24) (m := 24) (a := x) ho
  obtain ⟨g5, cap5, rfl⟩ := ownsRow_succ (k := 47) ho2
  have HK5 : Hid (Below w3.heap.size w3 w5) := (unhide HK4).grown hg hw4 (fun k e => (unhide HO4).lt k e |>.1)
  have hF := (owns_fr ho2).2
  replace HL1 := hide (IRow.below (unhide HK5) (unhide HL1))
  replace HT := hide ((unhide HT).trans ((unhide HK5).mono hw3))
  obtain ⟨d, hd⟩ : ∃ d, x ++ y = d := ⟨_, rfl⟩
  have hld : d.length = 48 := by rw [← hd, List.length_append, hlx, hly]
  have hbd : Bs d := by rw [← hd]; exact bs_append hbx hby
  rw [hd] at hF
  have HD : Hid (Arg w5 (.slice (some ⟨g5, 0, none⟩) 48 cap5) g5 d) := by
    obtain ⟨q, cq, hv, h1, h2, h3, h4⟩ := hF.blk (by intro e; rw [e] at hld; simp at hld)
    rw [hld] at hv
    cases hv
    have h := h3.arg (c := cap5) hbd h1 h2
    rwa [hld] at h
  clear ho ho2 hg hF HX HY HYR HO4 HK4 HK5 hd HI hw4 hw3
  go_wp2_with fail
  refine (pencode_any _ g5 d _ (unhide HD) hld).mono ?_
  rintro e w6 ⟨v6, rfl, hF, hk⟩
  replace HD := hide ((unhide HD).below hk)
  replace HL1 := hide (IRow.below hk (unhide HL1))
  replace HT := hide ((unhide HT).trans (hk.mono (unhide HT).size))
  obtain ⟨g6, hE, _⟩ := hF.arg (pageF_bs hbd)
  have HE := hide hE
  obtain ⟨eo, ec, hv⟩ := Fr.shape hF
  rw [pageF_len hld] at hv
  subst hv
  clear hF hk hE
  go_wp2_with fail
  refine (places_any ao1 g1 len1 cap1 zs hz1 (unhide HL1) hcp1 hm1 hbo1 224 5 (by omega) (by omega) (by omega)).mono ?_
  rintro e w7 ⟨v7, ps, rfl, hnd, hps, hpl, hO, hk⟩
  have HK67 := hide hk
  have hwk := hk.size
  have HPL : Hid (Pl8 [] ps []) := ⟨pl_nil, ⟨hnd, hps⟩, List.nodup_nil, by simp⟩
  obtain ⟨po, pc, hv⟩ : ∃ po pc, v7 = .slice po ps.length pc := by
    rcases hO.shape with ⟨h1, h2⟩ | ⟨g, cap, h1, _⟩
    · exact ⟨none, 0, by rw [h1, h2]; rfl⟩
    · exact ⟨_, _, h1⟩
  subst hv
  have HO : Hid (w7.ownsRow w6.heap.size 3 1 (.slice po ps.length pc) ps.length ((ints (shl 256 0 ps)).map (Value.int .i64))) := by rw [shl_0]; exact hO
  have HLT := hide hps
  clear hO hk hnd HL1 hps
  have hpsm : (ps.length : Int) ≤ 5 := by omega
  have HP5 := hide hpl
  clear hpl
  go_wp2_with fail
  go_loopw [15] (fun p wr => ∃ i : Nat, p = .int .i64 (i : Int) ∧ i ≤ ps.length ∧ wr.ownsRow w6.heap.size 3 1 (.slice po ps.length pc) ps.length ((ints (shl 256 i ps)).map (Value.int .i64)) ∧ Below w6.heap.size w7 wr) (fun p _ => ps.length - (intOf p).toNat)
  case atStart => exact ⟨0, rfl, by omega, unhide HO, (Below.refl _ w7).mono hwk⟩
  case round =>
    obtain ⟨i, rfl, hi, hO, hK⟩ := hrel
    have HO := hide hO
    have HK := hide hK
    by_cases hlt : i < ps.length
    · have hi1 : (i : Int) < (ps.length : Int) := by omega
      obtain ⟨gz, hgz, hgb⟩ : ∃ gz, po = some ⟨gz, 0, none⟩ ∧ w6.heap.size ≤ gz := by
        rcases hO.2 with ⟨h1, _⟩ | ⟨g, cap, cur, h1, h2, _⟩
        · injection h1 with _ h2 _; omega
        · cases h1; exact ⟨g, rfl, h2⟩
      subst hgz
      have hc := (hO.cellAt i (by omega)).trans (shl_vals hlt)
      have hf := hO.frozenAt i
      have hst := hO.stored i (.int .i64 ((cf ps i + 256 : Nat) : Int))
      rw [shl_stored hlt] at hst
      have HST := hide hst.1
      have hk224 := unhide HLT (cf ps i) (cf_memb hlt)
      obtain ⟨k, hkk⟩ : ∃ k, cf ps i = k := ⟨_, rfl⟩
      rw [hkk] at hc HST hk224
      have hw : IntKind.i64.wrap ((k : Int) + 256) = ((k + 256 : Nat) : Int) := by rw [IntWalk.i64_in _ ⟨by omega, by omega⟩]; omega
      have hw' : (k : Int) + 256 = ((k + 256 : Nat) : Int) := by omega
      have HW' := hide hw'
      clear hO hK hst hkk hw'
      go_wp2_with fail
      go_roundw
      case rel =>
        refine ⟨i + 1, by go_num, by omega, ?_, (unhide HK).setCell (p := ⟨gz, i, none⟩) hgb _⟩
        first | exact unhide HST | (rw [unhide HW']; exact unhide HST)
      case measure => simp [intOf]; omega
    · have hi2 : i = ps.length := by omega
      subst hi2
      have hi1 : ¬ (ps.length : Int) < (ps.length : Int) := by omega
      have hO9 : OwnI w6.heap.size wr (.slice po ps.length pc) (ps.map (fun k => k + 256)) := by
        have h := hO
        rw [shl_all] at h
        unfold OwnI
        rwa [List.length_map]
      obtain ⟨po2, pc2, pg2, hv, hZ⟩ := hO9.za (fun k h => by
        obtain ⟨j, h1, rfl⟩ := List.mem_map.1 h
        have := unhide HLT j h1
        omega)
      rw [List.length_map] at hv hZ
      cases hv
      rw [show ps.map (fun k => k + 256) = psOf [] ps [] from by simp [psOf, Nat.add_comm]] at hZ
      have HZ := hide hZ
      have hkw := (unhide HK67).trans (unhide HK)
      replace HD := hide ((unhide HD).below hkw)
      replace HE := hide ((unhide HE).below hkw)
      replace HT := hide ((unhide HT).trans (hkw.mono (unhide HT).size))
      clear hO hO9 hZ hkw HO HK HK67 HLT
      go_wp2_with fail
      refine (rflip_any _ _ g6 pg2 (pageF d) (ints (psOf [] ps [])) _ (unhide HE) (unhide HZ) (by rw [pageF_len hld]; omega)).mono ?_
      rintro e w8 ⟨v8, rfl, hF, hk⟩
      replace HD := hide ((unhide HD).below hk)
      replace HT := hide ((unhide HT).trans (hk.mono (unhide HT).size))
      have hfl : (flipZ (pageF d) (ints (psOf [] ps []))).length = 60 := by rw [flipZ_len, pageF_len hld]
      obtain ⟨g8, hA, _⟩ := hF.arg (flipZ_bs (pageF_bs hbd) _)
      have HF := hide hA
      obtain ⟨fo, fc, hv⟩ := Fr.shape hF
      rw [hfl] at hv
      subst hv
      clear hF hk hA HE HZ hfl
      go_wp2_with fail
      refine (pdecode_any _ g8 _ _ (unhide HF)).mono ?_
      rintro e w9 ⟨v9, rfl, hF, hk⟩
      replace HD := hide ((unhide HD).below hk)
      replace HT := hide ((unhide HT).trans (hk.mono (unhide HT).size))
      obtain ⟨_, p2, p3⟩ := page_turned (unhide HPL) hld hbd
      by_cases h3 : 3 < ps.length
      · have h3' : (3 : Int) < (ps.length : Int) := by omega
        rw [p3 (by simp) (.inr ⟨by omega, by omega⟩)] at hF ⊢
        obtain ⟨qo, qc, hv⟩ := Fr.shape hF
        subst hv
        clear hF hk p2 p3 HF
        go_wp2
        go_ret
        exact ⟨rfl, (unhide HT).alloc (unhide HT).size _⟩
      · have h3' : ¬ (3 : Int) < (ps.length : Int) := by omega
        rw [p2 (by simp) (by simp) (by omega)] at hF ⊢
        obtain ⟨gq, hAq, _⟩ := hF.arg hbd
        obtain ⟨qo, qc, hv⟩ := Fr.shape hF
        rw [hld] at hv
        subst hv
        have hal := (Below.refl w9.heap.size w9).alloc (Nat.le_refl _) (.cells #[.int .i64 2, .slice qo 48 qc] 32)
        have hc1 := conv_arg (hAq.below hal)
        have hc2 := conv_arg ((unhide HD).below hal)
        clear hF hk p2 p3 HF hAq hal
        go_wp2
        go_ret
        exact ⟨rfl, (unhide HT).alloc (unhide HT).size _⟩

theorem halves_walk (va vb : Value) (ga gb : Nat) (a b : List Nat) (w : World) (hA : Arg w va ga a) (hB : Arg w vb gb b) (ao1 : Option Addr) (g1 len1 cap1 : Nat) (zs : List Int) (hz1 : zs.length = len1) (hr1 : IRow w ao1 g1 zs) (hcp1 : len1 ≤ cap1) (hm1 : cap1 ≤ maxLen) (hbo1 : ∀ z ∈ zs, -9223372036854775808 ≤ z ∧ z ≤ 9223372036854775807) (sec : Bool) :
    Calls Try.prog 6 #[va, vb, .slice ao1 len1 cap1, .bool sec] w fun x w' => x = .returned (.bool true) ∧ Below w.heap.size w w' := by
  cases sec with
  | false => exact halves_f va vb ga gb a b w hA hB ao1 g1 len1 cap1 zs hz1 hr1 hcp1 hm1 hbo1
  | true => exact halves_t va vb ga gb a b w hA hB ao1 g1 len1 cap1 zs hz1 hr1 hcp1 hm1 hbo1

end Go.Proofs.Ytkhpoomajebgoaa
