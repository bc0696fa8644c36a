/-
  The laws' own same, Slots (ramekinlaw11).
-/
import Derived.Test.YtjdikhelabibnaaGreatR11n
import Derived.Test.YtjdikhelabibnaaGreatH10g
import Derived.Test.YtjdikhelabibnaaGreatH5
namespace Go.Proofs.YtjdikhelabibnaaGreat
open Go Go.RowKit Go.Shelf

set_option maxRecDepth 100000 in
set_option maxHeartbeats 4000000 in
theorem same_any11 (v v' : Value) (G G' : Nat) (A A' : Nat → Option Addr) (C C' : Nat → Nat) (l l' : List (List Nat)) (w : World) (hA : RArg w v G A C l) (hA' : RArg w v' G' A' C' l') :
    Calls Tryz.prog 14 #[v, v'] w fun e w' => e = .returned (.bool (decide (l = l'))) ∧ Below w.heap.size w w' := by
  obtain ⟨ao, c, hv, hc1, hc2, hnil, hrow⟩ := hA.ex
  obtain ⟨ao', c', hv', hc1', hc2', hnil', hrow'⟩ := hA'.ex
  have HA := hide hA
  have HA' := hide hA'
  have HROW := hide hrow
  have HROW' := hide hrow'
  clear hrow hA hnil hrow' hA' hnil'
  subst hv
  subst hv'
  obtain ⟨N, hN⟩ : ∃ N, l.length = N := ⟨_, rfl⟩
  obtain ⟨N', hN'⟩ : ∃ N, l'.length = N := ⟨_, rfl⟩
  rw [hN] at hc1 HROW ⊢
  rw [hN'] at hc1' HROW' ⊢
  have HN := hide hN
  have HN' := hide hN'
  clear hN hN'
  have hNm : (N : Int) ≤ 9223372036854775807 := by unfold maxLen at hc2; omega
  by_cases hne : N = N'
  rotate_left 1
  · have h1 : ((N : Int) != (N' : Int)) = true := by rw [bne_iff_ne]; omega
    have HD : Hid (decide (l = l') = false) := by show _ = _; rw [decide_eq_false_iff_not]; intro e; apply hne; rw [← unhide HN, ← unhide HN', e]
    clear hne
    go_enter Tryz.func14, Tryz.ntmps14
    go_wp2_with fail
    go_ret
    rw [unhide HD]
    exact ⟨rfl, Below.refl _ _⟩
  subst hne
  have h1 : ((N : Int) != (N : Int)) = false := by simp
  go_enter Tryz.func14, Tryz.ntmps14
  go_wp2_with fail
  clear h1
  go_loopw [5] (fun p wr => ∃ i : Nat, p = .int .i64 i ∧ i ≤ N ∧ (∀ k, k < i → l.getD k [] = l'.getD k []) ∧ Below w.heap.size w wr) (fun p _ => N - (intOf p).toNat)
  case atStart => exact ⟨0, rfl, by omega, by omega, Below.refl _ _⟩
  case round =>
    obtain ⟨i, rfl, hi, hz, hK⟩ := hrel
    have HZ := hide hz
    have HK := hide hK
    clear hz hK
    by_cases hlt : i < N
    · have hi1 : (i : Int) < (N : Int) := by omega
      obtain ⟨o, rfl, hcl⟩ := ((unhide HROW).below (unhide HK)).at (by omega)
      have hc := hcl i hlt
      obtain ⟨o', rfl, hcl'⟩ := ((unhide HROW').below (unhide HK)).at (by omega)
      have hc' := hcl' i hlt
      obtain ⟨g, hg⟩ := (unhide HA).rows i (by rw [unhide HN]; exact hlt)
      obtain ⟨g', hg'⟩ := (unhide HA').rows i (by rw [unhide HN']; exact hlt)
      have hcv := fun m => conv_arg (hg.below (below_drewN5 (unhide HK) m))
      have hcv' := fun m => conv_arg (hg'.below (below_drewN5 (unhide HK) m))
      have hb1 := hg.bs
      have hb2 := hg'.bs
      obtain ⟨r, hr⟩ : ∃ r, l.getD i [] = r := ⟨_, rfl⟩
      obtain ⟨r', hr'⟩ : ∃ r, l'.getD i [] = r := ⟨_, rfl⟩
      rw [hr] at hcv hb1
      rw [hr'] at hcv' hb2
      rw [hr] at hc
      rw [hr'] at hc'
      have HR := hide hr
      have HR' := hide hr'
      clear hg hg' hcl hcl' hr hr'
      by_cases he : r = r'
      · have HE := hide he
        subst he
        clear hb1 hb2
        go_wp2_with fail
        go_quiet (fail)
        go_wp2_with fail
        go_roundw
        case rel => exact ⟨i + 1, by go_num, by omega, fun k hk => by
          by_cases e : k = i
          · rw [e, unhide HR, unhide HR']
          · exact unhide HZ k (by omega), below_drewN5 (unhide HK) _⟩
        case measure => simp [intOf]; omega
      · have hs := str_ne hb1 hb2 he
        have HD : Hid (decide (l = l') = false) := by show _ = _; rw [decide_eq_false_iff_not]; intro e; apply he; rw [← unhide HR, ← unhide HR', e]
        clear hb1 hb2 he
        go_wp2_with fail
        go_quiet (fail)
        go_wp2_with fail
        go_ret
        rw [unhide HD]
        exact ⟨rfl, below_drewN5 (unhide HK) _⟩
    · have hi2 : i = N := by omega
      subst hi2
      have HD : Hid (decide (l = l') = true) := by show _ = _; rw [decide_eq_true_iff]; exact getD_ext (by rw [unhide HN, unhide HN']) (fun k hk => unhide HZ k (by rw [← unhide HN]; exact hk))
      go_wp2_with fail
      go_ret
      rw [unhide HD]
      exact ⟨rfl, unhide HK⟩


/-- The good slot of a slot. -/
def gdV (e : EV) : EV := ⟨gdK e.k, gdLb e.k e.l, gdS e.k e.s, gdD e.k e.d⟩
theorem gd_ok11 (k l s : Int) (d : List Nat) : okE (gdK k) (gdLb k l) (gdS k s) (gdD k d) := by
  unfold gdK gdLb gdS gdD okE
  refine ⟨⟨by omega, by omega⟩, fun h => ?_, fun h => ?_, fun h => ?_⟩
  · rw [if_pos h, if_pos h]; omega
  · rw [if_neg h, if_neg h]; exact ⟨rfl, rfl⟩
  · rw [if_neg h]
theorem gdV_ok {e : EV} (h : e.Ok) : (gdV e).Ok := ⟨gdD_len h.len, fun j => by
  show cf (gdD e.k e.d) j < 256
  unfold gdD
  split
  · exact h.bs j
  · exact zEV_ok.bs j⟩
theorem EV.cs_arr {e : EV} : e.cs.toArray = e.ar := by simp [EV.cs, EV.ar]
/-- The good slots of the first slots. -/
def gdSl (l : List EV) (m : Nat) : List EV := (l.take m).map gdV
theorem gdSl_len (l : List EV) (m : Nat) : (gdSl l m).length = min m l.length := by simp [gdSl]
theorem gdSl_ok {l : List EV} (h : ∀ e ∈ l, e.Ok) (m : Nat) : ∀ e ∈ gdSl l m, e.Ok := by
  intro e he
  obtain ⟨x, hx, rfl⟩ := List.mem_map.1 he
  exact gdV_ok (h x (List.mem_of_mem_take hx))
theorem gdSl_snoc {l : List EV} {m : Nat} (h : m < l.length) : gdSl l (m + 1) = gdSl l m ++ [gdV (l.getD m zEV)] := by
  rw [gdSl, gdSl, List.take_add_one, List.map_append, List.getElem?_eq_getElem h, List.getD_eq_getElem?_getD, List.getElem?_eq_getElem h]
  rfl
set_option maxRecDepth 100000 in
set_option maxHeartbeats 8000000 in
theorem slots11_any (ao : Option Addr) (n c G : Nat) (l : List EV) (M : Nat) (hM : M ≤ 1000) (w : World) (hL : EArg w (.slice ao n c) G l) :
    Calls Tryz.prog 12 #[.slice ao n c, .int .i64 (M : Int)] w fun e w' => ∃ v, e = .returned v ∧ OwnE w.heap.size w' v (gdSl l M) ∧ Below w.heap.size w w' := by
  obtain ⟨ao', c', hv, hnc, hcm, -, hr⟩ := hL.ex
  obtain ⟨rfl, hnl, rfl⟩ : ao = ao' ∧ n = l.length ∧ c = c' := by cases hv; exact ⟨rfl, rfl, rfl⟩
  have HOK : Hid (∀ i, (l.getD i zEV).Ok) := hL.get_ok
  have HNL := hide hnl
  have HR := hide hr
  have hnm : (n : Int) ≤ 9223372036854775807 := by unfold maxLen at hcm; omega
  clear hv hr hL hnl hnc hcm
  go_enter Tryz.func12, Tryz.ntmps12
  go_wp2_with fail
  go_loopw [5, 6] (fun v i wr => ∃ (k : Nat), k ≤ M ∧ k ≤ n ∧ i = .int .i64 k ∧ OwnE w.heap.size wr v (gdSl l k) ∧ Below w.heap.size w wr) (fun _ i _ => n - (intOf i).toNat)
  case atStart => exact ⟨0, by omega, by omega, rfl, OwnE.nil _ _, Below.refl _ _⟩
  case round =>
    obtain ⟨k, hkM, hkn, rfl, hO, hB⟩ := hrel
    obtain ⟨va, vc, hv, -⟩ := hO.1.shape
    have hlk : (gdSl l k).length = k := by rw [gdSl_len, ← unhide HNL]; omega
    rw [hlk] at hv
    subst hv
    have HO := hide hO
    have HB := hide hB
    have HLK2 := hide hlk
    clear hO hB hlk
    have HFIN : Hid (k = n ∨ k = M → gdSl l k = gdSl l M) := by
      rintro (h | h)
      · unfold gdSl
        rw [h, unhide HNL, List.take_length, List.take_of_length_le (by rw [← unhide HNL]; omega)]
      · rw [h]
    by_cases hlt : k < n
    · have hi1 : (k : Int) < (n : Int) := by omega
      by_cases hlm : k < M
      · have hi2 : (k : Int) < (M : Int) := by omega
        have hlt2 : k < l.length := by rw [← unhide HNL]; exact hlt
        obtain ⟨o, rfl, hcl⟩ := (unhide HR) (fun h => by rw [h] at hlt2; simp at hlt2)
        have HCL : Hid (wr.rangeAt G (o + k * 19) (l.getD k zEV).cs) := fun j v hv => ((unhide HB).cell (block_lt_of_cell (hcl k hlt2 j v hv))).trans (hcl k hlt2 j v hv)
        clear hcl
        have hoe := (unhide HOK) k
        have hsn := gdSl_snoc hlt2
        obtain ⟨e, he⟩ : ∃ e, l.getD k zEV = e := ⟨_, rfl⟩
        rw [he] at HCL hoe hsn
        have HOE := hide hoe
        have HSN := hide hsn
        clear hoe hsn he hlt2
        go_wp2_with (refine wpList_load_mid rfl 44 _ rfl G (o + k * 19) rfl e.cs _ (unhide HCL) Tryz.underlying44 (by rfl) (by rw [sizeTE, EV.cs_len (unhide HOE)]) ?_)
        rw [EV.cs_arr]
        refine (good_any e.k e.l e.s e.d (unhide HOE).len wr).mono ?_
        rintro x w5 ⟨rfl, hk5⟩
        obtain ⟨e2, he2⟩ : ∃ e2 : EV, e2 = gdV e := ⟨_, rfl⟩
        have hea : entA (gdK e.k) (gdLb e.k e.l) (gdS e.k e.s) (gdD e.k e.d) = e2.ar := by rw [he2]; rfl
        have hok2 : e2.Ok := by rw [he2]; exact gdV_ok (unhide HOE)
        rw [hea]
        have hal := (Below.refl w5.heap.size w5).alloc (Nat.le_refl _) (.cells e2.ar 44)
        have hk6 := hk5.trans (hal.mono hk5.size)
        obtain ⟨v9, w9, hr9, ho9, hg9⟩ := run_append_ev (w5.alloc (.cells e2.ar 44)) w.heap.size 22 (.slice va k vc) (gdSl l k) ((unhide HO).below hk6) w5.heap.size 0 e2 (range_ev w5 e2 44) hok2 (by rw [unhide HLK2]; omega) (by have := (unhide HB).size; have := hk6.size; omega)
        have hB9 : Below w.heap.size w w9 := ((unhide HB).trans (hk6.mono (unhide HB).size)).trans ⟨hg9.os, hg9.tape, hg9.output, hg9.size, fun q hq => hg9.block q (by have := (unhide HB).size; have := hk6.size; omega) (fun e => by have := ((unhide HO).below hk6).1.ownBlock e.symm; omega)⟩
        have HO9 : Hid (OwnE w.heap.size w9 v9 (gdSl l (k + 1))) := by
          rw [unhide HSN, ← he2]
          exact ho9
        have HRA := hide hr9
        have HB9 := hide hB9
        have HOK2 := hide hok2
        clear hr9 ho9 hg9 hB9 hk6 hal hk5 hea he2 hok2
        go_wp2_with (first | (refine wpList_build_ev11 rfl _ rfl e2 (unhide HOK2) rfl ?_) | (at_builtin; refine wpList_append_run rfl _ _ _ _ _ rfl _ _ rfl rfl (unhide HRA) ?_))
        go_roundw
        case rel => exact ⟨k + 1, by omega, by omega, by go_num, unhide HO9, unhide HB9⟩
        case measure => simp [intOf]; omega
      · have hi2 : (M : Int) ≤ (k : Int) := by omega
        go_wp2_with fail
        go_ret
        refine ⟨_, rfl, ?_, unhide HB⟩
        rw [← unhide HFIN (.inr (by omega))]
        exact unhide HO
    · have hi1 : (n : Int) ≤ (k : Int) := by omega
      go_wp2_with fail
      go_ret
      refine ⟨_, rfl, ?_, unhide HB⟩
      rw [← unhide HFIN (.inl (by omega))]
      exact unhide HO

end Go.Proofs.YtjdikhelabibnaaGreat
