/-
  The walk of BitsAll.
-/
import Derived.Test.YtoljplfijopcmaaH6k
import Derived.Test.YtoljplfijopcmaaB6e
import Derived.Test.YtoljplfijopcmaaB6f
import Derived.Test.YtoljplfijopcmaaB6h
import Derived.Test.YtoljplfijopcmaaR6a
import Derived.Test.YtoljplfijopcmaaR6b
import Derived.Test.YtoljplfijopcmaaR6c
import Derived.Test.YtoljplfijopcmaaM6
import Derived.Test.YtoljplfijopcmaaN6d
import Derived.Test.YtoljplfijopcmaaI7
namespace Go.Proofs.Ytoljplfijopcmaa
open Go.RowKit Go.Shelf

theorem rones_b (v : Value) (g : Nat) (s : List Nat) (w : World) (hA : Arg w v g s) (hs : s.length ≤ 1000) :
    Calls Try.prog 13 #[v] w fun e w' => e = .returned (.int .i64 ((onF (cf s) s.length).length : Nat)) ∧ Below w.heap.size w w' :=
  (rones_any v g s w hA hs).mono (fun _ _ h => ⟨h.1, by rw [h.2]; exact Below.refl _ _⟩)

set_option maxRecDepth 100000 in
set_option maxHeartbeats 8000000 in
theorem all_walk (u v m vl : Value) (ga gb gm gl : Nat) (a b mask : List Nat) (zs : List Int) (w : World) (hA : Arg w u ga a) (hB : Arg w v gb b) (hM : Arg w m gm mask) (hZ : ZArg w vl gl zs) :
    Calls Try.prog 3 #[u, v, m, vl] w fun e w' => e = .returned (.bool true) ∧ Below w.heap.size w w' := by
  have HA := hide hA
  have HB := hide hB
  obtain ⟨⟨ao, ca, rfl, hc1, hc2, _, _⟩, hba⟩ := hA
  obtain ⟨⟨bo, cb, rfl, hd1, hd2, _, _⟩, hbb⟩ := hB
  obtain ⟨la, hla⟩ : ∃ n, a.length = n := ⟨_, rfl⟩
  obtain ⟨lb, hlb⟩ : ∃ n, b.length = n := ⟨_, rfl⟩
  have HLA := hide hla
  have HLB := hide hlb
  rw [hla] at HA hc1 ⊢
  rw [hlb] at HB hd1 ⊢
  clear hla hlb
  have ha1 : (la : Int) ≤ 9223372036854775807 := by unfold maxLen at hc2; omega
  have hb1 : (lb : Int) ≤ 9223372036854775807 := by unfold maxLen at hd2; omega
  have HM := hide hM
  obtain ⟨⟨mo, cm, rfl, he1, he2, _, _⟩, hbm⟩ := hM
  obtain ⟨lm, hlm⟩ : ∃ n, mask.length = n := ⟨_, rfl⟩
  rw [hlm] at HM he1 ⊢
  clear hlm
  have hm1 : (lm : Int) ≤ 9223372036854775807 := by unfold maxLen at he2; omega
  have HL := hide hZ
  obtain ⟨⟨lo, cl, rfl, hf1, hf2, _, _⟩, hbd⟩ := hZ
  obtain ⟨ll, hll⟩ : ∃ n, zs.length = n := ⟨_, rfl⟩
  rw [hll] at HL hf1 ⊢
  clear hll hbd
  have hl1 : (ll : Int) ≤ 9223372036854775807 := by unfold maxLen at hf2; omega
  have HT : Hid (Below w.heap.size w w) := Below.refl _ _
  by_cases h60la : 60 < la
  · have h60' : (60 : Int) < (la : Int) := by omega
    go_enter Try.func3, Try.ntmps3
    go_wp2_with fail
    refine (known_any _).mono ?_
    rintro e w1 ⟨rfl, hk⟩
    replace HA := hide ((unhide HA).below hk)
    replace HB := hide ((unhide HB).below hk)
    replace HM := hide ((unhide HM).below hk)
    replace HL := hide ((unhide HL).below hk)
    replace HT := hide ((unhide HT).trans (hk.mono (unhide HT).size))
    clear hk
    go_wp2_with fail
    go_ret
    exact ⟨rfl, unhide HT⟩
  have h60la' : (la : Int) ≤ 60 := by omega
  by_cases h60lb : 60 < lb
  · have h60' : (60 : Int) < (lb : Int) := by omega
    go_enter Try.func3, Try.ntmps3
    go_wp2_with fail
    refine (known_any _).mono ?_
    rintro e w1 ⟨rfl, hk⟩
    replace HA := hide ((unhide HA).below hk)
    replace HB := hide ((unhide HB).below hk)
    replace HM := hide ((unhide HM).below hk)
    replace HL := hide ((unhide HL).below hk)
    replace HT := hide ((unhide HT).trans (hk.mono (unhide HT).size))
    clear hk
    go_wp2_with fail
    go_ret
    exact ⟨rfl, unhide HT⟩
  have h60lb' : (lb : Int) ≤ 60 := by omega
  by_cases h60lm : 60 < lm
  · have h60' : (60 : Int) < (lm : Int) := by omega
    go_enter Try.func3, Try.ntmps3
    go_wp2_with fail
    refine (known_any _).mono ?_
    rintro e w1 ⟨rfl, hk⟩
    replace HA := hide ((unhide HA).below hk)
    replace HB := hide ((unhide HB).below hk)
    replace HM := hide ((unhide HM).below hk)
    replace HL := hide ((unhide HL).below hk)
    replace HT := hide ((unhide HT).trans (hk.mono (unhide HT).size))
    clear hk
    go_wp2_with fail
    go_ret
    exact ⟨rfl, unhide HT⟩
  have h60lm' : (lm : Int) ≤ 60 := by omega
  by_cases h60ll : 60 < ll
  · have h60' : (60 : Int) < (ll : Int) := by omega
    go_enter Try.func3, Try.ntmps3
    go_wp2_with fail
    refine (known_any _).mono ?_
    rintro e w1 ⟨rfl, hk⟩
    replace HA := hide ((unhide HA).below hk)
    replace HB := hide ((unhide HB).below hk)
    replace HM := hide ((unhide HM).below hk)
    replace HL := hide ((unhide HL).below hk)
    replace HT := hide ((unhide HT).trans (hk.mono (unhide HT).size))
    clear hk
    go_wp2_with fail
    go_ret
    exact ⟨rfl, unhide HT⟩
  have h60ll' : (ll : Int) ≤ 60 := by omega
  obtain ⟨n, hn⟩ : ∃ n : Nat, min la lb = n := ⟨_, rfl⟩
  have hnl : n ≤ 60 := by omega
  have hna : n ≤ la := by omega
  have hnb : n ≤ lb := by omega
  have hnca : n ≤ ca := by omega
  have hncb : n ≤ cb := by omega
  have hmin : ∀ W : World, (Builtin.min_ #[3, 3] 3 #[.int .i64 (la : Int), .int .i64 (lb : Int)]).run Try.prog W = .ok (.int .i64 (n : Int)) W := fun W => by
    rw [min_two, show min (la : Int) (lb : Int) = (n : Int) from by omega]
  clear hn
  obtain ⟨X, hX⟩ : ∃ X, a.take n = X := ⟨_, rfl⟩
  obtain ⟨Y, hY⟩ : ∃ Y, b.take n = Y := ⟨_, rfl⟩
  have HX := hide ((unhide HA).front hna)
  have HY := hide ((unhide HB).front hnb)
  rw [hX] at HX
  rw [hY] at HY
  have hxl : X.length = n := by rw [← hX, List.length_take, unhide HLA]; omega
  have hyl : Y.length = n := by rw [← hY, List.length_take, unhide HLB]; omega
  have hxb : Bs X := (unhide HX).bs
  have hyb : Bs Y := (unhide HY).bs
  have HXL := hide hxl
  have HYL := hide hyl
  clear hX hY hxl hyl
  have HNIL : Hid (ao = none → la = 0 ∧ ca = 0) := fun h => by
    obtain ⟨⟨ao', c', e1, h2, h3, h4, _⟩, _⟩ := unhide HA
    injection e1 with e1 e2 e3
    subst e1
    have := h4 h
    omega
  obtain ⟨L, hL⟩ : ∃ L, apL X Y = L := ⟨_, rfl⟩
  obtain ⟨L2, hL2⟩ : ∃ L, apL a b = L := ⟨_, rfl⟩
  have HLT : Hid (∀ k ∈ L, k < 1000000) := fun k h => by rw [← hL] at h; have := ap_lt h; rw [unhide HXL] at this; omega
  have HLT2 : Hid (∀ k ∈ L2, k < 1000000) := fun k h => by rw [← hL2] at h; have := ap_lt h; rw [unhide HLA] at this; omega
  obtain ⟨F, hF0⟩ : ∃ F, flipZ a zs = F := ⟨_, rfl⟩
  have HFL : Hid (F.length = la) := by show _ = _; rw [← hF0, flipZ_len]; exact unhide HLA
  have hfb : Bs F := by rw [← hF0]; exact flipZ_bs hba _
  obtain ⟨R, hR0⟩ : ∃ R, mixL a b mask = R := ⟨_, rfl⟩
  have hrb : Bs R := by rw [← hR0]; exact mixL_bs _ hba hbb
  obtain ⟨Q, hQ0⟩ : ∃ R, mixL X Y mask = R := ⟨_, rfl⟩
  have hqb : Bs Q := by rw [← hQ0]; exact mixL_bs _ hxb hyb
  obtain ⟨oa, hoa⟩ : ∃ x, (onF (cf a) a.length).length = x := ⟨_, rfl⟩
  have HOA := hide hoa
  have HLL := hide hL
  have HLL2 := hide hL2
  have HF0 := hide hF0
  have HR0 := hide hR0
  have HQ0 := hide hQ0
  clear hL hL2 hF0 hR0 hQ0 hoa
  go_enter Try.func3, Try.ntmps3
  go_wp2_with fail
  refine (known_any _).mono ?_
  rintro e w1 ⟨rfl, hk⟩
  replace HA := hide ((unhide HA).below hk)
  replace HB := hide ((unhide HB).below hk)
  replace HM := hide ((unhide HM).below hk)
  replace HL := hide ((unhide HL).below hk)
  replace HX := hide ((unhide HX).below hk)
  replace HY := hide ((unhide HY).below hk)
  replace HT := hide ((unhide HT).trans (hk.mono (unhide HT).size))
  clear hk
  go_wp2_with fail
  clear hmin
  replace HT := hide ((unhide HT).drew)
  replace HA := hide ((unhide HA).below (Below.refl _ _).drew)
  replace HB := hide ((unhide HB).below (Below.refl _ _).drew)
  replace HM := hide ((unhide HM).below (Below.refl _ _).drew)
  replace HL := hide ((unhide HL).below (Below.refl _ _).drew)
  replace HX := hide ((unhide HX).below (Below.refl _ _).drew)
  replace HY := hide ((unhide HY).below (Below.refl _ _).drew)
  refine wp_region_noPanic ?_
  refine wp_region_held_drew (S := fun W => Below w1.drew.heap.size w1.drew W) (by kernel_rfl) (Below.refl _ _) (fun hHeld => ?_)
  have HH := hide hHeld
  clear hHeld
  generalize w1.drew = w2 at HT HA HB HM HL HX HY HH ⊢
  refine takeL (i := 0) (v := ?_) rfl (by kernel_rfl) (by kernel_rfl) (by kernel_rfl) (fun _ _ _ h => h) (Or.inl ⟨by rfl, ?_⟩) (unhide HH) ?_
  rotate_left 1
  · intro W hSW; go_simp; all_goals (with_reducible rfl)
  (try simp only [Act.put, List.setIfInBounds_toArray, List.set_cons_zero, List.set_cons_succ])
  refine takeL (i := 1) (v := ?_) rfl (by kernel_rfl) (by kernel_rfl) (by kernel_rfl) (fun _ _ _ h => h) (Or.inl ⟨by rfl, ?_⟩) (unhide HH) ?_
  rotate_left 1
  · intro W hSW; go_simp; all_goals (with_reducible rfl)
  (try simp only [Act.put, List.setIfInBounds_toArray, List.set_cons_zero, List.set_cons_succ])
  refine takeL (i := 2) (v := ?_) rfl (by kernel_rfl) (by kernel_rfl) (by kernel_rfl) (fun _ _ _ h => h) (Or.inl ⟨by rfl, ?_⟩) (unhide HH) ?_
  rotate_left 1
  · intro W hSW; go_simp; all_goals (with_reducible rfl)
  (try simp only [Act.put, List.setIfInBounds_toArray, List.set_cons_zero, List.set_cons_succ])
  refine takeL (i := 3) (v := ?_) rfl (by kernel_rfl) (by kernel_rfl) (by kernel_rfl) (fun _ _ _ h => h) (Or.inl ⟨by rfl, ?_⟩) (unhide HH) ?_
  rotate_left 1
  · intro W hSW; go_simp; all_goals (with_reducible rfl)
  (try simp only [Act.put, List.setIfInBounds_toArray, List.set_cons_zero, List.set_cons_succ])
  refine takeL (i := 4) (v := ?_) rfl (by kernel_rfl) (by kernel_rfl) (by kernel_rfl) (fun _ _ _ h => h) (Or.inl ⟨by rfl, ?_⟩) (unhide HH) ?_
  rotate_left 1
  · intro W hSW; go_simp; all_goals (with_reducible rfl)
  (try simp only [Act.put, List.setIfInBounds_toArray, List.set_cons_zero, List.set_cons_succ])
  refine takeL (i := 5) (v := ?_) rfl (by kernel_rfl) (by kernel_rfl) (by kernel_rfl) (fun _ _ _ h => h) (Or.inl ⟨by rfl, ?_⟩) (unhide HH) ?_
  rotate_left 1
  · intro W hSW; go_simp; all_goals (with_reducible rfl)
  (try simp only [Act.put, List.setIfInBounds_toArray, List.set_cons_zero, List.set_cons_succ])
  refine takeL (i := 7) (v := ?_) rfl (by kernel_rfl) (by kernel_rfl) (by kernel_rfl) (fun _ _ _ h => h) (Or.inl ⟨by rfl, ?_⟩) (unhide HH) ?_
  rotate_left 1
  · intro W hSW; go_simp; all_goals (with_reducible rfl)
  (try simp only [Act.put, List.setIfInBounds_toArray, List.set_cons_zero, List.set_cons_succ])
  refine takeL (i := 8) (v := ?_) rfl (by kernel_rfl) (by kernel_rfl) (by kernel_rfl) (fun _ _ _ h => h) (Or.inl ⟨by rfl, ?_⟩) (unhide HH) ?_
  rotate_left 1
  · intro W hSW; go_simp; all_goals (with_reducible rfl)
  (try simp only [Act.put, List.setIfInBounds_toArray, List.set_cons_zero, List.set_cons_succ])
  refine takeL (i := 9) (v := ?_) rfl (by kernel_rfl) (by kernel_rfl) (by kernel_rfl) (fun _ _ _ h => h) (Or.inl ⟨by rfl, ?_⟩) (unhide HH) ?_
  rotate_left 1
  · intro W hSW; go_simp; all_goals (with_reducible rfl)
  (try simp only [Act.put, List.setIfInBounds_toArray, List.set_cons_zero, List.set_cons_succ])
  refine takeL (i := 10) (v := ?_) rfl (by kernel_rfl) (by kernel_rfl) (by kernel_rfl) (fun _ _ _ h => h) (Or.inl ⟨by rfl, ?_⟩) (unhide HH) ?_
  rotate_left 1
  · intro W hSW; go_simp; all_goals (with_reducible rfl)
  (try simp only [Act.put, List.setIfInBounds_toArray, List.set_cons_zero, List.set_cons_succ])
  refine takeL (i := 11) (v := ?_) rfl (by kernel_rfl) (by kernel_rfl) (by kernel_rfl) (fun _ _ _ h => h) (Or.inl ⟨by rfl, ?_⟩) (unhide HH) ?_
  rotate_left 1
  · intro W hSW; go_simp; all_goals (with_reducible rfl)
  (try simp only [Act.put, List.setIfInBounds_toArray, List.set_cons_zero, List.set_cons_succ])
  refine takeL (i := 12) (v := ?_) rfl (by kernel_rfl) (by kernel_rfl) (by kernel_rfl) (fun _ _ _ h => h) (Or.inl ⟨by rfl, ?_⟩) (unhide HH) ?_
  rotate_left 1
  · intro W hSW; go_simp; all_goals (with_reducible rfl)
  (try simp only [Act.put, List.setIfInBounds_toArray, List.set_cons_zero, List.set_cons_succ])
  refine wpAnyH_ready (rs := [6]) (by kernel_rfl) (by simp) ?_
  refine consL rfl (fun K hK => ?_) AllReadyH.nil
  go_simp
  refine (apart_any _ _ _ _ (X) (Y) _ (unhide HX) (unhide HY) (fun _ => by rw [unhide HXL]; omega)).mono ?_
  rintro e w3 ⟨v3, rfl, hO, hk⟩
  rw [unhide HLL] at hO
  replace HA := hide ((unhide HA).below hk)
  replace HB := hide ((unhide HB).below hk)
  replace HM := hide ((unhide HM).below hk)
  replace HL := hide ((unhide HL).below hk)
  replace HX := hide ((unhide HX).below hk)
  replace HY := hide ((unhide HY).below hk)
  replace HT := hide ((unhide HT).trans (hk.mono (unhide HT).size))
  obtain ⟨ao3, c3, g3, rfl, hZ⟩ := hO.za (unhide HLT)
  have HZ3 := hide hZ
  clear hZ hO
  go_wp2_with fail
  refine hK.out _ _ hk (fun hHeld => ?_)
  clear hK K HH hHeld
  (try simp only [Act.put, List.setIfInBounds_toArray, List.set_cons_zero, List.set_cons_succ])
  refine stronger (S' := fun W => Below w3.heap.size w3 W) (fun W h => hk.trans (h.mono hk.size)) _ _ _ _ ?_
  have HH : Hid (Below w3.heap.size w3 w3) := Below.refl _ _
  clear hk
  refine wpAnyH_ready (rs := [13]) (by kernel_rfl) (by simp) ?_
  refine consL rfl (fun K hK => ?_) AllReadyH.nil
  go_simp
  refine (rapart_any _ _ _ _ (X) (Y) _ (unhide HX) (unhide HY) (fun _ => by rw [unhide HXL]; omega)).mono ?_
  rintro e w4 ⟨v4, rfl, hO, hk⟩
  rw [unhide HLL] at hO
  replace HA := hide ((unhide HA).below hk)
  replace HB := hide ((unhide HB).below hk)
  replace HM := hide ((unhide HM).below hk)
  replace HL := hide ((unhide HL).below hk)
  replace HX := hide ((unhide HX).below hk)
  replace HY := hide ((unhide HY).below hk)
  replace HZ3 := hide ((unhide HZ3).below hk)
  replace HT := hide ((unhide HT).trans (hk.mono (unhide HT).size))
  obtain ⟨ao4, c4, g4, rfl, hZ⟩ := hO.za (unhide HLT)
  have HZ4 := hide hZ
  clear hZ hO
  go_wp2_with fail
  refine hK.out _ _ hk (fun hHeld => ?_)
  clear hK K HH hHeld
  (try simp only [Act.put, List.setIfInBounds_toArray, List.set_cons_zero, List.set_cons_succ])
  refine stronger (S' := fun W => Below w4.heap.size w4 W) (fun W h => hk.trans (h.mono hk.size)) _ _ _ _ ?_
  have HH : Hid (Below w4.heap.size w4 w4) := Below.refl _ _
  clear hk
  refine takeL (i := 14) (v := ?_) rfl (by kernel_rfl) (by kernel_rfl) (by kernel_rfl) (fun _ _ _ h => h) (Or.inl ⟨by rfl, ?_⟩) (unhide HH) ?_
  rotate_left 1
  · intro W hSW; go_simp; all_goals (with_reducible rfl)
  (try simp only [Act.put, List.setIfInBounds_toArray, List.set_cons_zero, List.set_cons_succ])
  refine takeL (i := 15) (v := ?_) rfl (by kernel_rfl) (by kernel_rfl) (by kernel_rfl) (fun _ _ _ h => h) (Or.inl ⟨by rfl, ?_⟩) (unhide HH) ?_
  rotate_left 1
  · intro W hSW; go_simp; all_goals (with_reducible rfl)
  (try simp only [Act.put, List.setIfInBounds_toArray, List.set_cons_zero, List.set_cons_succ])
  refine wpAnyH_done (by kernel_rfl) ?_ _
  refine NoPanic.normal ?_
  go_wp2_with fail
  refine (apart_any _ _ _ _ (a) (b) _ (unhide HA) (unhide HB) (fun _ => by rw [unhide HLA]; omega)).mono ?_
  rintro e w5 ⟨v5, rfl, hO, hk⟩
  rw [unhide HLL2] at hO
  replace HA := hide ((unhide HA).below hk)
  replace HB := hide ((unhide HB).below hk)
  replace HM := hide ((unhide HM).below hk)
  replace HL := hide ((unhide HL).below hk)
  replace HX := hide ((unhide HX).below hk)
  replace HY := hide ((unhide HY).below hk)
  replace HZ3 := hide ((unhide HZ3).below hk)
  replace HZ4 := hide ((unhide HZ4).below hk)
  replace HT := hide ((unhide HT).trans (hk.mono (unhide HT).size))
  obtain ⟨ao5, c5, g5, rfl, hZ⟩ := hO.za (unhide HLT2)
  have HZ5 := hide hZ
  clear hZ hO
  clear hk
  go_wp2_with fail
  refine (rapart_any _ _ _ _ (a) (b) _ (unhide HA) (unhide HB) (fun _ => by rw [unhide HLA]; omega)).mono ?_
  rintro e w6 ⟨v6, rfl, hO, hk⟩
  rw [unhide HLL2] at hO
  replace HA := hide ((unhide HA).below hk)
  replace HB := hide ((unhide HB).below hk)
  replace HM := hide ((unhide HM).below hk)
  replace HL := hide ((unhide HL).below hk)
  replace HX := hide ((unhide HX).below hk)
  replace HY := hide ((unhide HY).below hk)
  replace HZ3 := hide ((unhide HZ3).below hk)
  replace HZ4 := hide ((unhide HZ4).below hk)
  replace HZ5 := hide ((unhide HZ5).below hk)
  replace HT := hide ((unhide HT).trans (hk.mono (unhide HT).size))
  obtain ⟨ao6, c6, g6, rfl, hZ⟩ := hO.za (unhide HLT2)
  have HZ6 := hide hZ
  clear hZ hO
  clear hk
  have hLm : (L.length : Int) ≤ 9223372036854775807 := by
    have h := ap_len X Y
    rw [unhide HLL, unhide HXL] at h
    omega
  go_wp2_with fail
  go_loopw [12] (fun p wr => ∃ i : Nat, p = .int .i64 i ∧ i ≤ L.length ∧ Below w6.heap.size w6 wr) (fun p _ => L.length - (intOf p).toNat)
  case atStart => exact ⟨0, rfl, by omega, Below.refl _ _⟩
  case round =>
    obtain ⟨i, rfl, hi, hK⟩ := hrel
    have HK := hide hK
    clear hK
    by_cases hlt : i < L.length
    · have hi1 : (i : Int) < (L.length : Int) := by omega
      have hr1 := zarg_row ((unhide HZ3).below (unhide HK))
      have hr2 := zarg_row ((unhide HZ4).below (unhide HK))
      obtain ⟨o1, rfl⟩ := irow_some hr1 (by omega)
      obtain ⟨o2, rfl⟩ := irow_some hr2 (by omega)
      have hc1' := irow_cell hr1 (j := i) hlt
      have hc2' := irow_cell hr2 (j := i) hlt
      clear hr1 hr2
      go_wp2_with fail
      go_quiet (fail)
      have hk : Below wr.heap.size wr (wr.drewN nq) := below_drewN wr nq
      generalize wr.drewN nq = wq at hk ⊢
      have HK2 := hide ((unhide HK).trans (hk.mono (unhide HK).size))
      clear hk hc1' hc2'
      go_wp2_with fail
      go_roundw
      case rel => exact ⟨i + 1, by go_num, by omega, unhide HK2⟩
      case measure => simp [intOf]; omega
    · have hi2 : i = L.length := by omega
      subst hi2
      replace HT := hide ((unhide HT).trans ((unhide HK).mono (unhide HT).size))
      replace HA := hide ((unhide HA).below (unhide HK))
      replace HB := hide ((unhide HB).below (unhide HK))
      replace HM := hide ((unhide HM).below (unhide HK))
      replace HL := hide ((unhide HL).below (unhide HK))
      replace HX := hide ((unhide HX).below (unhide HK))
      replace HY := hide ((unhide HY).below (unhide HK))
      clear HK HZ3 HZ4 HZ5 HZ6
      go_wp2_with fail
      replace HT := hide ((unhide HT).drew)
      replace HA := hide ((unhide HA).below (Below.refl _ _).drew)
      replace HB := hide ((unhide HB).below (Below.refl _ _).drew)
      replace HM := hide ((unhide HM).below (Below.refl _ _).drew)
      replace HL := hide ((unhide HL).below (Below.refl _ _).drew)
      replace HX := hide ((unhide HX).below (Below.refl _ _).drew)
      replace HY := hide ((unhide HY).below (Below.refl _ _).drew)
      refine wp_region_noPanic ?_
      refine wp_region_held_drew (S := fun W => Below wr.drew.heap.size wr.drew W) (by kernel_rfl) (Below.refl _ _) (fun hHeld => ?_)
      have HH := hide hHeld
      clear hHeld
      generalize wr.drew = w31 at HT HA HB HM HL HX HY HH ⊢
      refine takeL (i := 0) (v := ?_) rfl (by kernel_rfl) (by kernel_rfl) (by kernel_rfl) (fun _ _ _ h => h) (Or.inl ⟨by rfl, ?_⟩) (unhide HH) ?_
      rotate_left 1
      · intro W hSW; go_simp; all_goals (with_reducible rfl)
      (try simp only [Act.put, List.setIfInBounds_toArray, List.set_cons_zero, List.set_cons_succ])
      refine takeL (i := 2) (v := ?_) rfl (by kernel_rfl) (by kernel_rfl) (by kernel_rfl) (fun _ _ _ h => h) (Or.inl ⟨by rfl, ?_⟩) (unhide HH) ?_
      rotate_left 1
      · intro W hSW; go_simp; all_goals (with_reducible rfl)
      (try simp only [Act.put, List.setIfInBounds_toArray, List.set_cons_zero, List.set_cons_succ])
      refine wpAnyH_ready (rs := [1]) (by kernel_rfl) (by simp) ?_
      refine consL rfl (fun K hK => ?_) AllReadyH.nil
      go_simp
      refine (ones6_any _ _ (a) _ (unhide HA) (by rw [unhide HLA]; omega)).mono ?_
      rintro e w32 ⟨rfl, hk⟩
      rw [unhide HOA]
      replace HA := hide ((unhide HA).below hk)
      replace HB := hide ((unhide HB).below hk)
      replace HM := hide ((unhide HM).below hk)
      replace HL := hide ((unhide HL).below hk)
      replace HX := hide ((unhide HX).below hk)
      replace HY := hide ((unhide HY).below hk)
      replace HT := hide ((unhide HT).trans (hk.mono (unhide HT).size))
      go_wp2_with fail
      refine hK.out _ _ hk (fun hHeld => ?_)
      clear hK K HH hHeld
      (try simp only [Act.put, List.setIfInBounds_toArray, List.set_cons_zero, List.set_cons_succ])
      refine stronger (S' := fun W => Below w32.heap.size w32 W) (fun W h => hk.trans (h.mono hk.size)) _ _ _ _ ?_
      have HH : Hid (Below w32.heap.size w32 w32) := Below.refl _ _
      clear hk
      refine wpAnyH_ready (rs := [3]) (by kernel_rfl) (by simp) ?_
      refine consL rfl (fun K hK => ?_) AllReadyH.nil
      go_simp
      refine (rones_b _ _ (a) _ (unhide HA) (by rw [unhide HLA]; omega)).mono ?_
      rintro e w33 ⟨rfl, hk⟩
      rw [unhide HOA]
      replace HA := hide ((unhide HA).below hk)
      replace HB := hide ((unhide HB).below hk)
      replace HM := hide ((unhide HM).below hk)
      replace HL := hide ((unhide HL).below hk)
      replace HX := hide ((unhide HX).below hk)
      replace HY := hide ((unhide HY).below hk)
      replace HT := hide ((unhide HT).trans (hk.mono (unhide HT).size))
      go_wp2_with fail
      refine hK.out _ _ hk (fun hHeld => ?_)
      clear hK K HH hHeld
      (try simp only [Act.put, List.setIfInBounds_toArray, List.set_cons_zero, List.set_cons_succ])
      refine stronger (S' := fun W => Below w33.heap.size w33 W) (fun W h => hk.trans (h.mono hk.size)) _ _ _ _ ?_
      have HH : Hid (Below w33.heap.size w33 w33) := Below.refl _ _
      clear hk
      refine takeL (i := 4) (v := ?_) rfl (by kernel_rfl) (by kernel_rfl) (by kernel_rfl) (fun _ _ _ h => h) (Or.inl ⟨by rfl, ?_⟩) (unhide HH) ?_
      rotate_left 1
      · intro W hSW; go_simp; all_goals (with_reducible rfl)
      (try simp only [Act.put, List.setIfInBounds_toArray, List.set_cons_zero, List.set_cons_succ])
      refine takeL (i := 5) (v := ?_) rfl (by kernel_rfl) (by kernel_rfl) (by kernel_rfl) (fun _ _ _ h => h) (Or.inl ⟨by rfl, ?_⟩) (unhide HH) ?_
      rotate_left 1
      · intro W hSW; go_simp; all_goals (with_reducible rfl)
      (try simp only [Act.put, List.setIfInBounds_toArray, List.set_cons_zero, List.set_cons_succ])
      refine takeL (i := 7) (v := ?_) rfl (by kernel_rfl) (by kernel_rfl) (by kernel_rfl) (fun _ _ _ h => h) (Or.inl ⟨by rfl, ?_⟩) (unhide HH) ?_
      rotate_left 1
      · intro W hSW; go_simp; all_goals (with_reducible rfl)
      (try simp only [Act.put, List.setIfInBounds_toArray, List.set_cons_zero, List.set_cons_succ])
      refine takeL (i := 9) (v := ?_) rfl (by kernel_rfl) (by kernel_rfl) (by kernel_rfl) (fun _ _ _ h => h) (Or.inl ⟨by rfl, ?_⟩) (unhide HH) ?_
      rotate_left 1
      · intro W hSW; go_simp; all_goals (with_reducible rfl)
      (try simp only [Act.put, List.setIfInBounds_toArray, List.set_cons_zero, List.set_cons_succ])
      refine takeL (i := 12) (v := ?_) rfl (by kernel_rfl) (by kernel_rfl) (by kernel_rfl) (fun _ _ _ h => h) (Or.inl ⟨by rfl, ?_⟩) (unhide HH) ?_
      rotate_left 1
      · intro W hSW; go_simp; all_goals (with_reducible rfl)
      (try simp only [Act.put, List.setIfInBounds_toArray, List.set_cons_zero, List.set_cons_succ])
      refine takeL (i := 13) (v := ?_) rfl (by kernel_rfl) (by kernel_rfl) (by kernel_rfl) (fun _ _ _ h => h) (Or.inl ⟨by rfl, ?_⟩) (unhide HH) ?_
      rotate_left 1
      · intro W hSW; go_simp; all_goals (with_reducible rfl)
      (try simp only [Act.put, List.setIfInBounds_toArray, List.set_cons_zero, List.set_cons_succ])
      refine wpAnyH_ready (rs := [6]) (by kernel_rfl) (by simp) ?_
      refine consL rfl (fun K hK => ?_) AllReadyH.nil
      go_simp
      have hk : Below w33.heap.size w33 (w33.alloc (.cells #[] 5)) := (Below.refl _ _).alloc (Nat.le_refl _) _
      have hOZ := own_none w33 5
      generalize w33.alloc (.cells #[] 5) = w34 at hk hOZ ⊢
      have HO34 := hide hOZ
      clear hOZ
      refine hK.out _ _ hk (fun hHeld => ?_)
      clear hK K HH hk
      have HH := hide hHeld
      clear hHeld
      (try simp only [Act.put, List.setIfInBounds_toArray, List.set_cons_zero, List.set_cons_succ])
      refine wpAnyH_ready (rs := [8]) (by kernel_rfl) (by simp) ?_
      refine consL rfl (fun K hK => ?_) AllReadyH.nil
      rw [if_pos (by rfl)]
      refine wp_append_b (.tmp 89) (.tmp 90) (by rfl) w33.heap.size _ 0 [] (ints a) (by rfl) (unhide HO34) _ _ la _ (by rfl) (by rw [ints_len]; exact unhide HLA) (arg_row ((unhide HA).below (unhide HH))) (unhide HNIL) (by omega) (unhide HH).size ?_
      intro v35 w35 ho hg
      have hF := (owns_fr (s := a) ho).2
      have hk : Below w33.heap.size w33 w35 := below_grown (unhide HH) hg (unhide HH).size (fun k hk => by have e2 : w33.heap.size = k := Option.some.inj hk; omega)
      clear ho hg
      replace HA := hide ((unhide HA).below hk)
      replace HB := hide ((unhide HB).below hk)
      replace HM := hide ((unhide HM).below hk)
      replace HL := hide ((unhide HL).below hk)
      replace HX := hide ((unhide HX).below hk)
      replace HY := hide ((unhide HY).below hk)
      replace HT := hide ((unhide HT).trans (hk.mono (unhide HT).size))
      obtain ⟨g35, hA, hge⟩ := hF.arg hba
      obtain ⟨⟨ao35, c35, rfl, h1, h2, h3, h4⟩, _⟩ := hA
      have HA35 : Hid (Arg w35 (.slice ao35 la c35) g35 (a)) := ⟨⟨ao35, c35, by rw [(unhide HLA)], h1, h2, h3, h4⟩, hba⟩
      rw [show (a).length = la from (unhide HLA)]
      clear h1 h2 h3 h4 hF hge
      refine hK.out _ _ hk (fun hHeld => ?_)
      clear hK K HH hHeld
      (try simp only [Act.put, List.setIfInBounds_toArray, List.set_cons_zero, List.set_cons_succ])
      refine stronger (S' := fun W => Below w35.heap.size w35 W) (fun W h => hk.trans (h.mono hk.size)) _ _ _ _ ?_
      have HH : Hid (Below w35.heap.size w35 w35) := Below.refl _ _
      clear hk
      refine wpAnyH_ready (rs := [10]) (by kernel_rfl) (by simp) ?_
      refine consL rfl (fun K hK => ?_) AllReadyH.nil
      go_simp
      refine (flip6_any _ _ _ _ (a) (zs) _ (unhide HA35) (unhide HL) (by rw [unhide HLA]; omega)).mono ?_
      rintro e w36 ⟨v36, rfl, hF, hk⟩
      rw [unhide HF0] at hF
      replace HA := hide ((unhide HA).below hk)
      replace HB := hide ((unhide HB).below hk)
      replace HM := hide ((unhide HM).below hk)
      replace HL := hide ((unhide HL).below hk)
      replace HX := hide ((unhide HX).below hk)
      replace HY := hide ((unhide HY).below hk)
      replace HA35 := hide ((unhide HA35).below hk)
      replace HT := hide ((unhide HT).trans (hk.mono (unhide HT).size))
      obtain ⟨g36, hA, hge⟩ := hF.arg hfb
      obtain ⟨⟨ao36, c36, rfl, h1, h2, h3, h4⟩, _⟩ := hA
      have HA36 : Hid (Arg w36 (.slice ao36 la c36) g36 (F)) := ⟨⟨ao36, c36, by rw [(unhide HFL)], h1, h2, h3, h4⟩, hfb⟩
      rw [show (F).length = la from (unhide HFL)]
      clear h1 h2 h3 h4 hF hge
      go_wp2_with fail
      refine hK.out _ _ hk (fun hHeld => ?_)
      clear hK K HH hHeld
      (try simp only [Act.put, List.setIfInBounds_toArray, List.set_cons_zero, List.set_cons_succ])
      refine stronger (S' := fun W => Below w36.heap.size w36 W) (fun W h => hk.trans (h.mono hk.size)) _ _ _ _ ?_
      have HH : Hid (Below w36.heap.size w36 w36) := Below.refl _ _
      clear hk
      refine takeL (i := 11) (v := ?_) rfl (by kernel_rfl) (by kernel_rfl) (by kernel_rfl) (fun _ _ _ h => h) (Or.inl ⟨by rfl, ?_⟩) (unhide HH) ?_
      rotate_left 1
      · intro W1 hSW; have hcv := conv_arg ((unhide HA36).below hSW); clear hSW; go_simp; all_goals (with_reducible rfl)
      (try simp only [Act.put, List.setIfInBounds_toArray, List.set_cons_zero, List.set_cons_succ])
      refine wpAnyH_ready (rs := [14]) (by kernel_rfl) (by simp) ?_
      refine consL rfl (fun K hK => ?_) AllReadyH.nil
      go_simp
      refine (rflip_any _ _ _ _ (a) (zs) _ (unhide HA) (unhide HL) (by rw [unhide HLA]; omega)).mono ?_
      rintro e w37 ⟨v37, rfl, hF, hk⟩
      rw [unhide HF0] at hF
      replace HA := hide ((unhide HA).below hk)
      replace HB := hide ((unhide HB).below hk)
      replace HM := hide ((unhide HM).below hk)
      replace HL := hide ((unhide HL).below hk)
      replace HX := hide ((unhide HX).below hk)
      replace HY := hide ((unhide HY).below hk)
      replace HA35 := hide ((unhide HA35).below hk)
      replace HA36 := hide ((unhide HA36).below hk)
      replace HT := hide ((unhide HT).trans (hk.mono (unhide HT).size))
      obtain ⟨g37, hA, hge⟩ := hF.arg hfb
      obtain ⟨⟨ao37, c37, rfl, h1, h2, h3, h4⟩, _⟩ := hA
      have HA37 : Hid (Arg w37 (.slice ao37 la c37) g37 (F)) := ⟨⟨ao37, c37, by rw [(unhide HFL)], h1, h2, h3, h4⟩, hfb⟩
      rw [show (F).length = la from (unhide HFL)]
      clear h1 h2 h3 h4 hF hge
      go_wp2_with fail
      refine hK.out _ _ hk (fun hHeld => ?_)
      clear hK K HH hHeld
      (try simp only [Act.put, List.setIfInBounds_toArray, List.set_cons_zero, List.set_cons_succ])
      refine stronger (S' := fun W => Below w37.heap.size w37 W) (fun W h => hk.trans (h.mono hk.size)) _ _ _ _ ?_
      have HH : Hid (Below w37.heap.size w37 w37) := Below.refl _ _
      clear hk
      refine takeL (i := 15) (v := ?_) rfl (by kernel_rfl) (by kernel_rfl) (by kernel_rfl) (fun _ _ _ h => h) (Or.inl ⟨by rfl, ?_⟩) (unhide HH) ?_
      rotate_left 1
      · intro W1 hSW; have hcv := conv_arg ((unhide HA37).below hSW); clear hSW; go_simp; all_goals (with_reducible rfl)
      (try simp only [Act.put, List.setIfInBounds_toArray, List.set_cons_zero, List.set_cons_succ])
      refine takeL (i := 16) (v := ?_) rfl (by kernel_rfl) (by kernel_rfl) (by kernel_rfl) (fun _ _ _ h => h) (Or.inl ⟨by rfl, ?_⟩) (unhide HH) ?_
      rotate_left 1
      · intro W hSW; go_simp; all_goals (with_reducible rfl)
      (try simp only [Act.put, List.setIfInBounds_toArray, List.set_cons_zero, List.set_cons_succ])
      refine takeL (i := 17) (v := ?_) rfl (by kernel_rfl) (by kernel_rfl) (by kernel_rfl) (fun _ _ _ h => h) (Or.inl ⟨by rfl, ?_⟩) (unhide HH) ?_
      rotate_left 1
      · intro W hSW; go_simp; all_goals (with_reducible rfl)
      (try simp only [Act.put, List.setIfInBounds_toArray, List.set_cons_zero, List.set_cons_succ])
      refine takeL (i := 18) (v := ?_) rfl (by kernel_rfl) (by kernel_rfl) (by kernel_rfl) (fun _ _ _ h => h) (Or.inl ⟨by rfl, ?_⟩) (unhide HH) ?_
      rotate_left 1
      · intro W hSW; go_simp; all_goals (with_reducible rfl)
      (try simp only [Act.put, List.setIfInBounds_toArray, List.set_cons_zero, List.set_cons_succ])
      refine takeL (i := 19) (v := ?_) rfl (by kernel_rfl) (by kernel_rfl) (by kernel_rfl) (fun _ _ _ h => h) (Or.inl ⟨by rfl, ?_⟩) (unhide HH) ?_
      rotate_left 1
      · intro W hSW; go_simp; all_goals (with_reducible rfl)
      (try simp only [Act.put, List.setIfInBounds_toArray, List.set_cons_zero, List.set_cons_succ])
      refine takeL (i := 20) (v := ?_) rfl (by kernel_rfl) (by kernel_rfl) (by kernel_rfl) (fun _ _ _ h => h) (Or.inl ⟨by rfl, ?_⟩) (unhide HH) ?_
      rotate_left 1
      · intro W hSW; go_simp; all_goals (with_reducible rfl)
      (try simp only [Act.put, List.setIfInBounds_toArray, List.set_cons_zero, List.set_cons_succ])
      refine takeL (i := 21) (v := ?_) rfl (by kernel_rfl) (by kernel_rfl) (by kernel_rfl) (fun _ _ _ h => h) (Or.inl ⟨by rfl, ?_⟩) (unhide HH) ?_
      rotate_left 1
      · intro W hSW; go_simp; all_goals (with_reducible rfl)
      (try simp only [Act.put, List.setIfInBounds_toArray, List.set_cons_zero, List.set_cons_succ])
      refine takeL (i := 24) (v := ?_) rfl (by kernel_rfl) (by kernel_rfl) (by kernel_rfl) (fun _ _ _ h => h) (Or.inl ⟨by rfl, ?_⟩) (unhide HH) ?_
      rotate_left 1
      · intro W hSW; go_simp; all_goals (with_reducible rfl)
      (try simp only [Act.put, List.setIfInBounds_toArray, List.set_cons_zero, List.set_cons_succ])
      refine takeL (i := 25) (v := ?_) rfl (by kernel_rfl) (by kernel_rfl) (by kernel_rfl) (fun _ _ _ h => h) (Or.inl ⟨by rfl, ?_⟩) (unhide HH) ?_
      rotate_left 1
      · intro W hSW; go_simp; all_goals (with_reducible rfl)
      (try simp only [Act.put, List.setIfInBounds_toArray, List.set_cons_zero, List.set_cons_succ])
      refine takeL (i := 26) (v := ?_) rfl (by kernel_rfl) (by kernel_rfl) (by kernel_rfl) (fun _ _ _ h => h) (Or.inl ⟨by rfl, ?_⟩) (unhide HH) ?_
      rotate_left 1
      · intro W hSW; go_simp; all_goals (with_reducible rfl)
      (try simp only [Act.put, List.setIfInBounds_toArray, List.set_cons_zero, List.set_cons_succ])
      refine wpAnyH_ready (rs := [22]) (by kernel_rfl) (by simp) ?_
      refine consL rfl (fun K hK => ?_) AllReadyH.nil
      go_simp
      refine (mix_any _ _ _ _ _ _ (a) (b) (mask) _ (unhide HA) (unhide HB) (unhide HM) (fun _ => by rw [unhide HLA]; omega)).mono ?_
      rintro e w38 ⟨v38, rfl, hF, hk⟩
      rw [unhide HR0] at hF
      replace HA := hide ((unhide HA).below hk)
      replace HB := hide ((unhide HB).below hk)
      replace HM := hide ((unhide HM).below hk)
      replace HL := hide ((unhide HL).below hk)
      replace HX := hide ((unhide HX).below hk)
      replace HY := hide ((unhide HY).below hk)
      replace HA35 := hide ((unhide HA35).below hk)
      replace HA36 := hide ((unhide HA36).below hk)
      replace HA37 := hide ((unhide HA37).below hk)
      replace HT := hide ((unhide HT).trans (hk.mono (unhide HT).size))
      obtain ⟨g38, hA, hge⟩ := hF.arg hrb
      obtain ⟨⟨ao38, c38, rfl, h1, h2, h3, h4⟩, _⟩ := hA
      have HA38 : Hid (Arg w38 (.slice ao38 (R).length c38) g38 (R)) := ⟨⟨ao38, c38, rfl, h1, h2, h3, h4⟩, hrb⟩
      clear h1 h2 h3 h4 hF hge
      go_wp2_with fail
      refine hK.out _ _ hk (fun hHeld => ?_)
      clear hK K HH hHeld
      (try simp only [Act.put, List.setIfInBounds_toArray, List.set_cons_zero, List.set_cons_succ])
      refine stronger (S' := fun W => Below w38.heap.size w38 W) (fun W h => hk.trans (h.mono hk.size)) _ _ _ _ ?_
      have HH : Hid (Below w38.heap.size w38 w38) := Below.refl _ _
      clear hk
      refine takeL (i := 23) (v := ?_) rfl (by kernel_rfl) (by kernel_rfl) (by kernel_rfl) (fun _ _ _ h => h) (Or.inl ⟨by rfl, ?_⟩) (unhide HH) ?_
      rotate_left 1
      · intro W1 hSW; have hcv := conv_arg ((unhide HA38).below hSW); clear hSW; go_simp; all_goals (with_reducible rfl)
      (try simp only [Act.put, List.setIfInBounds_toArray, List.set_cons_zero, List.set_cons_succ])
      refine wpAnyH_ready (rs := [27]) (by kernel_rfl) (by simp) ?_
      refine consL rfl (fun K hK => ?_) AllReadyH.nil
      go_simp
      refine (rmix_any _ _ _ _ _ _ (a) (b) (mask) _ (unhide HA) (unhide HB) (unhide HM) (fun _ => by rw [unhide HLA]; omega)).mono ?_
      rintro e w39 ⟨v39, rfl, hF, hk⟩
      rw [unhide HR0] at hF
      replace HA := hide ((unhide HA).below hk)
      replace HB := hide ((unhide HB).below hk)
      replace HM := hide ((unhide HM).below hk)
      replace HL := hide ((unhide HL).below hk)
      replace HX := hide ((unhide HX).below hk)
      replace HY := hide ((unhide HY).below hk)
      replace HA35 := hide ((unhide HA35).below hk)
      replace HA36 := hide ((unhide HA36).below hk)
      replace HA37 := hide ((unhide HA37).below hk)
      replace HA38 := hide ((unhide HA38).below hk)
      replace HT := hide ((unhide HT).trans (hk.mono (unhide HT).size))
      obtain ⟨g39, hA, hge⟩ := hF.arg hrb
      obtain ⟨⟨ao39, c39, rfl, h1, h2, h3, h4⟩, _⟩ := hA
      have HA39 : Hid (Arg w39 (.slice ao39 (R).length c39) g39 (R)) := ⟨⟨ao39, c39, rfl, h1, h2, h3, h4⟩, hrb⟩
      clear h1 h2 h3 h4 hF hge
      go_wp2_with fail
      refine hK.out _ _ hk (fun hHeld => ?_)
      clear hK K HH hHeld
      (try simp only [Act.put, List.setIfInBounds_toArray, List.set_cons_zero, List.set_cons_succ])
      refine stronger (S' := fun W => Below w39.heap.size w39 W) (fun W h => hk.trans (h.mono hk.size)) _ _ _ _ ?_
      have HH : Hid (Below w39.heap.size w39 w39) := Below.refl _ _
      clear hk
      refine takeL (i := 28) (v := ?_) rfl (by kernel_rfl) (by kernel_rfl) (by kernel_rfl) (fun _ _ _ h => h) (Or.inl ⟨by rfl, ?_⟩) (unhide HH) ?_
      rotate_left 1
      · intro W1 hSW; have hcv := conv_arg ((unhide HA39).below hSW); clear hSW; go_simp; all_goals (with_reducible rfl)
      (try simp only [Act.put, List.setIfInBounds_toArray, List.set_cons_zero, List.set_cons_succ])
      refine takeL (i := 29) (v := ?_) rfl (by kernel_rfl) (by kernel_rfl) (by kernel_rfl) (fun _ _ _ h => h) (Or.inl ⟨by rfl, ?_⟩) (unhide HH) ?_
      rotate_left 1
      · intro W hSW; go_simp; all_goals (with_reducible rfl)
      (try simp only [Act.put, List.setIfInBounds_toArray, List.set_cons_zero, List.set_cons_succ])
      refine takeL (i := 30) (v := ?_) rfl (by kernel_rfl) (by kernel_rfl) (by kernel_rfl) (fun _ _ _ h => h) (Or.inl ⟨by rfl, ?_⟩) (unhide HH) ?_
      rotate_left 1
      · intro W hSW; go_simp; all_goals (with_reducible rfl)
      (try simp only [Act.put, List.setIfInBounds_toArray, List.set_cons_zero, List.set_cons_succ])
      refine takeL (i := 31) (v := ?_) rfl (by kernel_rfl) (by kernel_rfl) (by kernel_rfl) (fun _ _ _ h => h) (Or.inl ⟨by rfl, ?_⟩) (unhide HH) ?_
      rotate_left 1
      · intro W hSW; go_simp; all_goals (with_reducible rfl)
      (try simp only [Act.put, List.setIfInBounds_toArray, List.set_cons_zero, List.set_cons_succ])
      refine takeL (i := 32) (v := ?_) rfl (by kernel_rfl) (by kernel_rfl) (by kernel_rfl) (fun _ _ _ h => h) (Or.inl ⟨by rfl, ?_⟩) (unhide HH) ?_
      rotate_left 1
      · intro W hSW; go_simp; all_goals (with_reducible rfl)
      (try simp only [Act.put, List.setIfInBounds_toArray, List.set_cons_zero, List.set_cons_succ])
      refine takeL (i := 33) (v := ?_) rfl (by kernel_rfl) (by kernel_rfl) (by kernel_rfl) (fun _ _ _ h => h) (Or.inl ⟨by rfl, ?_⟩) (unhide HH) ?_
      rotate_left 1
      · intro W hSW; go_simp; all_goals (with_reducible rfl)
      (try simp only [Act.put, List.setIfInBounds_toArray, List.set_cons_zero, List.set_cons_succ])
      refine takeL (i := 34) (v := ?_) rfl (by kernel_rfl) (by kernel_rfl) (by kernel_rfl) (fun _ _ _ h => h) (Or.inl ⟨by rfl, ?_⟩) (unhide HH) ?_
      rotate_left 1
      · intro W hSW; go_simp; all_goals (with_reducible rfl)
      (try simp only [Act.put, List.setIfInBounds_toArray, List.set_cons_zero, List.set_cons_succ])
      refine takeL (i := 35) (v := ?_) rfl (by kernel_rfl) (by kernel_rfl) (by kernel_rfl) (fun _ _ _ h => h) (Or.inl ⟨by rfl, ?_⟩) (unhide HH) ?_
      rotate_left 1
      · intro W hSW; go_simp; all_goals (with_reducible rfl)
      (try simp only [Act.put, List.setIfInBounds_toArray, List.set_cons_zero, List.set_cons_succ])
      refine takeL (i := 36) (v := ?_) rfl (by kernel_rfl) (by kernel_rfl) (by kernel_rfl) (fun _ _ _ h => h) (Or.inl ⟨by rfl, ?_⟩) (unhide HH) ?_
      rotate_left 1
      · intro W hSW; go_simp; all_goals (with_reducible rfl)
      (try simp only [Act.put, List.setIfInBounds_toArray, List.set_cons_zero, List.set_cons_succ])
      refine takeL (i := 37) (v := ?_) rfl (by kernel_rfl) (by kernel_rfl) (by kernel_rfl) (fun _ _ _ h => h) (Or.inl ⟨by rfl, ?_⟩) (unhide HH) ?_
      rotate_left 1
      · intro W hSW; go_simp; all_goals (with_reducible rfl)
      (try simp only [Act.put, List.setIfInBounds_toArray, List.set_cons_zero, List.set_cons_succ])
      refine takeL (i := 38) (v := ?_) rfl (by kernel_rfl) (by kernel_rfl) (by kernel_rfl) (fun _ _ _ h => h) (Or.inl ⟨by rfl, ?_⟩) (unhide HH) ?_
      rotate_left 1
      · intro W hSW; go_simp; all_goals (with_reducible rfl)
      (try simp only [Act.put, List.setIfInBounds_toArray, List.set_cons_zero, List.set_cons_succ])
      refine takeL (i := 41) (v := ?_) rfl (by kernel_rfl) (by kernel_rfl) (by kernel_rfl) (fun _ _ _ h => h) (Or.inl ⟨by rfl, ?_⟩) (unhide HH) ?_
      rotate_left 1
      · intro W hSW; go_simp; all_goals (with_reducible rfl)
      (try simp only [Act.put, List.setIfInBounds_toArray, List.set_cons_zero, List.set_cons_succ])
      refine takeL (i := 42) (v := ?_) rfl (by kernel_rfl) (by kernel_rfl) (by kernel_rfl) (fun _ _ _ h => h) (Or.inl ⟨by rfl, ?_⟩) (unhide HH) ?_
      rotate_left 1
      · intro W hSW; go_simp; all_goals (with_reducible rfl)
      (try simp only [Act.put, List.setIfInBounds_toArray, List.set_cons_zero, List.set_cons_succ])
      refine takeL (i := 43) (v := ?_) rfl (by kernel_rfl) (by kernel_rfl) (by kernel_rfl) (fun _ _ _ h => h) (Or.inl ⟨by rfl, ?_⟩) (unhide HH) ?_
      rotate_left 1
      · intro W hSW; go_simp; all_goals (with_reducible rfl)
      (try simp only [Act.put, List.setIfInBounds_toArray, List.set_cons_zero, List.set_cons_succ])
      refine takeL (i := 44) (v := ?_) rfl (by kernel_rfl) (by kernel_rfl) (by kernel_rfl) (fun _ _ _ h => h) (Or.inl ⟨by rfl, ?_⟩) (unhide HH) ?_
      rotate_left 1
      · intro W hSW; go_simp; all_goals (with_reducible rfl)
      (try simp only [Act.put, List.setIfInBounds_toArray, List.set_cons_zero, List.set_cons_succ])
      refine takeL (i := 45) (v := ?_) rfl (by kernel_rfl) (by kernel_rfl) (by kernel_rfl) (fun _ _ _ h => h) (Or.inl ⟨by rfl, ?_⟩) (unhide HH) ?_
      rotate_left 1
      · intro W hSW; go_simp; all_goals (with_reducible rfl)
      (try simp only [Act.put, List.setIfInBounds_toArray, List.set_cons_zero, List.set_cons_succ])
      refine takeL (i := 46) (v := ?_) rfl (by kernel_rfl) (by kernel_rfl) (by kernel_rfl) (fun _ _ _ h => h) (Or.inl ⟨by rfl, ?_⟩) (unhide HH) ?_
      rotate_left 1
      · intro W hSW; go_simp; all_goals (with_reducible rfl)
      (try simp only [Act.put, List.setIfInBounds_toArray, List.set_cons_zero, List.set_cons_succ])
      refine takeL (i := 47) (v := ?_) rfl (by kernel_rfl) (by kernel_rfl) (by kernel_rfl) (fun _ _ _ h => h) (Or.inl ⟨by rfl, ?_⟩) (unhide HH) ?_
      rotate_left 1
      · intro W hSW; go_simp; all_goals (with_reducible rfl)
      (try simp only [Act.put, List.setIfInBounds_toArray, List.set_cons_zero, List.set_cons_succ])
      refine wpAnyH_ready (rs := [39]) (by kernel_rfl) (by simp) ?_
      refine consL rfl (fun K hK => ?_) AllReadyH.nil
      go_simp
      refine (mix_any _ _ _ _ _ _ (X) (Y) (mask) _ (unhide HX) (unhide HY) (unhide HM) (fun _ => by rw [unhide HXL]; omega)).mono ?_
      rintro e w40 ⟨v40, rfl, hF, hk⟩
      rw [unhide HQ0] at hF
      replace HA := hide ((unhide HA).below hk)
      replace HB := hide ((unhide HB).below hk)
      replace HM := hide ((unhide HM).below hk)
      replace HL := hide ((unhide HL).below hk)
      replace HX := hide ((unhide HX).below hk)
      replace HY := hide ((unhide HY).below hk)
      replace HA35 := hide ((unhide HA35).below hk)
      replace HA36 := hide ((unhide HA36).below hk)
      replace HA37 := hide ((unhide HA37).below hk)
      replace HA38 := hide ((unhide HA38).below hk)
      replace HA39 := hide ((unhide HA39).below hk)
      replace HT := hide ((unhide HT).trans (hk.mono (unhide HT).size))
      obtain ⟨g40, hA, hge⟩ := hF.arg hqb
      obtain ⟨⟨ao40, c40, rfl, h1, h2, h3, h4⟩, _⟩ := hA
      have HA40 : Hid (Arg w40 (.slice ao40 (Q).length c40) g40 (Q)) := ⟨⟨ao40, c40, rfl, h1, h2, h3, h4⟩, hqb⟩
      clear h1 h2 h3 h4 hF hge
      go_wp2_with fail
      refine hK.out _ _ hk (fun hHeld => ?_)
      clear hK K HH hHeld
      (try simp only [Act.put, List.setIfInBounds_toArray, List.set_cons_zero, List.set_cons_succ])
      refine stronger (S' := fun W => Below w40.heap.size w40 W) (fun W h => hk.trans (h.mono hk.size)) _ _ _ _ ?_
      have HH : Hid (Below w40.heap.size w40 w40) := Below.refl _ _
      clear hk
      refine takeL (i := 40) (v := ?_) rfl (by kernel_rfl) (by kernel_rfl) (by kernel_rfl) (fun _ _ _ h => h) (Or.inl ⟨by rfl, ?_⟩) (unhide HH) ?_
      rotate_left 1
      · intro W1 hSW; have hcv := conv_arg ((unhide HA40).below hSW); clear hSW; go_simp; all_goals (with_reducible rfl)
      (try simp only [Act.put, List.setIfInBounds_toArray, List.set_cons_zero, List.set_cons_succ])
      refine wpAnyH_ready (rs := [48]) (by kernel_rfl) (by simp) ?_
      refine consL rfl (fun K hK => ?_) AllReadyH.nil
      go_simp
      refine (rmix_any _ _ _ _ _ _ (X) (Y) (mask) _ (unhide HX) (unhide HY) (unhide HM) (fun _ => by rw [unhide HXL]; omega)).mono ?_
      rintro e w41 ⟨v41, rfl, hF, hk⟩
      rw [unhide HQ0] at hF
      replace HA := hide ((unhide HA).below hk)
      replace HB := hide ((unhide HB).below hk)
      replace HM := hide ((unhide HM).below hk)
      replace HL := hide ((unhide HL).below hk)
      replace HX := hide ((unhide HX).below hk)
      replace HY := hide ((unhide HY).below hk)
      replace HA35 := hide ((unhide HA35).below hk)
      replace HA36 := hide ((unhide HA36).below hk)
      replace HA37 := hide ((unhide HA37).below hk)
      replace HA38 := hide ((unhide HA38).below hk)
      replace HA39 := hide ((unhide HA39).below hk)
      replace HA40 := hide ((unhide HA40).below hk)
      replace HT := hide ((unhide HT).trans (hk.mono (unhide HT).size))
      obtain ⟨g41, hA, hge⟩ := hF.arg hqb
      obtain ⟨⟨ao41, c41, rfl, h1, h2, h3, h4⟩, _⟩ := hA
      have HA41 : Hid (Arg w41 (.slice ao41 (Q).length c41) g41 (Q)) := ⟨⟨ao41, c41, rfl, h1, h2, h3, h4⟩, hqb⟩
      clear h1 h2 h3 h4 hF hge
      go_wp2_with fail
      refine hK.out _ _ hk (fun hHeld => ?_)
      clear hK K HH hHeld
      (try simp only [Act.put, List.setIfInBounds_toArray, List.set_cons_zero, List.set_cons_succ])
      refine stronger (S' := fun W => Below w41.heap.size w41 W) (fun W h => hk.trans (h.mono hk.size)) _ _ _ _ ?_
      have HH : Hid (Below w41.heap.size w41 w41) := Below.refl _ _
      clear hk
      refine takeL (i := 49) (v := ?_) rfl (by kernel_rfl) (by kernel_rfl) (by kernel_rfl) (fun _ _ _ h => h) (Or.inl ⟨by rfl, ?_⟩) (unhide HH) ?_
      rotate_left 1
      · intro W1 hSW; have hcv := conv_arg ((unhide HA41).below hSW); clear hSW; go_simp; all_goals (with_reducible rfl)
      (try simp only [Act.put, List.setIfInBounds_toArray, List.set_cons_zero, List.set_cons_succ])
      refine takeL (i := 50) (v := ?_) rfl (by kernel_rfl) (by kernel_rfl) (by kernel_rfl) (fun _ _ _ h => h) (Or.inl ⟨by rfl, ?_⟩) (unhide HH) ?_
      rotate_left 1
      · intro W hSW; go_simp; all_goals (with_reducible rfl)
      (try simp only [Act.put, List.setIfInBounds_toArray, List.set_cons_zero, List.set_cons_succ])
      refine takeL (i := 51) (v := ?_) rfl (by kernel_rfl) (by kernel_rfl) (by kernel_rfl) (fun _ _ _ h => h) (Or.inl ⟨by rfl, ?_⟩) (unhide HH) ?_
      rotate_left 1
      · intro W hSW; go_simp; all_goals (with_reducible rfl)
      (try simp only [Act.put, List.setIfInBounds_toArray, List.set_cons_zero, List.set_cons_succ])
      refine takeL (i := 52) (v := ?_) rfl (by kernel_rfl) (by kernel_rfl) (by kernel_rfl) (fun _ _ _ h => h) (Or.inl ⟨by rfl, ?_⟩) (unhide HH) ?_
      rotate_left 1
      · intro W hSW; go_simp; all_goals (with_reducible rfl)
      (try simp only [Act.put, List.setIfInBounds_toArray, List.set_cons_zero, List.set_cons_succ])
      refine wpAnyH_done (by kernel_rfl) ?_ _
      refine NoPanic.normal ?_
      go_wp2
      go_ret
      exact ⟨rfl, unhide HT⟩

end Go.Proofs.Ytoljplfijopcmaa
