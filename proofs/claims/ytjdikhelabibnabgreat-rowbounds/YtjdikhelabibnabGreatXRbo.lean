/-
  The walk of RowBounds.
-/
import Derived.Test.YtjdikhelabibnabGreatMbi
import Derived.Test.YtjdikhelabibnabGreatMav
namespace Go.Proofs.YtjdikhelabibnabGreat
open Go Go.RowKit Go.Shelf

theorem z_nilB (w : World) : ZArg w (.slice none 0 0) 0 (ints []) := ⟨⟨none, 0, rfl, by simp [ints], by simp, fun _ => rfl, .inl rfl⟩, by simp [ints]⟩
theorem run_evsB (N : Nat) (hN : N ≤ 1000) (w : World) : (Instr.makeSlice 22 (.int .i64 (N : Int)) (.int .i64 (N : Int))).run Tryz.prog w = .ok (.slice (some ⟨w.heap.size, 0, none⟩) N N) (w.alloc (.cells (madeCells zEV.ar (N * 19)) 46)) := by
  obtain ⟨i0, hi0, hz0, hz1, hz2⟩ := info_parts infoTE
  have h := run_make (P := Tryz.prog) w 22 46 i0 _ Tryz.underlying22 hi0 hz0 .i64 .i64 (N : Int) (N : Int) (by omega) (by omega) (by rw [hz2]; omega) (by omega)
  rw [hz1, Int.toNat_natCast] at h
  exact h
theorem arg_evsB (N : Nat) (hN : N ≤ 1000) (w : World) : EArg (w.alloc (.cells (madeCells zEV.ar (N * 19)) 46)) (.slice (some ⟨w.heap.size, 0, none⟩) N N) w.heap.size (List.replicate N zEV) := by
  refine ⟨⟨_, N, by rw [List.length_replicate], by rw [List.length_replicate]; exact Nat.le_refl _, by unfold maxLen; omega, (fun h => by cases h), fun _ => ⟨0, rfl, fun i hi j v hv => ?_⟩⟩, fun e he => by rw [(List.mem_replicate.1 he).2]; exact zEV_ok⟩
  rw [List.length_replicate] at hi
  rw [List.getD_eq_getElem?_getD, List.getElem?_replicate, if_pos hi] at hv
  have hs : zEV.ar.size = 19 := EV.ar_size zEV_ok
  have hj : j < 19 := by have := (List.getElem?_eq_some_iff.1 hv).1; rw [show (Option.some zEV).getD zEV = zEV from rfl, EV.cs_len zEV_ok] at this; exact this
  have hk : i * 19 + j < N * 19 := by have := Nat.mul_le_mul_right 19 (show i + 1 ≤ N from hi); omega
  refine cell_blk (World.alloc_heap_new w _) ?_
  have hm : (i * 19 + j) % 19 = j := by omega
  rw [Nat.zero_add, Array.getElem?_eq_getElem (by rw [size_madeCells]; exact hk)]
  simp only [madeCells, Array.getElem_map, Array.getElem_range, hs, hm]
  have h2 : zEV.ar[j]? = some v := by rw [← hv]; simp [EV.cs, EV.ar]
  rw [getElem!_pos zEV.ar j (by omega)]
  rw [Array.getElem?_eq_getElem (by omega)] at h2
  exact h2
theorem evs_ok (N : Nat) : okL (List.replicate N zEV) := fun e he => by rw [(List.mem_replicate.1 he).2]; exact zEV_okE
theorem evs_Ok (N i : Nat) : ((List.replicate N zEV).getD i zEV).Ok := by
  rw [List.getD_eq_getElem?_getD, List.getElem?_replicate]
  split <;> exact zEV_ok
theorem decF_most {super at' : Int} {l : List PV} {most : Int} (h : ¬ (0 ≤ most ∧ most ≤ 2)) : decF super at' l most = (zRow, 1) := by
  unfold decF; rw [if_pos (fun h2 => h h2.2)]

set_option maxRecDepth 100000 in
set_option maxHeartbeats 16000000 in
theorem bnd0t (a0 a2 : Int) (w : World) (hq : a0 % 9 = 0) :
    Calls Tryz.prog 4 #[.int .i64 a0, .bool true, .int .i64 a2] w fun e w' => e = .returned (.bool true) ∧ Below w.heap.size w w' := by
  have W0 := fun W => (show Calls Tryz.prog 6 #[.int .i64 a0, .int .i64 9] W fun e w' => e = .returned (.int .i64 0) ∧ w' = W from (within11_any a0 9 W (by decide) (by decide)).mono (fun e w' h => by rw [← hq]; exact h))
  have HW0 := hide W0
  clear W0 hq
  obtain ⟨r, hr, hr2⟩ : ∃ r : Nat, a2 % 100 = (r : Int) ∧ r < 100 := ⟨(a2 % 100).toNat, by omega, by omega⟩
  have W2 := fun W => (show Calls Tryz.prog 6 #[.int .i64 a2, .int .i64 100] W fun e w' => e = .returned (.int .i64 (r : Int)) ∧ w' = W from (within11_any a2 100 W (by decide) (by decide)).mono (fun e w' h => by rw [← hr]; exact h))
  have HW2 := hide W2
  clear W2 hr
  have hmk : ∀ W : World, (Instr.makeSlice 22 (.int .i64 2) (.int .i64 2)).run Tryz.prog W = .ok (.slice (some ⟨W.heap.size, 0, none⟩) 2 2) (W.alloc (.cells (madeCells zEV.ar (2 * 19)) 46)) := fun W => run_evsB 2 (by omega) W
  have HEV := hide (fun W => arg_evsB 2 (by omega) W)
  obtain ⟨mc, hmc⟩ : ∃ mc, madeCells zEV.ar (2 * 19) = mc := ⟨_, rfl⟩
  simp only [hmc] at hmk HEV
  clear hmc
  go_enter Tryz.func4, Tryz.ntmps4
  go_wp2_with fail
  refine (known11_any w).mono ?_
  rintro e w1 ⟨rfl, hk⟩
  have HT := hide hk
  clear hk
  go_wp2_with fail
  refine (unhide HW2 _).mono ?_
  rintro e wx ⟨rfl, hwx⟩
  rw [hwx]
  clear hwx wx
  go_wp2_with fail
  refine (unhide HW0 _).mono ?_
  rintro e wx ⟨rfl, hwx⟩
  rw [hwx]
  clear hwx wx
  go_wp2_with fail
  have hk0 := (Below.refl w1.heap.size w1).alloc (Nat.le_refl _) (.cells mc 46)
  refine (enc11_any _ _ _ _ (some ⟨w1.heap.size, 0, none⟩) 2 2 w1.heap.size (List.replicate 2 zEV) _ (unhide HEV w1)).mono ?_
  rintro e w3 h
  replace HT := hide ((unhide HT).trans ((hk0.trans (h.below.mono hk0.size)).mono (unhide HT).size))
  clear hk0 hmk
  rcases h.res with ⟨hok, -⟩ | ⟨-, rfl⟩
  · exfalso
    obtain ⟨⟨h1, h2⟩, ⟨⟨h3, h4⟩, ⟨h5, h6⟩, h7, h8⟩, h9, -⟩ := hok
    rw [List.length_replicate] at h9
    omega
  clear h
  go_wp2_with fail
  go_ret
  exact ⟨rfl, unhide HT⟩

set_option maxRecDepth 100000 in
set_option maxHeartbeats 16000000 in
theorem bnd0f (a0 a2 : Int) (w : World) (hq : a0 % 9 = 0) :
    Calls Tryz.prog 4 #[.int .i64 a0, .bool false, .int .i64 a2] w fun e w' => e = .returned (.bool true) ∧ Below w.heap.size w w' := by
  have W0 := fun W => (show Calls Tryz.prog 6 #[.int .i64 a0, .int .i64 9] W fun e w' => e = .returned (.int .i64 0) ∧ w' = W from (within11_any a0 9 W (by decide) (by decide)).mono (fun e w' h => by rw [← hq]; exact h))
  have HW0 := hide W0
  clear W0 hq
  have hmk : ∀ W : World, (Instr.makeSlice 22 (.int .i64 2) (.int .i64 2)).run Tryz.prog W = .ok (.slice (some ⟨W.heap.size, 0, none⟩) 2 2) (W.alloc (.cells (madeCells zEV.ar (2 * 19)) 46)) := fun W => run_evsB 2 (by omega) W
  have HEV := hide (fun W => arg_evsB 2 (by omega) W)
  obtain ⟨mc, hmc⟩ : ∃ mc, madeCells zEV.ar (2 * 19) = mc := ⟨_, rfl⟩
  simp only [hmc] at hmk HEV
  clear hmc
  go_enter Tryz.func4, Tryz.ntmps4
  go_wp2_with fail
  refine (known11_any w).mono ?_
  rintro e w1 ⟨rfl, hk⟩
  have HT := hide hk
  clear hk
  go_wp2_with fail
  refine (unhide HW0 _).mono ?_
  rintro e wx ⟨rfl, hwx⟩
  rw [hwx]
  clear hwx wx
  go_wp2_with fail
  have hk0 := (Below.refl w1.heap.size w1).alloc (Nat.le_refl _) (.cells mc 46)
  refine (enc11_any _ _ _ _ (some ⟨w1.heap.size, 0, none⟩) 2 2 w1.heap.size (List.replicate 2 zEV) _ (unhide HEV w1)).mono ?_
  rintro e w3 h
  replace HT := hide ((unhide HT).trans ((hk0.trans (h.below.mono hk0.size)).mono (unhide HT).size))
  clear hk0 hmk
  have hokr : okRow 8 5 5 5 (List.replicate 2 zEV) := ⟨⟨by omega, by omega⟩, ⟨⟨by omega, by omega⟩, ⟨by omega, by omega⟩, by omega, by omega⟩, by rw [List.length_replicate]; omega, evs_ok _⟩
  rcases h.res with ⟨-, vb, ps, rfl, hO⟩ | ⟨h1, -⟩
  rotate_left 1
  · exact absurd hokr h1
  rw [show ((8 : Int) - 2).toNat = 6 from rfl] at hO
  obtain ⟨G, hRG, -⟩ := hO.arg
  obtain ⟨ob, cb, hvb, -⟩ := hRG.ex
  rw [encL_len] at hvb
  subst hvb
  generalize psA ps = A0 at hRG
  generalize psC ps = C0 at hRG
  have HR := hide hRG
  have HSZ : Hid (∀ i, i < 8 → ((encL 6 5 5 5 (List.replicate 2 zEV)).getD i []).length = 48) := (encL_facts (a := 5) (b := 5) (c := 5) (d := 6) (evs_Ok 2) (by omega) (by omega)).1
  have HLEN : Hid (∀ (gf : Nat → Nat) i, ((pagesL A0 C0 gf (encL 6 5 5 5 (List.replicate 2 zEV)) 8 []).getD i zPV).x.length ≤ 100000) := fun gf i => by
    by_cases hi : i < 8
    · rw [pagesL_get hi, if_neg (by simp)]
      show ((encL 6 5 5 5 (List.replicate 2 zEV)).getD i []).length ≤ 100000
      rw [unhide HSZ i hi]; omega
    · rw [List.getD_eq_getElem?_getD, List.getElem?_eq_none (by rw [pagesL_len]; omega)]; simp [zPV]
  clear hO hRG h hokr
  go_wp2_with fail

  have hpg := pgs11_any _ 8 _ _ _ _ _ none 0 0 0 [] rfl (encL_len _ _ _ _ _) (by omega) (by omega) (by simp) w3 (unhide HR) (z_nilB w3)
  refine hpg.mono ?_
  clear hpg
  rintro e wp0 ⟨gf0, v, Gp0, rfl, hPB, -, hk⟩
  replace HT := hide ((unhide HT).trans (hk.mono (unhide HT).size))
  replace HR := hide ((unhide HR).below hk)
  obtain ⟨cP0, hvP, -, -⟩ := hPB.ex
  rw [pagesL_len] at hvP
  subst hvP
  have hdec := dec11_any 5 5 _ _ _ _ _ 0 (unhide HLEN gf0) wp0 hPB.arg
  have hdf := decF_back (d := 6) (a := 5) (b := 5) (c := 5) (S := List.replicate 2 zEV) (evs_Ok 2) (evs_ok 2) (by omega) (by omega) ⟨⟨by omega, by omega⟩, ⟨by omega, by omega⟩, by omega, by omega⟩ (A := A0) (C := C0) (gf := gf0) (lost := []) (by simp) (by simp) (most := 0) ⟨by omega, by omega⟩
  rw [if_neg (by simp), show 6 + 2 = 8 from rfl] at hdf
  have HDF := hide hdf
  have HDEC := hide hdec
  clear hk hPB hdf hdec
  go_wp2_with fail
  refine (unhide HDEC).mono ?_
  rintro e wd0 ⟨hk, v, hx, sv, g6, hv, hEA, -⟩
  rw [unhide HDF] at hx hv hEA
  replace HT := hide ((unhide HT).trans (hk.mono (unhide HT).size))
  replace HR := hide ((unhide HR).below hk)
  obtain ⟨so0, sc0, hs, -⟩ := hEA.ex
  rw [List.length_map, List.length_range] at hs
  subst hs
  subst hv
  subst hx
  clear HDF HDEC hEA hk
  dsimp only
  obtain ⟨wb0, hwb⟩ : ∃ W, wd0.alloc (.cells #[.int .i64 5, .int .i64 5, .slice so0 6 sc0] 37) = W := ⟨_, rfl⟩
  have hk : Below wd0.heap.size wd0 wb0 := by rw [← hwb]; exact (Below.refl _ wd0).alloc (Nat.le_refl _) _
  replace HT := hide ((unhide HT).trans (hk.mono (unhide HT).size))
  replace HR := hide ((unhide HR).below hk)
  have HRW : Hid (RwAt wb0 wd0.heap.size 5 5 (.slice so0 6 sc0)) := ⟨by rw [← hwb]; exact World.alloc_heap_new wd0 _⟩
  have HWBwb0 := hide hwb
  clear hwb hk
  go_wp2_with fail
  rw [unhide HWBwb0]
  have hpg := pgs11_any _ 8 _ _ _ _ _ none 0 0 0 [] rfl (encL_len _ _ _ _ _) (by omega) (by omega) (by simp) wb0 (unhide HR) (z_nilB wb0)
  refine hpg.mono ?_
  clear hpg
  rintro e wp1 ⟨gf1, v, Gp1, rfl, hPB, -, hk⟩
  replace HT := hide ((unhide HT).trans (hk.mono (unhide HT).size))
  replace HR := hide ((unhide HR).below hk)
  replace HRW := hide ((unhide HRW).below hk)
  obtain ⟨cP1, hvP, -, -⟩ := hPB.ex
  rw [pagesL_len] at hvP
  subst hvP
  have hdec := dec11_any 5 5 _ _ _ _ _ 3 (unhide HLEN gf1) wp1 hPB.arg
  have hdf := decF_most (super := 5) (at' := 5) (l := pagesL A0 C0 gf1 (encL 6 5 5 5 (List.replicate 2 zEV)) 8 []) (most := 3) (by omega)
  have HDF := hide hdf
  have HDEC := hide hdec
  clear hk hPB hdf hdec
  go_wp2_with fail
  refine (unhide HDEC).mono ?_
  rintro e wd1 ⟨hk, v, hx, sv, g6, hv, hEA, -⟩
  rw [unhide HDF] at hx hv hEA
  replace HT := hide ((unhide HT).trans (hk.mono (unhide HT).size))
  replace HR := hide ((unhide HR).below hk)
  replace HRW := hide ((unhide HRW).below hk)
  obtain ⟨so1, sc1, hs, -⟩ := hEA.ex

  subst hs
  subst hv
  subst hx
  clear HDF HDEC hEA hk
  dsimp only [zRow, List.length_nil]
  obtain ⟨wb1, hwb⟩ : ∃ W, wd1.alloc (.cells #[.int .i64 0, .int .i64 0, .slice so1 0 sc1] 37) = W := ⟨_, rfl⟩
  have hk : Below wd1.heap.size wd1 wb1 := by rw [← hwb]; exact (Below.refl _ wd1).alloc (Nat.le_refl _) _
  replace HT := hide ((unhide HT).trans (hk.mono (unhide HT).size))
  replace HR := hide ((unhide HR).below hk)
  replace HRW := hide ((unhide HRW).below hk)
  have HWBwb1 := hide hwb
  clear hwb hk
  go_wp2_with fail
  rw [unhide HWBwb1]
  have hpg := pgs11_any _ 8 _ _ _ _ _ none 0 0 0 [] rfl (encL_len _ _ _ _ _) (by omega) (by omega) (by simp) wb1 (unhide HR) (z_nilB wb1)
  refine hpg.mono ?_
  clear hpg
  rintro e wp2 ⟨gf2, v, Gp2, rfl, hPB, -, hk⟩
  replace HT := hide ((unhide HT).trans (hk.mono (unhide HT).size))
  replace HR := hide ((unhide HR).below hk)
  replace HRW := hide ((unhide HRW).below hk)
  obtain ⟨cP2, hvP, -, -⟩ := hPB.ex
  rw [pagesL_len] at hvP
  subst hvP
  have hdec := dec11_any 5 5 _ _ _ _ _ (-1) (unhide HLEN gf2) wp2 hPB.arg
  have hdf := decF_most (super := 5) (at' := 5) (l := pagesL A0 C0 gf2 (encL 6 5 5 5 (List.replicate 2 zEV)) 8 []) (most := (-1)) (by omega)
  have HDF := hide hdf
  have HDEC := hide hdec
  clear hk hPB hdf hdec
  go_wp2_with fail
  refine (unhide HDEC).mono ?_
  rintro e wd2 ⟨hk, v, hx, sv, g6, hv, hEA, -⟩
  rw [unhide HDF] at hx hv hEA
  replace HT := hide ((unhide HT).trans (hk.mono (unhide HT).size))
  replace HR := hide ((unhide HR).below hk)
  replace HRW := hide ((unhide HRW).below hk)
  obtain ⟨so2, sc2, hs, -⟩ := hEA.ex

  subst hs
  subst hv
  subst hx
  clear HDF HDEC hEA hk
  dsimp only [zRow, List.length_nil]
  have hkb : Below wd2.heap.size wd2 (wd2.alloc (.cells #[.int .i64 0, .int .i64 0, .slice so2 0 sc2] 37)) := (Below.refl _ wd2).alloc (Nat.le_refl _) _
  obtain ⟨hc0, hc1, hc2⟩ := ((unhide HRW).below hkb).cells
  replace HT := hide ((unhide HT).trans (hkb.mono (unhide HT).size))
  clear hkb
  have hza : zEV.ar = #[.int .i64 0, .int .i64 0, .int .i64 0, .int .u8 0, .int .u8 0, .int .u8 0, .int .u8 0, .int .u8 0, .int .u8 0, .int .u8 0, .int .u8 0, .int .u8 0, .int .u8 0, .int .u8 0, .int .u8 0, .int .u8 0, .int .u8 0, .int .u8 0, .int .u8 0] := by kernel_rfl
  have hza2 : entA 0 0 0 zer16 = #[.int .i64 0, .int .i64 0, .int .i64 0, .int .u8 0, .int .u8 0, .int .u8 0, .int .u8 0, .int .u8 0, .int .u8 0, .int .u8 0, .int .u8 0, .int .u8 0, .int .u8 0, .int .u8 0, .int .u8 0, .int .u8 0, .int .u8 0, .int .u8 0, .int .u8 0] := by kernel_rfl
  have hqE : ∀ W, (binOp .eql 46 (.agg (entA (gdK 0) (gdLb 0 0) (gdS 0 0) (gdD 0 zer16))) (.agg zEV.ar)).run Tryz.prog W = .ok (.bool true) W := fun W => eqTE _ _ _ _ _ _ _ _ (gdD_len (k := 0) (show zer16.length = 16 from rfl)) rfl true (by decide) W
  have hgd := fun W => good_any 0 0 0 zer16 rfl W
  obtain ⟨ga, hga⟩ : ∃ ga, entA (gdK 0) (gdLb 0 0) (gdS 0 0) (gdD 0 zer16) = ga := ⟨_, rfl⟩
  simp only [hza, hga] at hqE
  simp only [hga, hza2] at hgd
  have HGD := hide hgd
  clear hza hza2 hga hgd
  go_wp2_with fail
  refine (unhide HGD _).mono ?_
  rintro e w9 ⟨rfl, hk⟩
  replace HT := hide ((unhide HT).trans (hk.mono (unhide HT).size))
  clear hk
  go_wp2_with fail
  go_ret
  exact ⟨rfl, unhide HT⟩

set_option maxRecDepth 100000 in
set_option maxHeartbeats 16000000 in
theorem bnd1t (a0 a2 : Int) (w : World) (hq : a0 % 9 = 1) :
    Calls Tryz.prog 4 #[.int .i64 a0, .bool true, .int .i64 a2] w fun e w' => e = .returned (.bool true) ∧ Below w.heap.size w w' := by
  have W0 := fun W => (show Calls Tryz.prog 6 #[.int .i64 a0, .int .i64 9] W fun e w' => e = .returned (.int .i64 1) ∧ w' = W from (within11_any a0 9 W (by decide) (by decide)).mono (fun e w' h => by rw [← hq]; exact h))
  have HW0 := hide W0
  clear W0 hq
  obtain ⟨r, hr, hr2⟩ : ∃ r : Nat, a2 % 100 = (r : Int) ∧ r < 100 := ⟨(a2 % 100).toNat, by omega, by omega⟩
  have W2 := fun W => (show Calls Tryz.prog 6 #[.int .i64 a2, .int .i64 100] W fun e w' => e = .returned (.int .i64 (r : Int)) ∧ w' = W from (within11_any a2 100 W (by decide) (by decide)).mono (fun e w' h => by rw [← hr]; exact h))
  have HW2 := hide W2
  clear W2 hr
  have hmk : ∀ W : World, (Instr.makeSlice 22 (.int .i64 2) (.int .i64 2)).run Tryz.prog W = .ok (.slice (some ⟨W.heap.size, 0, none⟩) 2 2) (W.alloc (.cells (madeCells zEV.ar (2 * 19)) 46)) := fun W => run_evsB 2 (by omega) W
  have HEV := hide (fun W => arg_evsB 2 (by omega) W)
  obtain ⟨mc, hmc⟩ : ∃ mc, madeCells zEV.ar (2 * 19) = mc := ⟨_, rfl⟩
  simp only [hmc] at hmk HEV
  clear hmc
  go_enter Tryz.func4, Tryz.ntmps4
  go_wp2_with fail
  refine (known11_any w).mono ?_
  rintro e w1 ⟨rfl, hk⟩
  have HT := hide hk
  clear hk
  go_wp2_with fail
  refine (unhide HW2 _).mono ?_
  rintro e wx ⟨rfl, hwx⟩
  rw [hwx]
  clear hwx wx
  go_wp2_with fail
  refine (unhide HW0 _).mono ?_
  rintro e wx ⟨rfl, hwx⟩
  rw [hwx]
  clear hwx wx
  go_wp2_with fail
  have hk0 := (Below.refl w1.heap.size w1).alloc (Nat.le_refl _) (.cells mc 46)
  refine (enc11_any _ _ _ _ (some ⟨w1.heap.size, 0, none⟩) 2 2 w1.heap.size (List.replicate 2 zEV) _ (unhide HEV w1)).mono ?_
  rintro e w3 h
  replace HT := hide ((unhide HT).trans ((hk0.trans (h.below.mono hk0.size)).mono (unhide HT).size))
  clear hk0 hmk
  rcases h.res with ⟨hok, -⟩ | ⟨-, rfl⟩
  · exfalso
    obtain ⟨⟨h1, h2⟩, ⟨⟨h3, h4⟩, ⟨h5, h6⟩, h7, h8⟩, h9, -⟩ := hok
    rw [List.length_replicate] at h9
    omega
  clear h
  go_wp2_with fail
  go_ret
  exact ⟨rfl, unhide HT⟩

set_option maxRecDepth 100000 in
set_option maxHeartbeats 16000000 in
theorem bnd1f (a0 a2 : Int) (w : World) (hq : a0 % 9 = 1) :
    Calls Tryz.prog 4 #[.int .i64 a0, .bool false, .int .i64 a2] w fun e w' => e = .returned (.bool true) ∧ Below w.heap.size w w' := by
  have W0 := fun W => (show Calls Tryz.prog 6 #[.int .i64 a0, .int .i64 9] W fun e w' => e = .returned (.int .i64 1) ∧ w' = W from (within11_any a0 9 W (by decide) (by decide)).mono (fun e w' h => by rw [← hq]; exact h))
  have HW0 := hide W0
  clear W0 hq
  have hmk : ∀ W : World, (Instr.makeSlice 22 (.int .i64 2) (.int .i64 2)).run Tryz.prog W = .ok (.slice (some ⟨W.heap.size, 0, none⟩) 2 2) (W.alloc (.cells (madeCells zEV.ar (2 * 19)) 46)) := fun W => run_evsB 2 (by omega) W
  have HEV := hide (fun W => arg_evsB 2 (by omega) W)
  obtain ⟨mc, hmc⟩ : ∃ mc, madeCells zEV.ar (2 * 19) = mc := ⟨_, rfl⟩
  simp only [hmc] at hmk HEV
  clear hmc
  go_enter Tryz.func4, Tryz.ntmps4
  go_wp2_with fail
  refine (known11_any w).mono ?_
  rintro e w1 ⟨rfl, hk⟩
  have HT := hide hk
  clear hk
  go_wp2_with fail
  refine (unhide HW0 _).mono ?_
  rintro e wx ⟨rfl, hwx⟩
  rw [hwx]
  clear hwx wx
  go_wp2_with fail
  have hk0 := (Below.refl w1.heap.size w1).alloc (Nat.le_refl _) (.cells mc 46)
  refine (enc11_any _ _ _ _ (some ⟨w1.heap.size, 0, none⟩) 2 2 w1.heap.size (List.replicate 2 zEV) _ (unhide HEV w1)).mono ?_
  rintro e w3 h
  replace HT := hide ((unhide HT).trans ((hk0.trans (h.below.mono hk0.size)).mono (unhide HT).size))
  clear hk0 hmk
  have hokr : okRow 6 5 5 5 (List.replicate 2 zEV) := ⟨⟨by omega, by omega⟩, ⟨⟨by omega, by omega⟩, ⟨by omega, by omega⟩, by omega, by omega⟩, by rw [List.length_replicate]; omega, evs_ok _⟩
  rcases h.res with ⟨-, vb, ps, rfl, hO⟩ | ⟨h1, -⟩
  rotate_left 1
  · exact absurd hokr h1
  rw [show ((6 : Int) - 2).toNat = 4 from rfl] at hO
  obtain ⟨G, hRG, -⟩ := hO.arg
  obtain ⟨ob, cb, hvb, -⟩ := hRG.ex
  rw [encL_len] at hvb
  subst hvb
  generalize psA ps = A0 at hRG
  generalize psC ps = C0 at hRG
  have HR := hide hRG
  have HSZ : Hid (∀ i, i < 6 → ((encL 4 5 5 5 (List.replicate 2 zEV)).getD i []).length = 48) := (encL_facts (a := 5) (b := 5) (c := 5) (d := 4) (evs_Ok 2) (by omega) (by omega)).1
  have HLEN : Hid (∀ (gf : Nat → Nat) i, ((pagesL A0 C0 gf (encL 4 5 5 5 (List.replicate 2 zEV)) 6 []).getD i zPV).x.length ≤ 100000) := fun gf i => by
    by_cases hi : i < 6
    · rw [pagesL_get hi, if_neg (by simp)]
      show ((encL 4 5 5 5 (List.replicate 2 zEV)).getD i []).length ≤ 100000
      rw [unhide HSZ i hi]; omega
    · rw [List.getD_eq_getElem?_getD, List.getElem?_eq_none (by rw [pagesL_len]; omega)]; simp [zPV]
  clear hO hRG h hokr
  go_wp2_with fail

  have hpg := pgs11_any _ 6 _ _ _ _ _ none 0 0 0 [] rfl (encL_len _ _ _ _ _) (by omega) (by omega) (by simp) w3 (unhide HR) (z_nilB w3)
  refine hpg.mono ?_
  clear hpg
  rintro e wp0 ⟨gf0, v, Gp0, rfl, hPB, -, hk⟩
  replace HT := hide ((unhide HT).trans (hk.mono (unhide HT).size))
  replace HR := hide ((unhide HR).below hk)
  obtain ⟨cP0, hvP, -, -⟩ := hPB.ex
  rw [pagesL_len] at hvP
  subst hvP
  have hdec := dec11_any 5 5 _ _ _ _ _ 0 (unhide HLEN gf0) wp0 hPB.arg
  have hdf := decF_back (d := 4) (a := 5) (b := 5) (c := 5) (S := List.replicate 2 zEV) (evs_Ok 2) (evs_ok 2) (by omega) (by omega) ⟨⟨by omega, by omega⟩, ⟨by omega, by omega⟩, by omega, by omega⟩ (A := A0) (C := C0) (gf := gf0) (lost := []) (by simp) (by simp) (most := 0) ⟨by omega, by omega⟩
  rw [if_neg (by simp), show 4 + 2 = 6 from rfl] at hdf
  have HDF := hide hdf
  have HDEC := hide hdec
  clear hk hPB hdf hdec
  go_wp2_with fail
  refine (unhide HDEC).mono ?_
  rintro e wd0 ⟨hk, v, hx, sv, g6, hv, hEA, -⟩
  rw [unhide HDF] at hx hv hEA
  replace HT := hide ((unhide HT).trans (hk.mono (unhide HT).size))
  replace HR := hide ((unhide HR).below hk)
  obtain ⟨so0, sc0, hs, -⟩ := hEA.ex
  rw [List.length_map, List.length_range] at hs
  subst hs
  subst hv
  subst hx
  clear HDF HDEC hEA hk
  dsimp only
  obtain ⟨wb0, hwb⟩ : ∃ W, wd0.alloc (.cells #[.int .i64 5, .int .i64 5, .slice so0 4 sc0] 37) = W := ⟨_, rfl⟩
  have hk : Below wd0.heap.size wd0 wb0 := by rw [← hwb]; exact (Below.refl _ wd0).alloc (Nat.le_refl _) _
  replace HT := hide ((unhide HT).trans (hk.mono (unhide HT).size))
  replace HR := hide ((unhide HR).below hk)
  have HRW : Hid (RwAt wb0 wd0.heap.size 5 5 (.slice so0 4 sc0)) := ⟨by rw [← hwb]; exact World.alloc_heap_new wd0 _⟩
  have HWBwb0 := hide hwb
  clear hwb hk
  go_wp2_with fail
  rw [unhide HWBwb0]
  have hpg := pgs11_any _ 6 _ _ _ _ _ none 0 0 0 [] rfl (encL_len _ _ _ _ _) (by omega) (by omega) (by simp) wb0 (unhide HR) (z_nilB wb0)
  refine hpg.mono ?_
  clear hpg
  rintro e wp1 ⟨gf1, v, Gp1, rfl, hPB, -, hk⟩
  replace HT := hide ((unhide HT).trans (hk.mono (unhide HT).size))
  replace HR := hide ((unhide HR).below hk)
  replace HRW := hide ((unhide HRW).below hk)
  obtain ⟨cP1, hvP, -, -⟩ := hPB.ex
  rw [pagesL_len] at hvP
  subst hvP
  have hdec := dec11_any 5 5 _ _ _ _ _ 3 (unhide HLEN gf1) wp1 hPB.arg
  have hdf := decF_most (super := 5) (at' := 5) (l := pagesL A0 C0 gf1 (encL 4 5 5 5 (List.replicate 2 zEV)) 6 []) (most := 3) (by omega)
  have HDF := hide hdf
  have HDEC := hide hdec
  clear hk hPB hdf hdec
  go_wp2_with fail
  refine (unhide HDEC).mono ?_
  rintro e wd1 ⟨hk, v, hx, sv, g6, hv, hEA, -⟩
  rw [unhide HDF] at hx hv hEA
  replace HT := hide ((unhide HT).trans (hk.mono (unhide HT).size))
  replace HR := hide ((unhide HR).below hk)
  replace HRW := hide ((unhide HRW).below hk)
  obtain ⟨so1, sc1, hs, -⟩ := hEA.ex

  subst hs
  subst hv
  subst hx
  clear HDF HDEC hEA hk
  dsimp only [zRow, List.length_nil]
  obtain ⟨wb1, hwb⟩ : ∃ W, wd1.alloc (.cells #[.int .i64 0, .int .i64 0, .slice so1 0 sc1] 37) = W := ⟨_, rfl⟩
  have hk : Below wd1.heap.size wd1 wb1 := by rw [← hwb]; exact (Below.refl _ wd1).alloc (Nat.le_refl _) _
  replace HT := hide ((unhide HT).trans (hk.mono (unhide HT).size))
  replace HR := hide ((unhide HR).below hk)
  replace HRW := hide ((unhide HRW).below hk)
  have HWBwb1 := hide hwb
  clear hwb hk
  go_wp2_with fail
  rw [unhide HWBwb1]
  have hpg := pgs11_any _ 6 _ _ _ _ _ none 0 0 0 [] rfl (encL_len _ _ _ _ _) (by omega) (by omega) (by simp) wb1 (unhide HR) (z_nilB wb1)
  refine hpg.mono ?_
  clear hpg
  rintro e wp2 ⟨gf2, v, Gp2, rfl, hPB, -, hk⟩
  replace HT := hide ((unhide HT).trans (hk.mono (unhide HT).size))
  replace HR := hide ((unhide HR).below hk)
  replace HRW := hide ((unhide HRW).below hk)
  obtain ⟨cP2, hvP, -, -⟩ := hPB.ex
  rw [pagesL_len] at hvP
  subst hvP
  have hdec := dec11_any 5 5 _ _ _ _ _ (-1) (unhide HLEN gf2) wp2 hPB.arg
  have hdf := decF_most (super := 5) (at' := 5) (l := pagesL A0 C0 gf2 (encL 4 5 5 5 (List.replicate 2 zEV)) 6 []) (most := (-1)) (by omega)
  have HDF := hide hdf
  have HDEC := hide hdec
  clear hk hPB hdf hdec
  go_wp2_with fail
  refine (unhide HDEC).mono ?_
  rintro e wd2 ⟨hk, v, hx, sv, g6, hv, hEA, -⟩
  rw [unhide HDF] at hx hv hEA
  replace HT := hide ((unhide HT).trans (hk.mono (unhide HT).size))
  replace HR := hide ((unhide HR).below hk)
  replace HRW := hide ((unhide HRW).below hk)
  obtain ⟨so2, sc2, hs, -⟩ := hEA.ex

  subst hs
  subst hv
  subst hx
  clear HDF HDEC hEA hk
  dsimp only [zRow, List.length_nil]
  have hkb : Below wd2.heap.size wd2 (wd2.alloc (.cells #[.int .i64 0, .int .i64 0, .slice so2 0 sc2] 37)) := (Below.refl _ wd2).alloc (Nat.le_refl _) _
  obtain ⟨hc0, hc1, hc2⟩ := ((unhide HRW).below hkb).cells
  replace HT := hide ((unhide HT).trans (hkb.mono (unhide HT).size))
  clear hkb
  have hza : zEV.ar = #[.int .i64 0, .int .i64 0, .int .i64 0, .int .u8 0, .int .u8 0, .int .u8 0, .int .u8 0, .int .u8 0, .int .u8 0, .int .u8 0, .int .u8 0, .int .u8 0, .int .u8 0, .int .u8 0, .int .u8 0, .int .u8 0, .int .u8 0, .int .u8 0, .int .u8 0] := by kernel_rfl
  have hza2 : entA 0 0 0 zer16 = #[.int .i64 0, .int .i64 0, .int .i64 0, .int .u8 0, .int .u8 0, .int .u8 0, .int .u8 0, .int .u8 0, .int .u8 0, .int .u8 0, .int .u8 0, .int .u8 0, .int .u8 0, .int .u8 0, .int .u8 0, .int .u8 0, .int .u8 0, .int .u8 0, .int .u8 0] := by kernel_rfl
  have hqE : ∀ W, (binOp .eql 46 (.agg (entA (gdK 0) (gdLb 0 0) (gdS 0 0) (gdD 0 zer16))) (.agg zEV.ar)).run Tryz.prog W = .ok (.bool true) W := fun W => eqTE _ _ _ _ _ _ _ _ (gdD_len (k := 0) (show zer16.length = 16 from rfl)) rfl true (by decide) W
  have hgd := fun W => good_any 0 0 0 zer16 rfl W
  obtain ⟨ga, hga⟩ : ∃ ga, entA (gdK 0) (gdLb 0 0) (gdS 0 0) (gdD 0 zer16) = ga := ⟨_, rfl⟩
  simp only [hza, hga] at hqE
  simp only [hga, hza2] at hgd
  have HGD := hide hgd
  clear hza hza2 hga hgd
  go_wp2_with fail
  refine (unhide HGD _).mono ?_
  rintro e w9 ⟨rfl, hk⟩
  replace HT := hide ((unhide HT).trans (hk.mono (unhide HT).size))
  clear hk
  go_wp2_with fail
  go_ret
  exact ⟨rfl, unhide HT⟩

set_option maxRecDepth 100000 in
set_option maxHeartbeats 16000000 in
theorem bnd2t (a0 a2 : Int) (w : World) (hq : a0 % 9 = 2) :
    Calls Tryz.prog 4 #[.int .i64 a0, .bool true, .int .i64 a2] w fun e w' => e = .returned (.bool true) ∧ Below w.heap.size w w' := by
  have W0 := fun W => (show Calls Tryz.prog 6 #[.int .i64 a0, .int .i64 9] W fun e w' => e = .returned (.int .i64 2) ∧ w' = W from (within11_any a0 9 W (by decide) (by decide)).mono (fun e w' h => by rw [← hq]; exact h))
  have HW0 := hide W0
  clear W0 hq
  obtain ⟨r, hr, hr2⟩ : ∃ r : Nat, a2 % 100 = (r : Int) ∧ r < 100 := ⟨(a2 % 100).toNat, by omega, by omega⟩
  have W2 := fun W => (show Calls Tryz.prog 6 #[.int .i64 a2, .int .i64 100] W fun e w' => e = .returned (.int .i64 (r : Int)) ∧ w' = W from (within11_any a2 100 W (by decide) (by decide)).mono (fun e w' h => by rw [← hr]; exact h))
  have HW2 := hide W2
  clear W2 hr
  have hmk : ∀ W : World, (Instr.makeSlice 22 (.int .i64 2) (.int .i64 2)).run Tryz.prog W = .ok (.slice (some ⟨W.heap.size, 0, none⟩) 2 2) (W.alloc (.cells (madeCells zEV.ar (2 * 19)) 46)) := fun W => run_evsB 2 (by omega) W
  have HEV := hide (fun W => arg_evsB 2 (by omega) W)
  obtain ⟨mc, hmc⟩ : ∃ mc, madeCells zEV.ar (2 * 19) = mc := ⟨_, rfl⟩
  simp only [hmc] at hmk HEV
  clear hmc
  go_enter Tryz.func4, Tryz.ntmps4
  go_wp2_with fail
  refine (known11_any w).mono ?_
  rintro e w1 ⟨rfl, hk⟩
  have HT := hide hk
  clear hk
  go_wp2_with fail
  refine (unhide HW2 _).mono ?_
  rintro e wx ⟨rfl, hwx⟩
  rw [hwx]
  clear hwx wx
  go_wp2_with fail
  refine (unhide HW0 _).mono ?_
  rintro e wx ⟨rfl, hwx⟩
  rw [hwx]
  clear hwx wx
  go_wp2_with fail
  have hk0 := (Below.refl w1.heap.size w1).alloc (Nat.le_refl _) (.cells mc 46)
  refine (enc11_any _ _ _ _ (some ⟨w1.heap.size, 0, none⟩) 2 2 w1.heap.size (List.replicate 2 zEV) _ (unhide HEV w1)).mono ?_
  rintro e w3 h
  replace HT := hide ((unhide HT).trans ((hk0.trans (h.below.mono hk0.size)).mono (unhide HT).size))
  clear hk0 hmk
  rcases h.res with ⟨hok, -⟩ | ⟨-, rfl⟩
  · exfalso
    obtain ⟨⟨h1, h2⟩, ⟨⟨h3, h4⟩, ⟨h5, h6⟩, h7, h8⟩, h9, -⟩ := hok
    rw [List.length_replicate] at h9
    omega
  clear h
  go_wp2_with fail
  go_ret
  exact ⟨rfl, unhide HT⟩

set_option maxRecDepth 100000 in
set_option maxHeartbeats 16000000 in
theorem bnd2f (a0 a2 : Int) (w : World) (hq : a0 % 9 = 2) :
    Calls Tryz.prog 4 #[.int .i64 a0, .bool false, .int .i64 a2] w fun e w' => e = .returned (.bool true) ∧ Below w.heap.size w w' := by
  have W0 := fun W => (show Calls Tryz.prog 6 #[.int .i64 a0, .int .i64 9] W fun e w' => e = .returned (.int .i64 2) ∧ w' = W from (within11_any a0 9 W (by decide) (by decide)).mono (fun e w' h => by rw [← hq]; exact h))
  have HW0 := hide W0
  clear W0 hq
  have hmk : ∀ W : World, (Instr.makeSlice 22 (.int .i64 2) (.int .i64 2)).run Tryz.prog W = .ok (.slice (some ⟨W.heap.size, 0, none⟩) 2 2) (W.alloc (.cells (madeCells zEV.ar (2 * 19)) 46)) := fun W => run_evsB 2 (by omega) W
  have HEV := hide (fun W => arg_evsB 2 (by omega) W)
  obtain ⟨mc, hmc⟩ : ∃ mc, madeCells zEV.ar (2 * 19) = mc := ⟨_, rfl⟩
  simp only [hmc] at hmk HEV
  clear hmc
  go_enter Tryz.func4, Tryz.ntmps4
  go_wp2_with fail
  refine (known11_any w).mono ?_
  rintro e w1 ⟨rfl, hk⟩
  have HT := hide hk
  clear hk
  go_wp2_with fail
  refine (unhide HW0 _).mono ?_
  rintro e wx ⟨rfl, hwx⟩
  rw [hwx]
  clear hwx wx
  go_wp2_with fail
  have hk0 := (Below.refl w1.heap.size w1).alloc (Nat.le_refl _) (.cells mc 46)
  refine (enc11_any _ _ _ _ (some ⟨w1.heap.size, 0, none⟩) 2 2 w1.heap.size (List.replicate 2 zEV) _ (unhide HEV w1)).mono ?_
  rintro e w3 h
  replace HT := hide ((unhide HT).trans ((hk0.trans (h.below.mono hk0.size)).mono (unhide HT).size))
  clear hk0 hmk
  have hokr : okRow 7 1099511627776 5 5 (List.replicate 2 zEV) := ⟨⟨by omega, by omega⟩, ⟨⟨by omega, by omega⟩, ⟨by omega, by omega⟩, by omega, by omega⟩, by rw [List.length_replicate]; omega, evs_ok _⟩
  rcases h.res with ⟨-, vb, ps, rfl, hO⟩ | ⟨h1, -⟩
  rotate_left 1
  · exact absurd hokr h1
  rw [show ((7 : Int) - 2).toNat = 5 from rfl] at hO
  obtain ⟨G, hRG, -⟩ := hO.arg
  obtain ⟨ob, cb, hvb, -⟩ := hRG.ex
  rw [encL_len] at hvb
  subst hvb
  generalize psA ps = A0 at hRG
  generalize psC ps = C0 at hRG
  have HR := hide hRG
  have HSZ : Hid (∀ i, i < 7 → ((encL 5 1099511627776 5 5 (List.replicate 2 zEV)).getD i []).length = 48) := (encL_facts (a := 1099511627776) (b := 5) (c := 5) (d := 5) (evs_Ok 2) (by omega) (by omega)).1
  have HLEN : Hid (∀ (gf : Nat → Nat) i, ((pagesL A0 C0 gf (encL 5 1099511627776 5 5 (List.replicate 2 zEV)) 7 []).getD i zPV).x.length ≤ 100000) := fun gf i => by
    by_cases hi : i < 7
    · rw [pagesL_get hi, if_neg (by simp)]
      show ((encL 5 1099511627776 5 5 (List.replicate 2 zEV)).getD i []).length ≤ 100000
      rw [unhide HSZ i hi]; omega
    · rw [List.getD_eq_getElem?_getD, List.getElem?_eq_none (by rw [pagesL_len]; omega)]; simp [zPV]
  clear hO hRG h hokr
  go_wp2_with fail

  have hpg := pgs11_any _ 7 _ _ _ _ _ none 0 0 0 [] rfl (encL_len _ _ _ _ _) (by omega) (by omega) (by simp) w3 (unhide HR) (z_nilB w3)
  refine hpg.mono ?_
  clear hpg
  rintro e wp0 ⟨gf0, v, Gp0, rfl, hPB, -, hk⟩
  replace HT := hide ((unhide HT).trans (hk.mono (unhide HT).size))
  replace HR := hide ((unhide HR).below hk)
  obtain ⟨cP0, hvP, -, -⟩ := hPB.ex
  rw [pagesL_len] at hvP
  subst hvP
  have hdec := dec11_any 5 5 _ _ _ _ _ 0 (unhide HLEN gf0) wp0 hPB.arg
  have hdf := decF_back (d := 5) (a := 1099511627776) (b := 5) (c := 5) (S := List.replicate 2 zEV) (evs_Ok 2) (evs_ok 2) (by omega) (by omega) ⟨⟨by omega, by omega⟩, ⟨by omega, by omega⟩, by omega, by omega⟩ (A := A0) (C := C0) (gf := gf0) (lost := []) (by simp) (by simp) (most := 0) ⟨by omega, by omega⟩
  rw [if_neg (by simp), show 5 + 2 = 7 from rfl] at hdf
  have HDF := hide hdf
  have HDEC := hide hdec
  clear hk hPB hdf hdec
  go_wp2_with fail
  refine (unhide HDEC).mono ?_
  rintro e wd0 ⟨hk, v, hx, sv, g6, hv, hEA, -⟩
  rw [unhide HDF] at hx hv hEA
  replace HT := hide ((unhide HT).trans (hk.mono (unhide HT).size))
  replace HR := hide ((unhide HR).below hk)
  obtain ⟨so0, sc0, hs, -⟩ := hEA.ex
  rw [List.length_map, List.length_range] at hs
  subst hs
  subst hv
  subst hx
  clear HDF HDEC hEA hk
  dsimp only
  obtain ⟨wb0, hwb⟩ : ∃ W, wd0.alloc (.cells #[.int .i64 1099511627776, .int .i64 5, .slice so0 5 sc0] 37) = W := ⟨_, rfl⟩
  have hk : Below wd0.heap.size wd0 wb0 := by rw [← hwb]; exact (Below.refl _ wd0).alloc (Nat.le_refl _) _
  replace HT := hide ((unhide HT).trans (hk.mono (unhide HT).size))
  replace HR := hide ((unhide HR).below hk)
  have HRW : Hid (RwAt wb0 wd0.heap.size 1099511627776 5 (.slice so0 5 sc0)) := ⟨by rw [← hwb]; exact World.alloc_heap_new wd0 _⟩
  have HWBwb0 := hide hwb
  clear hwb hk
  go_wp2_with fail
  rw [unhide HWBwb0]
  have hpg := pgs11_any _ 7 _ _ _ _ _ none 0 0 0 [] rfl (encL_len _ _ _ _ _) (by omega) (by omega) (by simp) wb0 (unhide HR) (z_nilB wb0)
  refine hpg.mono ?_
  clear hpg
  rintro e wp1 ⟨gf1, v, Gp1, rfl, hPB, -, hk⟩
  replace HT := hide ((unhide HT).trans (hk.mono (unhide HT).size))
  replace HR := hide ((unhide HR).below hk)
  replace HRW := hide ((unhide HRW).below hk)
  obtain ⟨cP1, hvP, -, -⟩ := hPB.ex
  rw [pagesL_len] at hvP
  subst hvP
  have hdec := dec11_any 5 5 _ _ _ _ _ 3 (unhide HLEN gf1) wp1 hPB.arg
  have hdf := decF_most (super := 5) (at' := 5) (l := pagesL A0 C0 gf1 (encL 5 1099511627776 5 5 (List.replicate 2 zEV)) 7 []) (most := 3) (by omega)
  have HDF := hide hdf
  have HDEC := hide hdec
  clear hk hPB hdf hdec
  go_wp2_with fail
  refine (unhide HDEC).mono ?_
  rintro e wd1 ⟨hk, v, hx, sv, g6, hv, hEA, -⟩
  rw [unhide HDF] at hx hv hEA
  replace HT := hide ((unhide HT).trans (hk.mono (unhide HT).size))
  replace HR := hide ((unhide HR).below hk)
  replace HRW := hide ((unhide HRW).below hk)
  obtain ⟨so1, sc1, hs, -⟩ := hEA.ex

  subst hs
  subst hv
  subst hx
  clear HDF HDEC hEA hk
  dsimp only [zRow, List.length_nil]
  obtain ⟨wb1, hwb⟩ : ∃ W, wd1.alloc (.cells #[.int .i64 0, .int .i64 0, .slice so1 0 sc1] 37) = W := ⟨_, rfl⟩
  have hk : Below wd1.heap.size wd1 wb1 := by rw [← hwb]; exact (Below.refl _ wd1).alloc (Nat.le_refl _) _
  replace HT := hide ((unhide HT).trans (hk.mono (unhide HT).size))
  replace HR := hide ((unhide HR).below hk)
  replace HRW := hide ((unhide HRW).below hk)
  have HWBwb1 := hide hwb
  clear hwb hk
  go_wp2_with fail
  rw [unhide HWBwb1]
  have hpg := pgs11_any _ 7 _ _ _ _ _ none 0 0 0 [] rfl (encL_len _ _ _ _ _) (by omega) (by omega) (by simp) wb1 (unhide HR) (z_nilB wb1)
  refine hpg.mono ?_
  clear hpg
  rintro e wp2 ⟨gf2, v, Gp2, rfl, hPB, -, hk⟩
  replace HT := hide ((unhide HT).trans (hk.mono (unhide HT).size))
  replace HR := hide ((unhide HR).below hk)
  replace HRW := hide ((unhide HRW).below hk)
  obtain ⟨cP2, hvP, -, -⟩ := hPB.ex
  rw [pagesL_len] at hvP
  subst hvP
  have hdec := dec11_any 5 5 _ _ _ _ _ (-1) (unhide HLEN gf2) wp2 hPB.arg
  have hdf := decF_most (super := 5) (at' := 5) (l := pagesL A0 C0 gf2 (encL 5 1099511627776 5 5 (List.replicate 2 zEV)) 7 []) (most := (-1)) (by omega)
  have HDF := hide hdf
  have HDEC := hide hdec
  clear hk hPB hdf hdec
  go_wp2_with fail
  refine (unhide HDEC).mono ?_
  rintro e wd2 ⟨hk, v, hx, sv, g6, hv, hEA, -⟩
  rw [unhide HDF] at hx hv hEA
  replace HT := hide ((unhide HT).trans (hk.mono (unhide HT).size))
  replace HR := hide ((unhide HR).below hk)
  replace HRW := hide ((unhide HRW).below hk)
  obtain ⟨so2, sc2, hs, -⟩ := hEA.ex

  subst hs
  subst hv
  subst hx
  clear HDF HDEC hEA hk
  dsimp only [zRow, List.length_nil]
  have hkb : Below wd2.heap.size wd2 (wd2.alloc (.cells #[.int .i64 0, .int .i64 0, .slice so2 0 sc2] 37)) := (Below.refl _ wd2).alloc (Nat.le_refl _) _
  obtain ⟨hc0, hc1, hc2⟩ := ((unhide HRW).below hkb).cells
  replace HT := hide ((unhide HT).trans (hkb.mono (unhide HT).size))
  clear hkb
  have hza : zEV.ar = #[.int .i64 0, .int .i64 0, .int .i64 0, .int .u8 0, .int .u8 0, .int .u8 0, .int .u8 0, .int .u8 0, .int .u8 0, .int .u8 0, .int .u8 0, .int .u8 0, .int .u8 0, .int .u8 0, .int .u8 0, .int .u8 0, .int .u8 0, .int .u8 0, .int .u8 0] := by kernel_rfl
  have hza2 : entA 0 0 0 zer16 = #[.int .i64 0, .int .i64 0, .int .i64 0, .int .u8 0, .int .u8 0, .int .u8 0, .int .u8 0, .int .u8 0, .int .u8 0, .int .u8 0, .int .u8 0, .int .u8 0, .int .u8 0, .int .u8 0, .int .u8 0, .int .u8 0, .int .u8 0, .int .u8 0, .int .u8 0] := by kernel_rfl
  have hqE : ∀ W, (binOp .eql 46 (.agg (entA (gdK 0) (gdLb 0 0) (gdS 0 0) (gdD 0 zer16))) (.agg zEV.ar)).run Tryz.prog W = .ok (.bool true) W := fun W => eqTE _ _ _ _ _ _ _ _ (gdD_len (k := 0) (show zer16.length = 16 from rfl)) rfl true (by decide) W
  have hgd := fun W => good_any 0 0 0 zer16 rfl W
  obtain ⟨ga, hga⟩ : ∃ ga, entA (gdK 0) (gdLb 0 0) (gdS 0 0) (gdD 0 zer16) = ga := ⟨_, rfl⟩
  simp only [hza, hga] at hqE
  simp only [hga, hza2] at hgd
  have HGD := hide hgd
  clear hza hza2 hga hgd
  go_wp2_with fail
  refine (unhide HGD _).mono ?_
  rintro e w9 ⟨rfl, hk⟩
  replace HT := hide ((unhide HT).trans (hk.mono (unhide HT).size))
  clear hk
  go_wp2_with fail
  go_ret
  exact ⟨rfl, unhide HT⟩

set_option maxRecDepth 100000 in
set_option maxHeartbeats 16000000 in
theorem bnd3t (a0 a2 : Int) (w : World) (hq : a0 % 9 = 3) :
    Calls Tryz.prog 4 #[.int .i64 a0, .bool true, .int .i64 a2] w fun e w' => e = .returned (.bool true) ∧ Below w.heap.size w w' := by
  have W0 := fun W => (show Calls Tryz.prog 6 #[.int .i64 a0, .int .i64 9] W fun e w' => e = .returned (.int .i64 3) ∧ w' = W from (within11_any a0 9 W (by decide) (by decide)).mono (fun e w' h => by rw [← hq]; exact h))
  have HW0 := hide W0
  clear W0 hq
  obtain ⟨r, hr, hr2⟩ : ∃ r : Nat, a2 % 100 = (r : Int) ∧ r < 100 := ⟨(a2 % 100).toNat, by omega, by omega⟩
  have W2 := fun W => (show Calls Tryz.prog 6 #[.int .i64 a2, .int .i64 100] W fun e w' => e = .returned (.int .i64 (r : Int)) ∧ w' = W from (within11_any a2 100 W (by decide) (by decide)).mono (fun e w' h => by rw [← hr]; exact h))
  have HW2 := hide W2
  clear W2 hr
  have hmk : ∀ W : World, (Instr.makeSlice 22 (.int .i64 2) (.int .i64 2)).run Tryz.prog W = .ok (.slice (some ⟨W.heap.size, 0, none⟩) 2 2) (W.alloc (.cells (madeCells zEV.ar (2 * 19)) 46)) := fun W => run_evsB 2 (by omega) W
  have HEV := hide (fun W => arg_evsB 2 (by omega) W)
  obtain ⟨mc, hmc⟩ : ∃ mc, madeCells zEV.ar (2 * 19) = mc := ⟨_, rfl⟩
  simp only [hmc] at hmk HEV
  clear hmc
  go_enter Tryz.func4, Tryz.ntmps4
  go_wp2_with fail
  refine (known11_any w).mono ?_
  rintro e w1 ⟨rfl, hk⟩
  have HT := hide hk
  clear hk
  go_wp2_with fail
  refine (unhide HW2 _).mono ?_
  rintro e wx ⟨rfl, hwx⟩
  rw [hwx]
  clear hwx wx
  go_wp2_with fail
  refine (unhide HW0 _).mono ?_
  rintro e wx ⟨rfl, hwx⟩
  rw [hwx]
  clear hwx wx
  go_wp2_with fail
  have hk0 := (Below.refl w1.heap.size w1).alloc (Nat.le_refl _) (.cells mc 46)
  refine (enc11_any _ _ _ _ (some ⟨w1.heap.size, 0, none⟩) 2 2 w1.heap.size (List.replicate 2 zEV) _ (unhide HEV w1)).mono ?_
  rintro e w3 h
  replace HT := hide ((unhide HT).trans ((hk0.trans (h.below.mono hk0.size)).mono (unhide HT).size))
  clear hk0 hmk
  rcases h.res with ⟨hok, -⟩ | ⟨-, rfl⟩
  · exfalso
    obtain ⟨⟨h1, h2⟩, ⟨⟨h3, h4⟩, ⟨h5, h6⟩, h7, h8⟩, h9, -⟩ := hok
    rw [List.length_replicate] at h9
    omega
  clear h
  go_wp2_with fail
  go_ret
  exact ⟨rfl, unhide HT⟩

set_option maxRecDepth 100000 in
set_option maxHeartbeats 16000000 in
theorem bnd3f (a0 a2 : Int) (w : World) (hq : a0 % 9 = 3) :
    Calls Tryz.prog 4 #[.int .i64 a0, .bool false, .int .i64 a2] w fun e w' => e = .returned (.bool true) ∧ Below w.heap.size w w' := by
  have W0 := fun W => (show Calls Tryz.prog 6 #[.int .i64 a0, .int .i64 9] W fun e w' => e = .returned (.int .i64 3) ∧ w' = W from (within11_any a0 9 W (by decide) (by decide)).mono (fun e w' h => by rw [← hq]; exact h))
  have HW0 := hide W0
  clear W0 hq
  have hmk : ∀ W : World, (Instr.makeSlice 22 (.int .i64 2) (.int .i64 2)).run Tryz.prog W = .ok (.slice (some ⟨W.heap.size, 0, none⟩) 2 2) (W.alloc (.cells (madeCells zEV.ar (2 * 19)) 46)) := fun W => run_evsB 2 (by omega) W
  have HEV := hide (fun W => arg_evsB 2 (by omega) W)
  obtain ⟨mc, hmc⟩ : ∃ mc, madeCells zEV.ar (2 * 19) = mc := ⟨_, rfl⟩
  simp only [hmc] at hmk HEV
  clear hmc
  go_enter Tryz.func4, Tryz.ntmps4
  go_wp2_with fail
  refine (known11_any w).mono ?_
  rintro e w1 ⟨rfl, hk⟩
  have HT := hide hk
  clear hk
  go_wp2_with fail
  refine (unhide HW0 _).mono ?_
  rintro e wx ⟨rfl, hwx⟩
  rw [hwx]
  clear hwx wx
  go_wp2_with fail
  have hk0 := (Below.refl w1.heap.size w1).alloc (Nat.le_refl _) (.cells mc 46)
  refine (enc11_any _ _ _ _ (some ⟨w1.heap.size, 0, none⟩) 2 2 w1.heap.size (List.replicate 2 zEV) _ (unhide HEV w1)).mono ?_
  rintro e w3 h
  replace HT := hide ((unhide HT).trans ((hk0.trans (h.below.mono hk0.size)).mono (unhide HT).size))
  clear hk0 hmk
  have hokr : okRow 7 1 5 5 (List.replicate 2 zEV) := ⟨⟨by omega, by omega⟩, ⟨⟨by omega, by omega⟩, ⟨by omega, by omega⟩, by omega, by omega⟩, by rw [List.length_replicate]; omega, evs_ok _⟩
  rcases h.res with ⟨-, vb, ps, rfl, hO⟩ | ⟨h1, -⟩
  rotate_left 1
  · exact absurd hokr h1
  rw [show ((7 : Int) - 2).toNat = 5 from rfl] at hO
  obtain ⟨G, hRG, -⟩ := hO.arg
  obtain ⟨ob, cb, hvb, -⟩ := hRG.ex
  rw [encL_len] at hvb
  subst hvb
  generalize psA ps = A0 at hRG
  generalize psC ps = C0 at hRG
  have HR := hide hRG
  have HSZ : Hid (∀ i, i < 7 → ((encL 5 1 5 5 (List.replicate 2 zEV)).getD i []).length = 48) := (encL_facts (a := 1) (b := 5) (c := 5) (d := 5) (evs_Ok 2) (by omega) (by omega)).1
  have HLEN : Hid (∀ (gf : Nat → Nat) i, ((pagesL A0 C0 gf (encL 5 1 5 5 (List.replicate 2 zEV)) 7 []).getD i zPV).x.length ≤ 100000) := fun gf i => by
    by_cases hi : i < 7
    · rw [pagesL_get hi, if_neg (by simp)]
      show ((encL 5 1 5 5 (List.replicate 2 zEV)).getD i []).length ≤ 100000
      rw [unhide HSZ i hi]; omega
    · rw [List.getD_eq_getElem?_getD, List.getElem?_eq_none (by rw [pagesL_len]; omega)]; simp [zPV]
  clear hO hRG h hokr
  go_wp2_with fail

  have hpg := pgs11_any _ 7 _ _ _ _ _ none 0 0 0 [] rfl (encL_len _ _ _ _ _) (by omega) (by omega) (by simp) w3 (unhide HR) (z_nilB w3)
  refine hpg.mono ?_
  clear hpg
  rintro e wp0 ⟨gf0, v, Gp0, rfl, hPB, -, hk⟩
  replace HT := hide ((unhide HT).trans (hk.mono (unhide HT).size))
  replace HR := hide ((unhide HR).below hk)
  obtain ⟨cP0, hvP, -, -⟩ := hPB.ex
  rw [pagesL_len] at hvP
  subst hvP
  have hdec := dec11_any 5 5 _ _ _ _ _ 0 (unhide HLEN gf0) wp0 hPB.arg
  have hdf := decF_back (d := 5) (a := 1) (b := 5) (c := 5) (S := List.replicate 2 zEV) (evs_Ok 2) (evs_ok 2) (by omega) (by omega) ⟨⟨by omega, by omega⟩, ⟨by omega, by omega⟩, by omega, by omega⟩ (A := A0) (C := C0) (gf := gf0) (lost := []) (by simp) (by simp) (most := 0) ⟨by omega, by omega⟩
  rw [if_neg (by simp), show 5 + 2 = 7 from rfl] at hdf
  have HDF := hide hdf
  have HDEC := hide hdec
  clear hk hPB hdf hdec
  go_wp2_with fail
  refine (unhide HDEC).mono ?_
  rintro e wd0 ⟨hk, v, hx, sv, g6, hv, hEA, -⟩
  rw [unhide HDF] at hx hv hEA
  replace HT := hide ((unhide HT).trans (hk.mono (unhide HT).size))
  replace HR := hide ((unhide HR).below hk)
  obtain ⟨so0, sc0, hs, -⟩ := hEA.ex
  rw [List.length_map, List.length_range] at hs
  subst hs
  subst hv
  subst hx
  clear HDF HDEC hEA hk
  dsimp only
  obtain ⟨wb0, hwb⟩ : ∃ W, wd0.alloc (.cells #[.int .i64 1, .int .i64 5, .slice so0 5 sc0] 37) = W := ⟨_, rfl⟩
  have hk : Below wd0.heap.size wd0 wb0 := by rw [← hwb]; exact (Below.refl _ wd0).alloc (Nat.le_refl _) _
  replace HT := hide ((unhide HT).trans (hk.mono (unhide HT).size))
  replace HR := hide ((unhide HR).below hk)
  have HRW : Hid (RwAt wb0 wd0.heap.size 1 5 (.slice so0 5 sc0)) := ⟨by rw [← hwb]; exact World.alloc_heap_new wd0 _⟩
  have HWBwb0 := hide hwb
  clear hwb hk
  go_wp2_with fail
  rw [unhide HWBwb0]
  have hpg := pgs11_any _ 7 _ _ _ _ _ none 0 0 0 [] rfl (encL_len _ _ _ _ _) (by omega) (by omega) (by simp) wb0 (unhide HR) (z_nilB wb0)
  refine hpg.mono ?_
  clear hpg
  rintro e wp1 ⟨gf1, v, Gp1, rfl, hPB, -, hk⟩
  replace HT := hide ((unhide HT).trans (hk.mono (unhide HT).size))
  replace HR := hide ((unhide HR).below hk)
  replace HRW := hide ((unhide HRW).below hk)
  obtain ⟨cP1, hvP, -, -⟩ := hPB.ex
  rw [pagesL_len] at hvP
  subst hvP
  have hdec := dec11_any 5 5 _ _ _ _ _ 3 (unhide HLEN gf1) wp1 hPB.arg
  have hdf := decF_most (super := 5) (at' := 5) (l := pagesL A0 C0 gf1 (encL 5 1 5 5 (List.replicate 2 zEV)) 7 []) (most := 3) (by omega)
  have HDF := hide hdf
  have HDEC := hide hdec
  clear hk hPB hdf hdec
  go_wp2_with fail
  refine (unhide HDEC).mono ?_
  rintro e wd1 ⟨hk, v, hx, sv, g6, hv, hEA, -⟩
  rw [unhide HDF] at hx hv hEA
  replace HT := hide ((unhide HT).trans (hk.mono (unhide HT).size))
  replace HR := hide ((unhide HR).below hk)
  replace HRW := hide ((unhide HRW).below hk)
  obtain ⟨so1, sc1, hs, -⟩ := hEA.ex

  subst hs
  subst hv
  subst hx
  clear HDF HDEC hEA hk
  dsimp only [zRow, List.length_nil]
  obtain ⟨wb1, hwb⟩ : ∃ W, wd1.alloc (.cells #[.int .i64 0, .int .i64 0, .slice so1 0 sc1] 37) = W := ⟨_, rfl⟩
  have hk : Below wd1.heap.size wd1 wb1 := by rw [← hwb]; exact (Below.refl _ wd1).alloc (Nat.le_refl _) _
  replace HT := hide ((unhide HT).trans (hk.mono (unhide HT).size))
  replace HR := hide ((unhide HR).below hk)
  replace HRW := hide ((unhide HRW).below hk)
  have HWBwb1 := hide hwb
  clear hwb hk
  go_wp2_with fail
  rw [unhide HWBwb1]
  have hpg := pgs11_any _ 7 _ _ _ _ _ none 0 0 0 [] rfl (encL_len _ _ _ _ _) (by omega) (by omega) (by simp) wb1 (unhide HR) (z_nilB wb1)
  refine hpg.mono ?_
  clear hpg
  rintro e wp2 ⟨gf2, v, Gp2, rfl, hPB, -, hk⟩
  replace HT := hide ((unhide HT).trans (hk.mono (unhide HT).size))
  replace HR := hide ((unhide HR).below hk)
  replace HRW := hide ((unhide HRW).below hk)
  obtain ⟨cP2, hvP, -, -⟩ := hPB.ex
  rw [pagesL_len] at hvP
  subst hvP
  have hdec := dec11_any 5 5 _ _ _ _ _ (-1) (unhide HLEN gf2) wp2 hPB.arg
  have hdf := decF_most (super := 5) (at' := 5) (l := pagesL A0 C0 gf2 (encL 5 1 5 5 (List.replicate 2 zEV)) 7 []) (most := (-1)) (by omega)
  have HDF := hide hdf
  have HDEC := hide hdec
  clear hk hPB hdf hdec
  go_wp2_with fail
  refine (unhide HDEC).mono ?_
  rintro e wd2 ⟨hk, v, hx, sv, g6, hv, hEA, -⟩
  rw [unhide HDF] at hx hv hEA
  replace HT := hide ((unhide HT).trans (hk.mono (unhide HT).size))
  replace HR := hide ((unhide HR).below hk)
  replace HRW := hide ((unhide HRW).below hk)
  obtain ⟨so2, sc2, hs, -⟩ := hEA.ex

  subst hs
  subst hv
  subst hx
  clear HDF HDEC hEA hk
  dsimp only [zRow, List.length_nil]
  have hkb : Below wd2.heap.size wd2 (wd2.alloc (.cells #[.int .i64 0, .int .i64 0, .slice so2 0 sc2] 37)) := (Below.refl _ wd2).alloc (Nat.le_refl _) _
  obtain ⟨hc0, hc1, hc2⟩ := ((unhide HRW).below hkb).cells
  replace HT := hide ((unhide HT).trans (hkb.mono (unhide HT).size))
  clear hkb
  have hza : zEV.ar = #[.int .i64 0, .int .i64 0, .int .i64 0, .int .u8 0, .int .u8 0, .int .u8 0, .int .u8 0, .int .u8 0, .int .u8 0, .int .u8 0, .int .u8 0, .int .u8 0, .int .u8 0, .int .u8 0, .int .u8 0, .int .u8 0, .int .u8 0, .int .u8 0, .int .u8 0] := by kernel_rfl
  have hza2 : entA 0 0 0 zer16 = #[.int .i64 0, .int .i64 0, .int .i64 0, .int .u8 0, .int .u8 0, .int .u8 0, .int .u8 0, .int .u8 0, .int .u8 0, .int .u8 0, .int .u8 0, .int .u8 0, .int .u8 0, .int .u8 0, .int .u8 0, .int .u8 0, .int .u8 0, .int .u8 0, .int .u8 0] := by kernel_rfl
  have hqE : ∀ W, (binOp .eql 46 (.agg (entA (gdK 0) (gdLb 0 0) (gdS 0 0) (gdD 0 zer16))) (.agg zEV.ar)).run Tryz.prog W = .ok (.bool true) W := fun W => eqTE _ _ _ _ _ _ _ _ (gdD_len (k := 0) (show zer16.length = 16 from rfl)) rfl true (by decide) W
  have hgd := fun W => good_any 0 0 0 zer16 rfl W
  obtain ⟨ga, hga⟩ : ∃ ga, entA (gdK 0) (gdLb 0 0) (gdS 0 0) (gdD 0 zer16) = ga := ⟨_, rfl⟩
  simp only [hza, hga] at hqE
  simp only [hga, hza2] at hgd
  have HGD := hide hgd
  clear hza hza2 hga hgd
  go_wp2_with fail
  refine (unhide HGD _).mono ?_
  rintro e w9 ⟨rfl, hk⟩
  replace HT := hide ((unhide HT).trans (hk.mono (unhide HT).size))
  clear hk
  go_wp2_with fail
  go_ret
  exact ⟨rfl, unhide HT⟩

set_option maxRecDepth 100000 in
set_option maxHeartbeats 16000000 in
theorem bnd4t (a0 a2 : Int) (w : World) (hq : a0 % 9 = 4) :
    Calls Tryz.prog 4 #[.int .i64 a0, .bool true, .int .i64 a2] w fun e w' => e = .returned (.bool true) ∧ Below w.heap.size w w' := by
  have W0 := fun W => (show Calls Tryz.prog 6 #[.int .i64 a0, .int .i64 9] W fun e w' => e = .returned (.int .i64 4) ∧ w' = W from (within11_any a0 9 W (by decide) (by decide)).mono (fun e w' h => by rw [← hq]; exact h))
  have HW0 := hide W0
  clear W0 hq
  obtain ⟨r, hr, hr2⟩ : ∃ r : Nat, a2 % 100 = (r : Int) ∧ r < 100 := ⟨(a2 % 100).toNat, by omega, by omega⟩
  have W2 := fun W => (show Calls Tryz.prog 6 #[.int .i64 a2, .int .i64 100] W fun e w' => e = .returned (.int .i64 (r : Int)) ∧ w' = W from (within11_any a2 100 W (by decide) (by decide)).mono (fun e w' h => by rw [← hr]; exact h))
  have HW2 := hide W2
  clear W2 hr
  have hmk : ∀ W : World, (Instr.makeSlice 22 (.int .i64 2) (.int .i64 2)).run Tryz.prog W = .ok (.slice (some ⟨W.heap.size, 0, none⟩) 2 2) (W.alloc (.cells (madeCells zEV.ar (2 * 19)) 46)) := fun W => run_evsB 2 (by omega) W
  have HEV := hide (fun W => arg_evsB 2 (by omega) W)
  obtain ⟨mc, hmc⟩ : ∃ mc, madeCells zEV.ar (2 * 19) = mc := ⟨_, rfl⟩
  simp only [hmc] at hmk HEV
  clear hmc
  go_enter Tryz.func4, Tryz.ntmps4
  go_wp2_with fail
  refine (known11_any w).mono ?_
  rintro e w1 ⟨rfl, hk⟩
  have HT := hide hk
  clear hk
  go_wp2_with fail
  refine (unhide HW2 _).mono ?_
  rintro e wx ⟨rfl, hwx⟩
  rw [hwx]
  clear hwx wx
  go_wp2_with fail
  refine (unhide HW0 _).mono ?_
  rintro e wx ⟨rfl, hwx⟩
  rw [hwx]
  clear hwx wx
  go_wp2_with fail
  have hk0 := (Below.refl w1.heap.size w1).alloc (Nat.le_refl _) (.cells mc 46)
  refine (enc11_any _ _ _ _ (some ⟨w1.heap.size, 0, none⟩) 2 2 w1.heap.size (List.replicate 2 zEV) _ (unhide HEV w1)).mono ?_
  rintro e w3 h
  replace HT := hide ((unhide HT).trans ((hk0.trans (h.below.mono hk0.size)).mono (unhide HT).size))
  clear hk0 hmk
  rcases h.res with ⟨hok, -⟩ | ⟨-, rfl⟩
  · exfalso
    obtain ⟨⟨h1, h2⟩, ⟨⟨h3, h4⟩, ⟨h5, h6⟩, h7, h8⟩, h9, -⟩ := hok
    rw [List.length_replicate] at h9
    omega
  clear h
  go_wp2_with fail
  go_ret
  exact ⟨rfl, unhide HT⟩

set_option maxRecDepth 100000 in
set_option maxHeartbeats 16000000 in
theorem bnd4f (a0 a2 : Int) (w : World) (hq : a0 % 9 = 4) :
    Calls Tryz.prog 4 #[.int .i64 a0, .bool false, .int .i64 a2] w fun e w' => e = .returned (.bool true) ∧ Below w.heap.size w w' := by
  have W0 := fun W => (show Calls Tryz.prog 6 #[.int .i64 a0, .int .i64 9] W fun e w' => e = .returned (.int .i64 4) ∧ w' = W from (within11_any a0 9 W (by decide) (by decide)).mono (fun e w' h => by rw [← hq]; exact h))
  have HW0 := hide W0
  clear W0 hq
  have hmk : ∀ W : World, (Instr.makeSlice 22 (.int .i64 2) (.int .i64 2)).run Tryz.prog W = .ok (.slice (some ⟨W.heap.size, 0, none⟩) 2 2) (W.alloc (.cells (madeCells zEV.ar (2 * 19)) 46)) := fun W => run_evsB 2 (by omega) W
  have HEV := hide (fun W => arg_evsB 2 (by omega) W)
  obtain ⟨mc, hmc⟩ : ∃ mc, madeCells zEV.ar (2 * 19) = mc := ⟨_, rfl⟩
  simp only [hmc] at hmk HEV
  clear hmc
  go_enter Tryz.func4, Tryz.ntmps4
  go_wp2_with fail
  refine (known11_any w).mono ?_
  rintro e w1 ⟨rfl, hk⟩
  have HT := hide hk
  clear hk
  go_wp2_with fail
  refine (unhide HW0 _).mono ?_
  rintro e wx ⟨rfl, hwx⟩
  rw [hwx]
  clear hwx wx
  go_wp2_with fail
  have hk0 := (Below.refl w1.heap.size w1).alloc (Nat.le_refl _) (.cells mc 46)
  refine (enc11_any _ _ _ _ (some ⟨w1.heap.size, 0, none⟩) 2 2 w1.heap.size (List.replicate 2 zEV) _ (unhide HEV w1)).mono ?_
  rintro e w3 h
  replace HT := hide ((unhide HT).trans ((hk0.trans (h.below.mono hk0.size)).mono (unhide HT).size))
  clear hk0 hmk
  have hokr : okRow 7 5 255 5 (List.replicate 2 zEV) := ⟨⟨by omega, by omega⟩, ⟨⟨by omega, by omega⟩, ⟨by omega, by omega⟩, by omega, by omega⟩, by rw [List.length_replicate]; omega, evs_ok _⟩
  rcases h.res with ⟨-, vb, ps, rfl, hO⟩ | ⟨h1, -⟩
  rotate_left 1
  · exact absurd hokr h1
  rw [show ((7 : Int) - 2).toNat = 5 from rfl] at hO
  obtain ⟨G, hRG, -⟩ := hO.arg
  obtain ⟨ob, cb, hvb, -⟩ := hRG.ex
  rw [encL_len] at hvb
  subst hvb
  generalize psA ps = A0 at hRG
  generalize psC ps = C0 at hRG
  have HR := hide hRG
  have HSZ : Hid (∀ i, i < 7 → ((encL 5 5 255 5 (List.replicate 2 zEV)).getD i []).length = 48) := (encL_facts (a := 5) (b := 255) (c := 5) (d := 5) (evs_Ok 2) (by omega) (by omega)).1
  have HLEN : Hid (∀ (gf : Nat → Nat) i, ((pagesL A0 C0 gf (encL 5 5 255 5 (List.replicate 2 zEV)) 7 []).getD i zPV).x.length ≤ 100000) := fun gf i => by
    by_cases hi : i < 7
    · rw [pagesL_get hi, if_neg (by simp)]
      show ((encL 5 5 255 5 (List.replicate 2 zEV)).getD i []).length ≤ 100000
      rw [unhide HSZ i hi]; omega
    · rw [List.getD_eq_getElem?_getD, List.getElem?_eq_none (by rw [pagesL_len]; omega)]; simp [zPV]
  clear hO hRG h hokr
  go_wp2_with fail

  have hpg := pgs11_any _ 7 _ _ _ _ _ none 0 0 0 [] rfl (encL_len _ _ _ _ _) (by omega) (by omega) (by simp) w3 (unhide HR) (z_nilB w3)
  refine hpg.mono ?_
  clear hpg
  rintro e wp0 ⟨gf0, v, Gp0, rfl, hPB, -, hk⟩
  replace HT := hide ((unhide HT).trans (hk.mono (unhide HT).size))
  replace HR := hide ((unhide HR).below hk)
  obtain ⟨cP0, hvP, -, -⟩ := hPB.ex
  rw [pagesL_len] at hvP
  subst hvP
  have hdec := dec11_any 255 5 _ _ _ _ _ 0 (unhide HLEN gf0) wp0 hPB.arg
  have hdf := decF_back (d := 5) (a := 5) (b := 255) (c := 5) (S := List.replicate 2 zEV) (evs_Ok 2) (evs_ok 2) (by omega) (by omega) ⟨⟨by omega, by omega⟩, ⟨by omega, by omega⟩, by omega, by omega⟩ (A := A0) (C := C0) (gf := gf0) (lost := []) (by simp) (by simp) (most := 0) ⟨by omega, by omega⟩
  rw [if_neg (by simp), show 5 + 2 = 7 from rfl] at hdf
  have HDF := hide hdf
  have HDEC := hide hdec
  clear hk hPB hdf hdec
  go_wp2_with fail
  refine (unhide HDEC).mono ?_
  rintro e wd0 ⟨hk, v, hx, sv, g6, hv, hEA, -⟩
  rw [unhide HDF] at hx hv hEA
  replace HT := hide ((unhide HT).trans (hk.mono (unhide HT).size))
  replace HR := hide ((unhide HR).below hk)
  obtain ⟨so0, sc0, hs, -⟩ := hEA.ex
  rw [List.length_map, List.length_range] at hs
  subst hs
  subst hv
  subst hx
  clear HDF HDEC hEA hk
  dsimp only
  obtain ⟨wb0, hwb⟩ : ∃ W, wd0.alloc (.cells #[.int .i64 5, .int .i64 5, .slice so0 5 sc0] 37) = W := ⟨_, rfl⟩
  have hk : Below wd0.heap.size wd0 wb0 := by rw [← hwb]; exact (Below.refl _ wd0).alloc (Nat.le_refl _) _
  replace HT := hide ((unhide HT).trans (hk.mono (unhide HT).size))
  replace HR := hide ((unhide HR).below hk)
  have HRW : Hid (RwAt wb0 wd0.heap.size 5 5 (.slice so0 5 sc0)) := ⟨by rw [← hwb]; exact World.alloc_heap_new wd0 _⟩
  have HWBwb0 := hide hwb
  clear hwb hk
  go_wp2_with fail
  rw [unhide HWBwb0]
  have hpg := pgs11_any _ 7 _ _ _ _ _ none 0 0 0 [] rfl (encL_len _ _ _ _ _) (by omega) (by omega) (by simp) wb0 (unhide HR) (z_nilB wb0)
  refine hpg.mono ?_
  clear hpg
  rintro e wp1 ⟨gf1, v, Gp1, rfl, hPB, -, hk⟩
  replace HT := hide ((unhide HT).trans (hk.mono (unhide HT).size))
  replace HR := hide ((unhide HR).below hk)
  replace HRW := hide ((unhide HRW).below hk)
  obtain ⟨cP1, hvP, -, -⟩ := hPB.ex
  rw [pagesL_len] at hvP
  subst hvP
  have hdec := dec11_any 255 5 _ _ _ _ _ 3 (unhide HLEN gf1) wp1 hPB.arg
  have hdf := decF_most (super := 255) (at' := 5) (l := pagesL A0 C0 gf1 (encL 5 5 255 5 (List.replicate 2 zEV)) 7 []) (most := 3) (by omega)
  have HDF := hide hdf
  have HDEC := hide hdec
  clear hk hPB hdf hdec
  go_wp2_with fail
  refine (unhide HDEC).mono ?_
  rintro e wd1 ⟨hk, v, hx, sv, g6, hv, hEA, -⟩
  rw [unhide HDF] at hx hv hEA
  replace HT := hide ((unhide HT).trans (hk.mono (unhide HT).size))
  replace HR := hide ((unhide HR).below hk)
  replace HRW := hide ((unhide HRW).below hk)
  obtain ⟨so1, sc1, hs, -⟩ := hEA.ex

  subst hs
  subst hv
  subst hx
  clear HDF HDEC hEA hk
  dsimp only [zRow, List.length_nil]
  obtain ⟨wb1, hwb⟩ : ∃ W, wd1.alloc (.cells #[.int .i64 0, .int .i64 0, .slice so1 0 sc1] 37) = W := ⟨_, rfl⟩
  have hk : Below wd1.heap.size wd1 wb1 := by rw [← hwb]; exact (Below.refl _ wd1).alloc (Nat.le_refl _) _
  replace HT := hide ((unhide HT).trans (hk.mono (unhide HT).size))
  replace HR := hide ((unhide HR).below hk)
  replace HRW := hide ((unhide HRW).below hk)
  have HWBwb1 := hide hwb
  clear hwb hk
  go_wp2_with fail
  rw [unhide HWBwb1]
  have hpg := pgs11_any _ 7 _ _ _ _ _ none 0 0 0 [] rfl (encL_len _ _ _ _ _) (by omega) (by omega) (by simp) wb1 (unhide HR) (z_nilB wb1)
  refine hpg.mono ?_
  clear hpg
  rintro e wp2 ⟨gf2, v, Gp2, rfl, hPB, -, hk⟩
  replace HT := hide ((unhide HT).trans (hk.mono (unhide HT).size))
  replace HR := hide ((unhide HR).below hk)
  replace HRW := hide ((unhide HRW).below hk)
  obtain ⟨cP2, hvP, -, -⟩ := hPB.ex
  rw [pagesL_len] at hvP
  subst hvP
  have hdec := dec11_any 255 5 _ _ _ _ _ (-1) (unhide HLEN gf2) wp2 hPB.arg
  have hdf := decF_most (super := 255) (at' := 5) (l := pagesL A0 C0 gf2 (encL 5 5 255 5 (List.replicate 2 zEV)) 7 []) (most := (-1)) (by omega)
  have HDF := hide hdf
  have HDEC := hide hdec
  clear hk hPB hdf hdec
  go_wp2_with fail
  refine (unhide HDEC).mono ?_
  rintro e wd2 ⟨hk, v, hx, sv, g6, hv, hEA, -⟩
  rw [unhide HDF] at hx hv hEA
  replace HT := hide ((unhide HT).trans (hk.mono (unhide HT).size))
  replace HR := hide ((unhide HR).below hk)
  replace HRW := hide ((unhide HRW).below hk)
  obtain ⟨so2, sc2, hs, -⟩ := hEA.ex

  subst hs
  subst hv
  subst hx
  clear HDF HDEC hEA hk
  dsimp only [zRow, List.length_nil]
  have hkb : Below wd2.heap.size wd2 (wd2.alloc (.cells #[.int .i64 0, .int .i64 0, .slice so2 0 sc2] 37)) := (Below.refl _ wd2).alloc (Nat.le_refl _) _
  obtain ⟨hc0, hc1, hc2⟩ := ((unhide HRW).below hkb).cells
  replace HT := hide ((unhide HT).trans (hkb.mono (unhide HT).size))
  clear hkb
  have hza : zEV.ar = #[.int .i64 0, .int .i64 0, .int .i64 0, .int .u8 0, .int .u8 0, .int .u8 0, .int .u8 0, .int .u8 0, .int .u8 0, .int .u8 0, .int .u8 0, .int .u8 0, .int .u8 0, .int .u8 0, .int .u8 0, .int .u8 0, .int .u8 0, .int .u8 0, .int .u8 0] := by kernel_rfl
  have hza2 : entA 0 0 0 zer16 = #[.int .i64 0, .int .i64 0, .int .i64 0, .int .u8 0, .int .u8 0, .int .u8 0, .int .u8 0, .int .u8 0, .int .u8 0, .int .u8 0, .int .u8 0, .int .u8 0, .int .u8 0, .int .u8 0, .int .u8 0, .int .u8 0, .int .u8 0, .int .u8 0, .int .u8 0] := by kernel_rfl
  have hqE : ∀ W, (binOp .eql 46 (.agg (entA (gdK 0) (gdLb 0 0) (gdS 0 0) (gdD 0 zer16))) (.agg zEV.ar)).run Tryz.prog W = .ok (.bool true) W := fun W => eqTE _ _ _ _ _ _ _ _ (gdD_len (k := 0) (show zer16.length = 16 from rfl)) rfl true (by decide) W
  have hgd := fun W => good_any 0 0 0 zer16 rfl W
  obtain ⟨ga, hga⟩ : ∃ ga, entA (gdK 0) (gdLb 0 0) (gdS 0 0) (gdD 0 zer16) = ga := ⟨_, rfl⟩
  simp only [hza, hga] at hqE
  simp only [hga, hza2] at hgd
  have HGD := hide hgd
  clear hza hza2 hga hgd
  go_wp2_with fail
  refine (unhide HGD _).mono ?_
  rintro e w9 ⟨rfl, hk⟩
  replace HT := hide ((unhide HT).trans (hk.mono (unhide HT).size))
  clear hk
  go_wp2_with fail
  go_ret
  exact ⟨rfl, unhide HT⟩

set_option maxRecDepth 100000 in
set_option maxHeartbeats 16000000 in
theorem bnd5t (a0 a2 : Int) (w : World) (hq : a0 % 9 = 5) :
    Calls Tryz.prog 4 #[.int .i64 a0, .bool true, .int .i64 a2] w fun e w' => e = .returned (.bool true) ∧ Below w.heap.size w w' := by
  have W0 := fun W => (show Calls Tryz.prog 6 #[.int .i64 a0, .int .i64 9] W fun e w' => e = .returned (.int .i64 5) ∧ w' = W from (within11_any a0 9 W (by decide) (by decide)).mono (fun e w' h => by rw [← hq]; exact h))
  have HW0 := hide W0
  clear W0 hq
  obtain ⟨r, hr, hr2⟩ : ∃ r : Nat, a2 % 100 = (r : Int) ∧ r < 100 := ⟨(a2 % 100).toNat, by omega, by omega⟩
  have W2 := fun W => (show Calls Tryz.prog 6 #[.int .i64 a2, .int .i64 100] W fun e w' => e = .returned (.int .i64 (r : Int)) ∧ w' = W from (within11_any a2 100 W (by decide) (by decide)).mono (fun e w' h => by rw [← hr]; exact h))
  have HW2 := hide W2
  clear W2 hr
  have hmk : ∀ W : World, (Instr.makeSlice 22 (.int .i64 2) (.int .i64 2)).run Tryz.prog W = .ok (.slice (some ⟨W.heap.size, 0, none⟩) 2 2) (W.alloc (.cells (madeCells zEV.ar (2 * 19)) 46)) := fun W => run_evsB 2 (by omega) W
  have HEV := hide (fun W => arg_evsB 2 (by omega) W)
  obtain ⟨mc, hmc⟩ : ∃ mc, madeCells zEV.ar (2 * 19) = mc := ⟨_, rfl⟩
  simp only [hmc] at hmk HEV
  clear hmc
  go_enter Tryz.func4, Tryz.ntmps4
  go_wp2_with fail
  refine (known11_any w).mono ?_
  rintro e w1 ⟨rfl, hk⟩
  have HT := hide hk
  clear hk
  go_wp2_with fail
  refine (unhide HW2 _).mono ?_
  rintro e wx ⟨rfl, hwx⟩
  rw [hwx]
  clear hwx wx
  go_wp2_with fail
  refine (unhide HW0 _).mono ?_
  rintro e wx ⟨rfl, hwx⟩
  rw [hwx]
  clear hwx wx
  go_wp2_with fail
  have hk0 := (Below.refl w1.heap.size w1).alloc (Nat.le_refl _) (.cells mc 46)
  refine (enc11_any _ _ _ _ (some ⟨w1.heap.size, 0, none⟩) 2 2 w1.heap.size (List.replicate 2 zEV) _ (unhide HEV w1)).mono ?_
  rintro e w3 h
  replace HT := hide ((unhide HT).trans ((hk0.trans (h.below.mono hk0.size)).mono (unhide HT).size))
  clear hk0 hmk
  rcases h.res with ⟨hok, -⟩ | ⟨-, rfl⟩
  · exfalso
    obtain ⟨⟨h1, h2⟩, ⟨⟨h3, h4⟩, ⟨h5, h6⟩, h7, h8⟩, h9, -⟩ := hok
    rw [List.length_replicate] at h9
    omega
  clear h
  go_wp2_with fail
  go_ret
  exact ⟨rfl, unhide HT⟩

set_option maxRecDepth 100000 in
set_option maxHeartbeats 16000000 in
theorem bnd5f (a0 a2 : Int) (w : World) (hq : a0 % 9 = 5) :
    Calls Tryz.prog 4 #[.int .i64 a0, .bool false, .int .i64 a2] w fun e w' => e = .returned (.bool true) ∧ Below w.heap.size w w' := by
  have W0 := fun W => (show Calls Tryz.prog 6 #[.int .i64 a0, .int .i64 9] W fun e w' => e = .returned (.int .i64 5) ∧ w' = W from (within11_any a0 9 W (by decide) (by decide)).mono (fun e w' h => by rw [← hq]; exact h))
  have HW0 := hide W0
  clear W0 hq
  have hmk : ∀ W : World, (Instr.makeSlice 22 (.int .i64 2) (.int .i64 2)).run Tryz.prog W = .ok (.slice (some ⟨W.heap.size, 0, none⟩) 2 2) (W.alloc (.cells (madeCells zEV.ar (2 * 19)) 46)) := fun W => run_evsB 2 (by omega) W
  have HEV := hide (fun W => arg_evsB 2 (by omega) W)
  obtain ⟨mc, hmc⟩ : ∃ mc, madeCells zEV.ar (2 * 19) = mc := ⟨_, rfl⟩
  simp only [hmc] at hmk HEV
  clear hmc
  go_enter Tryz.func4, Tryz.ntmps4
  go_wp2_with fail
  refine (known11_any w).mono ?_
  rintro e w1 ⟨rfl, hk⟩
  have HT := hide hk
  clear hk
  go_wp2_with fail
  refine (unhide HW0 _).mono ?_
  rintro e wx ⟨rfl, hwx⟩
  rw [hwx]
  clear hwx wx
  go_wp2_with fail
  have hk0 := (Below.refl w1.heap.size w1).alloc (Nat.le_refl _) (.cells mc 46)
  refine (enc11_any _ _ _ _ (some ⟨w1.heap.size, 0, none⟩) 2 2 w1.heap.size (List.replicate 2 zEV) _ (unhide HEV w1)).mono ?_
  rintro e w3 h
  replace HT := hide ((unhide HT).trans ((hk0.trans (h.below.mono hk0.size)).mono (unhide HT).size))
  clear hk0 hmk
  have hokr : okRow 7 5 0 5 (List.replicate 2 zEV) := ⟨⟨by omega, by omega⟩, ⟨⟨by omega, by omega⟩, ⟨by omega, by omega⟩, by omega, by omega⟩, by rw [List.length_replicate]; omega, evs_ok _⟩
  rcases h.res with ⟨-, vb, ps, rfl, hO⟩ | ⟨h1, -⟩
  rotate_left 1
  · exact absurd hokr h1
  rw [show ((7 : Int) - 2).toNat = 5 from rfl] at hO
  obtain ⟨G, hRG, -⟩ := hO.arg
  obtain ⟨ob, cb, hvb, -⟩ := hRG.ex
  rw [encL_len] at hvb
  subst hvb
  generalize psA ps = A0 at hRG
  generalize psC ps = C0 at hRG
  have HR := hide hRG
  have HSZ : Hid (∀ i, i < 7 → ((encL 5 5 0 5 (List.replicate 2 zEV)).getD i []).length = 48) := (encL_facts (a := 5) (b := 0) (c := 5) (d := 5) (evs_Ok 2) (by omega) (by omega)).1
  have HLEN : Hid (∀ (gf : Nat → Nat) i, ((pagesL A0 C0 gf (encL 5 5 0 5 (List.replicate 2 zEV)) 7 []).getD i zPV).x.length ≤ 100000) := fun gf i => by
    by_cases hi : i < 7
    · rw [pagesL_get hi, if_neg (by simp)]
      show ((encL 5 5 0 5 (List.replicate 2 zEV)).getD i []).length ≤ 100000
      rw [unhide HSZ i hi]; omega
    · rw [List.getD_eq_getElem?_getD, List.getElem?_eq_none (by rw [pagesL_len]; omega)]; simp [zPV]
  clear hO hRG h hokr
  go_wp2_with fail

  have hpg := pgs11_any _ 7 _ _ _ _ _ none 0 0 0 [] rfl (encL_len _ _ _ _ _) (by omega) (by omega) (by simp) w3 (unhide HR) (z_nilB w3)
  refine hpg.mono ?_
  clear hpg
  rintro e wp0 ⟨gf0, v, Gp0, rfl, hPB, -, hk⟩
  replace HT := hide ((unhide HT).trans (hk.mono (unhide HT).size))
  replace HR := hide ((unhide HR).below hk)
  obtain ⟨cP0, hvP, -, -⟩ := hPB.ex
  rw [pagesL_len] at hvP
  subst hvP
  have hdec := dec11_any 0 5 _ _ _ _ _ 0 (unhide HLEN gf0) wp0 hPB.arg
  have hdf := decF_back (d := 5) (a := 5) (b := 0) (c := 5) (S := List.replicate 2 zEV) (evs_Ok 2) (evs_ok 2) (by omega) (by omega) ⟨⟨by omega, by omega⟩, ⟨by omega, by omega⟩, by omega, by omega⟩ (A := A0) (C := C0) (gf := gf0) (lost := []) (by simp) (by simp) (most := 0) ⟨by omega, by omega⟩
  rw [if_neg (by simp), show 5 + 2 = 7 from rfl] at hdf
  have HDF := hide hdf
  have HDEC := hide hdec
  clear hk hPB hdf hdec
  go_wp2_with fail
  refine (unhide HDEC).mono ?_
  rintro e wd0 ⟨hk, v, hx, sv, g6, hv, hEA, -⟩
  rw [unhide HDF] at hx hv hEA
  replace HT := hide ((unhide HT).trans (hk.mono (unhide HT).size))
  replace HR := hide ((unhide HR).below hk)
  obtain ⟨so0, sc0, hs, -⟩ := hEA.ex
  rw [List.length_map, List.length_range] at hs
  subst hs
  subst hv
  subst hx
  clear HDF HDEC hEA hk
  dsimp only
  obtain ⟨wb0, hwb⟩ : ∃ W, wd0.alloc (.cells #[.int .i64 5, .int .i64 5, .slice so0 5 sc0] 37) = W := ⟨_, rfl⟩
  have hk : Below wd0.heap.size wd0 wb0 := by rw [← hwb]; exact (Below.refl _ wd0).alloc (Nat.le_refl _) _
  replace HT := hide ((unhide HT).trans (hk.mono (unhide HT).size))
  replace HR := hide ((unhide HR).below hk)
  have HRW : Hid (RwAt wb0 wd0.heap.size 5 5 (.slice so0 5 sc0)) := ⟨by rw [← hwb]; exact World.alloc_heap_new wd0 _⟩
  have HWBwb0 := hide hwb
  clear hwb hk
  go_wp2_with fail
  rw [unhide HWBwb0]
  have hpg := pgs11_any _ 7 _ _ _ _ _ none 0 0 0 [] rfl (encL_len _ _ _ _ _) (by omega) (by omega) (by simp) wb0 (unhide HR) (z_nilB wb0)
  refine hpg.mono ?_
  clear hpg
  rintro e wp1 ⟨gf1, v, Gp1, rfl, hPB, -, hk⟩
  replace HT := hide ((unhide HT).trans (hk.mono (unhide HT).size))
  replace HR := hide ((unhide HR).below hk)
  replace HRW := hide ((unhide HRW).below hk)
  obtain ⟨cP1, hvP, -, -⟩ := hPB.ex
  rw [pagesL_len] at hvP
  subst hvP
  have hdec := dec11_any 0 5 _ _ _ _ _ 3 (unhide HLEN gf1) wp1 hPB.arg
  have hdf := decF_most (super := 0) (at' := 5) (l := pagesL A0 C0 gf1 (encL 5 5 0 5 (List.replicate 2 zEV)) 7 []) (most := 3) (by omega)
  have HDF := hide hdf
  have HDEC := hide hdec
  clear hk hPB hdf hdec
  go_wp2_with fail
  refine (unhide HDEC).mono ?_
  rintro e wd1 ⟨hk, v, hx, sv, g6, hv, hEA, -⟩
  rw [unhide HDF] at hx hv hEA
  replace HT := hide ((unhide HT).trans (hk.mono (unhide HT).size))
  replace HR := hide ((unhide HR).below hk)
  replace HRW := hide ((unhide HRW).below hk)
  obtain ⟨so1, sc1, hs, -⟩ := hEA.ex

  subst hs
  subst hv
  subst hx
  clear HDF HDEC hEA hk
  dsimp only [zRow, List.length_nil]
  obtain ⟨wb1, hwb⟩ : ∃ W, wd1.alloc (.cells #[.int .i64 0, .int .i64 0, .slice so1 0 sc1] 37) = W := ⟨_, rfl⟩
  have hk : Below wd1.heap.size wd1 wb1 := by rw [← hwb]; exact (Below.refl _ wd1).alloc (Nat.le_refl _) _
  replace HT := hide ((unhide HT).trans (hk.mono (unhide HT).size))
  replace HR := hide ((unhide HR).below hk)
  replace HRW := hide ((unhide HRW).below hk)
  have HWBwb1 := hide hwb
  clear hwb hk
  go_wp2_with fail
  rw [unhide HWBwb1]
  have hpg := pgs11_any _ 7 _ _ _ _ _ none 0 0 0 [] rfl (encL_len _ _ _ _ _) (by omega) (by omega) (by simp) wb1 (unhide HR) (z_nilB wb1)
  refine hpg.mono ?_
  clear hpg
  rintro e wp2 ⟨gf2, v, Gp2, rfl, hPB, -, hk⟩
  replace HT := hide ((unhide HT).trans (hk.mono (unhide HT).size))
  replace HR := hide ((unhide HR).below hk)
  replace HRW := hide ((unhide HRW).below hk)
  obtain ⟨cP2, hvP, -, -⟩ := hPB.ex
  rw [pagesL_len] at hvP
  subst hvP
  have hdec := dec11_any 0 5 _ _ _ _ _ (-1) (unhide HLEN gf2) wp2 hPB.arg
  have hdf := decF_most (super := 0) (at' := 5) (l := pagesL A0 C0 gf2 (encL 5 5 0 5 (List.replicate 2 zEV)) 7 []) (most := (-1)) (by omega)
  have HDF := hide hdf
  have HDEC := hide hdec
  clear hk hPB hdf hdec
  go_wp2_with fail
  refine (unhide HDEC).mono ?_
  rintro e wd2 ⟨hk, v, hx, sv, g6, hv, hEA, -⟩
  rw [unhide HDF] at hx hv hEA
  replace HT := hide ((unhide HT).trans (hk.mono (unhide HT).size))
  replace HR := hide ((unhide HR).below hk)
  replace HRW := hide ((unhide HRW).below hk)
  obtain ⟨so2, sc2, hs, -⟩ := hEA.ex

  subst hs
  subst hv
  subst hx
  clear HDF HDEC hEA hk
  dsimp only [zRow, List.length_nil]
  have hkb : Below wd2.heap.size wd2 (wd2.alloc (.cells #[.int .i64 0, .int .i64 0, .slice so2 0 sc2] 37)) := (Below.refl _ wd2).alloc (Nat.le_refl _) _
  obtain ⟨hc0, hc1, hc2⟩ := ((unhide HRW).below hkb).cells
  replace HT := hide ((unhide HT).trans (hkb.mono (unhide HT).size))
  clear hkb
  have hza : zEV.ar = #[.int .i64 0, .int .i64 0, .int .i64 0, .int .u8 0, .int .u8 0, .int .u8 0, .int .u8 0, .int .u8 0, .int .u8 0, .int .u8 0, .int .u8 0, .int .u8 0, .int .u8 0, .int .u8 0, .int .u8 0, .int .u8 0, .int .u8 0, .int .u8 0, .int .u8 0] := by kernel_rfl
  have hza2 : entA 0 0 0 zer16 = #[.int .i64 0, .int .i64 0, .int .i64 0, .int .u8 0, .int .u8 0, .int .u8 0, .int .u8 0, .int .u8 0, .int .u8 0, .int .u8 0, .int .u8 0, .int .u8 0, .int .u8 0, .int .u8 0, .int .u8 0, .int .u8 0, .int .u8 0, .int .u8 0, .int .u8 0] := by kernel_rfl
  have hqE : ∀ W, (binOp .eql 46 (.agg (entA (gdK 0) (gdLb 0 0) (gdS 0 0) (gdD 0 zer16))) (.agg zEV.ar)).run Tryz.prog W = .ok (.bool true) W := fun W => eqTE _ _ _ _ _ _ _ _ (gdD_len (k := 0) (show zer16.length = 16 from rfl)) rfl true (by decide) W
  have hgd := fun W => good_any 0 0 0 zer16 rfl W
  obtain ⟨ga, hga⟩ : ∃ ga, entA (gdK 0) (gdLb 0 0) (gdS 0 0) (gdD 0 zer16) = ga := ⟨_, rfl⟩
  simp only [hza, hga] at hqE
  simp only [hga, hza2] at hgd
  have HGD := hide hgd
  clear hza hza2 hga hgd
  go_wp2_with fail
  refine (unhide HGD _).mono ?_
  rintro e w9 ⟨rfl, hk⟩
  replace HT := hide ((unhide HT).trans (hk.mono (unhide HT).size))
  clear hk
  go_wp2_with fail
  go_ret
  exact ⟨rfl, unhide HT⟩

set_option maxRecDepth 100000 in
set_option maxHeartbeats 16000000 in
theorem bnd6t (a0 a2 : Int) (w : World) (hq : a0 % 9 = 6) :
    Calls Tryz.prog 4 #[.int .i64 a0, .bool true, .int .i64 a2] w fun e w' => e = .returned (.bool true) ∧ Below w.heap.size w w' := by
  have W0 := fun W => (show Calls Tryz.prog 6 #[.int .i64 a0, .int .i64 9] W fun e w' => e = .returned (.int .i64 6) ∧ w' = W from (within11_any a0 9 W (by decide) (by decide)).mono (fun e w' h => by rw [← hq]; exact h))
  have HW0 := hide W0
  clear W0 hq
  obtain ⟨r, hr, hr2⟩ : ∃ r : Nat, a2 % 100 = (r : Int) ∧ r < 100 := ⟨(a2 % 100).toNat, by omega, by omega⟩
  have W2 := fun W => (show Calls Tryz.prog 6 #[.int .i64 a2, .int .i64 100] W fun e w' => e = .returned (.int .i64 (r : Int)) ∧ w' = W from (within11_any a2 100 W (by decide) (by decide)).mono (fun e w' h => by rw [← hr]; exact h))
  have HW2 := hide W2
  clear W2 hr
  have hmk : ∀ W : World, (Instr.makeSlice 22 (.int .i64 2) (.int .i64 2)).run Tryz.prog W = .ok (.slice (some ⟨W.heap.size, 0, none⟩) 2 2) (W.alloc (.cells (madeCells zEV.ar (2 * 19)) 46)) := fun W => run_evsB 2 (by omega) W
  have HEV := hide (fun W => arg_evsB 2 (by omega) W)
  obtain ⟨mc, hmc⟩ : ∃ mc, madeCells zEV.ar (2 * 19) = mc := ⟨_, rfl⟩
  simp only [hmc] at hmk HEV
  clear hmc
  go_enter Tryz.func4, Tryz.ntmps4
  go_wp2_with fail
  refine (known11_any w).mono ?_
  rintro e w1 ⟨rfl, hk⟩
  have HT := hide hk
  clear hk
  go_wp2_with fail
  refine (unhide HW2 _).mono ?_
  rintro e wx ⟨rfl, hwx⟩
  rw [hwx]
  clear hwx wx
  go_wp2_with fail
  refine (unhide HW0 _).mono ?_
  rintro e wx ⟨rfl, hwx⟩
  rw [hwx]
  clear hwx wx
  go_wp2_with fail
  have hk0 := (Below.refl w1.heap.size w1).alloc (Nat.le_refl _) (.cells mc 46)
  refine (enc11_any _ _ _ _ (some ⟨w1.heap.size, 0, none⟩) 2 2 w1.heap.size (List.replicate 2 zEV) _ (unhide HEV w1)).mono ?_
  rintro e w3 h
  replace HT := hide ((unhide HT).trans ((hk0.trans (h.below.mono hk0.size)).mono (unhide HT).size))
  clear hk0 hmk
  rcases h.res with ⟨hok, -⟩ | ⟨-, rfl⟩
  · exfalso
    obtain ⟨⟨h1, h2⟩, ⟨⟨h3, h4⟩, ⟨h5, h6⟩, h7, h8⟩, h9, -⟩ := hok
    rw [List.length_replicate] at h9
    omega
  clear h
  go_wp2_with fail
  go_ret
  exact ⟨rfl, unhide HT⟩

set_option maxRecDepth 100000 in
set_option maxHeartbeats 16000000 in
theorem bnd6f (a0 a2 : Int) (w : World) (hq : a0 % 9 = 6) :
    Calls Tryz.prog 4 #[.int .i64 a0, .bool false, .int .i64 a2] w fun e w' => e = .returned (.bool true) ∧ Below w.heap.size w w' := by
  have W0 := fun W => (show Calls Tryz.prog 6 #[.int .i64 a0, .int .i64 9] W fun e w' => e = .returned (.int .i64 6) ∧ w' = W from (within11_any a0 9 W (by decide) (by decide)).mono (fun e w' h => by rw [← hq]; exact h))
  have HW0 := hide W0
  clear W0 hq
  have hmk : ∀ W : World, (Instr.makeSlice 22 (.int .i64 2) (.int .i64 2)).run Tryz.prog W = .ok (.slice (some ⟨W.heap.size, 0, none⟩) 2 2) (W.alloc (.cells (madeCells zEV.ar (2 * 19)) 46)) := fun W => run_evsB 2 (by omega) W
  have HEV := hide (fun W => arg_evsB 2 (by omega) W)
  obtain ⟨mc, hmc⟩ : ∃ mc, madeCells zEV.ar (2 * 19) = mc := ⟨_, rfl⟩
  simp only [hmc] at hmk HEV
  clear hmc
  go_enter Tryz.func4, Tryz.ntmps4
  go_wp2_with fail
  refine (known11_any w).mono ?_
  rintro e w1 ⟨rfl, hk⟩
  have HT := hide hk
  clear hk
  go_wp2_with fail
  refine (unhide HW0 _).mono ?_
  rintro e wx ⟨rfl, hwx⟩
  rw [hwx]
  clear hwx wx
  go_wp2_with fail
  have hk0 := (Below.refl w1.heap.size w1).alloc (Nat.le_refl _) (.cells mc 46)
  refine (enc11_any _ _ _ _ (some ⟨w1.heap.size, 0, none⟩) 2 2 w1.heap.size (List.replicate 2 zEV) _ (unhide HEV w1)).mono ?_
  rintro e w3 h
  replace HT := hide ((unhide HT).trans ((hk0.trans (h.below.mono hk0.size)).mono (unhide HT).size))
  clear hk0 hmk
  have hokr : okRow 7 5 5 255 (List.replicate 2 zEV) := ⟨⟨by omega, by omega⟩, ⟨⟨by omega, by omega⟩, ⟨by omega, by omega⟩, by omega, by omega⟩, by rw [List.length_replicate]; omega, evs_ok _⟩
  rcases h.res with ⟨-, vb, ps, rfl, hO⟩ | ⟨h1, -⟩
  rotate_left 1
  · exact absurd hokr h1
  rw [show ((7 : Int) - 2).toNat = 5 from rfl] at hO
  obtain ⟨G, hRG, -⟩ := hO.arg
  obtain ⟨ob, cb, hvb, -⟩ := hRG.ex
  rw [encL_len] at hvb
  subst hvb
  generalize psA ps = A0 at hRG
  generalize psC ps = C0 at hRG
  have HR := hide hRG
  have HSZ : Hid (∀ i, i < 7 → ((encL 5 5 5 255 (List.replicate 2 zEV)).getD i []).length = 48) := (encL_facts (a := 5) (b := 5) (c := 255) (d := 5) (evs_Ok 2) (by omega) (by omega)).1
  have HLEN : Hid (∀ (gf : Nat → Nat) i, ((pagesL A0 C0 gf (encL 5 5 5 255 (List.replicate 2 zEV)) 7 []).getD i zPV).x.length ≤ 100000) := fun gf i => by
    by_cases hi : i < 7
    · rw [pagesL_get hi, if_neg (by simp)]
      show ((encL 5 5 5 255 (List.replicate 2 zEV)).getD i []).length ≤ 100000
      rw [unhide HSZ i hi]; omega
    · rw [List.getD_eq_getElem?_getD, List.getElem?_eq_none (by rw [pagesL_len]; omega)]; simp [zPV]
  clear hO hRG h hokr
  go_wp2_with fail

  have hpg := pgs11_any _ 7 _ _ _ _ _ none 0 0 0 [] rfl (encL_len _ _ _ _ _) (by omega) (by omega) (by simp) w3 (unhide HR) (z_nilB w3)
  refine hpg.mono ?_
  clear hpg
  rintro e wp0 ⟨gf0, v, Gp0, rfl, hPB, -, hk⟩
  replace HT := hide ((unhide HT).trans (hk.mono (unhide HT).size))
  replace HR := hide ((unhide HR).below hk)
  obtain ⟨cP0, hvP, -, -⟩ := hPB.ex
  rw [pagesL_len] at hvP
  subst hvP
  have hdec := dec11_any 5 255 _ _ _ _ _ 0 (unhide HLEN gf0) wp0 hPB.arg
  have hdf := decF_back (d := 5) (a := 5) (b := 5) (c := 255) (S := List.replicate 2 zEV) (evs_Ok 2) (evs_ok 2) (by omega) (by omega) ⟨⟨by omega, by omega⟩, ⟨by omega, by omega⟩, by omega, by omega⟩ (A := A0) (C := C0) (gf := gf0) (lost := []) (by simp) (by simp) (most := 0) ⟨by omega, by omega⟩
  rw [if_neg (by simp), show 5 + 2 = 7 from rfl] at hdf
  have HDF := hide hdf
  have HDEC := hide hdec
  clear hk hPB hdf hdec
  go_wp2_with fail
  refine (unhide HDEC).mono ?_
  rintro e wd0 ⟨hk, v, hx, sv, g6, hv, hEA, -⟩
  rw [unhide HDF] at hx hv hEA
  replace HT := hide ((unhide HT).trans (hk.mono (unhide HT).size))
  replace HR := hide ((unhide HR).below hk)
  obtain ⟨so0, sc0, hs, -⟩ := hEA.ex
  rw [List.length_map, List.length_range] at hs
  subst hs
  subst hv
  subst hx
  clear HDF HDEC hEA hk
  dsimp only
  obtain ⟨wb0, hwb⟩ : ∃ W, wd0.alloc (.cells #[.int .i64 5, .int .i64 255, .slice so0 5 sc0] 37) = W := ⟨_, rfl⟩
  have hk : Below wd0.heap.size wd0 wb0 := by rw [← hwb]; exact (Below.refl _ wd0).alloc (Nat.le_refl _) _
  replace HT := hide ((unhide HT).trans (hk.mono (unhide HT).size))
  replace HR := hide ((unhide HR).below hk)
  have HRW : Hid (RwAt wb0 wd0.heap.size 5 255 (.slice so0 5 sc0)) := ⟨by rw [← hwb]; exact World.alloc_heap_new wd0 _⟩
  have HWBwb0 := hide hwb
  clear hwb hk
  go_wp2_with fail
  rw [unhide HWBwb0]
  have hpg := pgs11_any _ 7 _ _ _ _ _ none 0 0 0 [] rfl (encL_len _ _ _ _ _) (by omega) (by omega) (by simp) wb0 (unhide HR) (z_nilB wb0)
  refine hpg.mono ?_
  clear hpg
  rintro e wp1 ⟨gf1, v, Gp1, rfl, hPB, -, hk⟩
  replace HT := hide ((unhide HT).trans (hk.mono (unhide HT).size))
  replace HR := hide ((unhide HR).below hk)
  replace HRW := hide ((unhide HRW).below hk)
  obtain ⟨cP1, hvP, -, -⟩ := hPB.ex
  rw [pagesL_len] at hvP
  subst hvP
  have hdec := dec11_any 5 255 _ _ _ _ _ 3 (unhide HLEN gf1) wp1 hPB.arg
  have hdf := decF_most (super := 5) (at' := 255) (l := pagesL A0 C0 gf1 (encL 5 5 5 255 (List.replicate 2 zEV)) 7 []) (most := 3) (by omega)
  have HDF := hide hdf
  have HDEC := hide hdec
  clear hk hPB hdf hdec
  go_wp2_with fail
  refine (unhide HDEC).mono ?_
  rintro e wd1 ⟨hk, v, hx, sv, g6, hv, hEA, -⟩
  rw [unhide HDF] at hx hv hEA
  replace HT := hide ((unhide HT).trans (hk.mono (unhide HT).size))
  replace HR := hide ((unhide HR).below hk)
  replace HRW := hide ((unhide HRW).below hk)
  obtain ⟨so1, sc1, hs, -⟩ := hEA.ex

  subst hs
  subst hv
  subst hx
  clear HDF HDEC hEA hk
  dsimp only [zRow, List.length_nil]
  obtain ⟨wb1, hwb⟩ : ∃ W, wd1.alloc (.cells #[.int .i64 0, .int .i64 0, .slice so1 0 sc1] 37) = W := ⟨_, rfl⟩
  have hk : Below wd1.heap.size wd1 wb1 := by rw [← hwb]; exact (Below.refl _ wd1).alloc (Nat.le_refl _) _
  replace HT := hide ((unhide HT).trans (hk.mono (unhide HT).size))
  replace HR := hide ((unhide HR).below hk)
  replace HRW := hide ((unhide HRW).below hk)
  have HWBwb1 := hide hwb
  clear hwb hk
  go_wp2_with fail
  rw [unhide HWBwb1]
  have hpg := pgs11_any _ 7 _ _ _ _ _ none 0 0 0 [] rfl (encL_len _ _ _ _ _) (by omega) (by omega) (by simp) wb1 (unhide HR) (z_nilB wb1)
  refine hpg.mono ?_
  clear hpg
  rintro e wp2 ⟨gf2, v, Gp2, rfl, hPB, -, hk⟩
  replace HT := hide ((unhide HT).trans (hk.mono (unhide HT).size))
  replace HR := hide ((unhide HR).below hk)
  replace HRW := hide ((unhide HRW).below hk)
  obtain ⟨cP2, hvP, -, -⟩ := hPB.ex
  rw [pagesL_len] at hvP
  subst hvP
  have hdec := dec11_any 5 255 _ _ _ _ _ (-1) (unhide HLEN gf2) wp2 hPB.arg
  have hdf := decF_most (super := 5) (at' := 255) (l := pagesL A0 C0 gf2 (encL 5 5 5 255 (List.replicate 2 zEV)) 7 []) (most := (-1)) (by omega)
  have HDF := hide hdf
  have HDEC := hide hdec
  clear hk hPB hdf hdec
  go_wp2_with fail
  refine (unhide HDEC).mono ?_
  rintro e wd2 ⟨hk, v, hx, sv, g6, hv, hEA, -⟩
  rw [unhide HDF] at hx hv hEA
  replace HT := hide ((unhide HT).trans (hk.mono (unhide HT).size))
  replace HR := hide ((unhide HR).below hk)
  replace HRW := hide ((unhide HRW).below hk)
  obtain ⟨so2, sc2, hs, -⟩ := hEA.ex

  subst hs
  subst hv
  subst hx
  clear HDF HDEC hEA hk
  dsimp only [zRow, List.length_nil]
  have hkb : Below wd2.heap.size wd2 (wd2.alloc (.cells #[.int .i64 0, .int .i64 0, .slice so2 0 sc2] 37)) := (Below.refl _ wd2).alloc (Nat.le_refl _) _
  obtain ⟨hc0, hc1, hc2⟩ := ((unhide HRW).below hkb).cells
  replace HT := hide ((unhide HT).trans (hkb.mono (unhide HT).size))
  clear hkb
  have hza : zEV.ar = #[.int .i64 0, .int .i64 0, .int .i64 0, .int .u8 0, .int .u8 0, .int .u8 0, .int .u8 0, .int .u8 0, .int .u8 0, .int .u8 0, .int .u8 0, .int .u8 0, .int .u8 0, .int .u8 0, .int .u8 0, .int .u8 0, .int .u8 0, .int .u8 0, .int .u8 0] := by kernel_rfl
  have hza2 : entA 0 0 0 zer16 = #[.int .i64 0, .int .i64 0, .int .i64 0, .int .u8 0, .int .u8 0, .int .u8 0, .int .u8 0, .int .u8 0, .int .u8 0, .int .u8 0, .int .u8 0, .int .u8 0, .int .u8 0, .int .u8 0, .int .u8 0, .int .u8 0, .int .u8 0, .int .u8 0, .int .u8 0] := by kernel_rfl
  have hqE : ∀ W, (binOp .eql 46 (.agg (entA (gdK 0) (gdLb 0 0) (gdS 0 0) (gdD 0 zer16))) (.agg zEV.ar)).run Tryz.prog W = .ok (.bool true) W := fun W => eqTE _ _ _ _ _ _ _ _ (gdD_len (k := 0) (show zer16.length = 16 from rfl)) rfl true (by decide) W
  have hgd := fun W => good_any 0 0 0 zer16 rfl W
  obtain ⟨ga, hga⟩ : ∃ ga, entA (gdK 0) (gdLb 0 0) (gdS 0 0) (gdD 0 zer16) = ga := ⟨_, rfl⟩
  simp only [hza, hga] at hqE
  simp only [hga, hza2] at hgd
  have HGD := hide hgd
  clear hza hza2 hga hgd
  go_wp2_with fail
  refine (unhide HGD _).mono ?_
  rintro e w9 ⟨rfl, hk⟩
  replace HT := hide ((unhide HT).trans (hk.mono (unhide HT).size))
  clear hk
  go_wp2_with fail
  go_ret
  exact ⟨rfl, unhide HT⟩

set_option maxRecDepth 100000 in
set_option maxHeartbeats 16000000 in
theorem bnd7t (a0 a2 : Int) (w : World) (hq : a0 % 9 = 7) :
    Calls Tryz.prog 4 #[.int .i64 a0, .bool true, .int .i64 a2] w fun e w' => e = .returned (.bool true) ∧ Below w.heap.size w w' := by
  have W0 := fun W => (show Calls Tryz.prog 6 #[.int .i64 a0, .int .i64 9] W fun e w' => e = .returned (.int .i64 7) ∧ w' = W from (within11_any a0 9 W (by decide) (by decide)).mono (fun e w' h => by rw [← hq]; exact h))
  have HW0 := hide W0
  clear W0 hq
  obtain ⟨r, hr, hr2⟩ : ∃ r : Nat, a2 % 100 = (r : Int) ∧ r < 100 := ⟨(a2 % 100).toNat, by omega, by omega⟩
  have W2 := fun W => (show Calls Tryz.prog 6 #[.int .i64 a2, .int .i64 100] W fun e w' => e = .returned (.int .i64 (r : Int)) ∧ w' = W from (within11_any a2 100 W (by decide) (by decide)).mono (fun e w' h => by rw [← hr]; exact h))
  have HW2 := hide W2
  clear W2 hr
  have hmk : ∀ W : World, (Instr.makeSlice 22 (.int .i64 2) (.int .i64 2)).run Tryz.prog W = .ok (.slice (some ⟨W.heap.size, 0, none⟩) 2 2) (W.alloc (.cells (madeCells zEV.ar (2 * 19)) 46)) := fun W => run_evsB 2 (by omega) W
  have HEV := hide (fun W => arg_evsB 2 (by omega) W)
  obtain ⟨mc, hmc⟩ : ∃ mc, madeCells zEV.ar (2 * 19) = mc := ⟨_, rfl⟩
  simp only [hmc] at hmk HEV
  clear hmc
  go_enter Tryz.func4, Tryz.ntmps4
  go_wp2_with fail
  refine (known11_any w).mono ?_
  rintro e w1 ⟨rfl, hk⟩
  have HT := hide hk
  clear hk
  go_wp2_with fail
  refine (unhide HW2 _).mono ?_
  rintro e wx ⟨rfl, hwx⟩
  rw [hwx]
  clear hwx wx
  go_wp2_with fail
  refine (unhide HW0 _).mono ?_
  rintro e wx ⟨rfl, hwx⟩
  rw [hwx]
  clear hwx wx
  go_wp2_with fail
  have hk0 := (Below.refl w1.heap.size w1).alloc (Nat.le_refl _) (.cells mc 46)
  refine (enc11_any _ _ _ _ (some ⟨w1.heap.size, 0, none⟩) 2 2 w1.heap.size (List.replicate 2 zEV) _ (unhide HEV w1)).mono ?_
  rintro e w3 h
  replace HT := hide ((unhide HT).trans ((hk0.trans (h.below.mono hk0.size)).mono (unhide HT).size))
  clear hk0 hmk
  rcases h.res with ⟨hok, -⟩ | ⟨-, rfl⟩
  · exfalso
    obtain ⟨⟨h1, h2⟩, ⟨⟨h3, h4⟩, ⟨h5, h6⟩, h7, h8⟩, h9, -⟩ := hok
    rw [List.length_replicate] at h9
    omega
  clear h
  go_wp2_with fail
  go_ret
  exact ⟨rfl, unhide HT⟩

set_option maxRecDepth 100000 in
set_option maxHeartbeats 16000000 in
theorem bnd7f (a0 a2 : Int) (w : World) (hq : a0 % 9 = 7) :
    Calls Tryz.prog 4 #[.int .i64 a0, .bool false, .int .i64 a2] w fun e w' => e = .returned (.bool true) ∧ Below w.heap.size w w' := by
  have W0 := fun W => (show Calls Tryz.prog 6 #[.int .i64 a0, .int .i64 9] W fun e w' => e = .returned (.int .i64 7) ∧ w' = W from (within11_any a0 9 W (by decide) (by decide)).mono (fun e w' h => by rw [← hq]; exact h))
  have HW0 := hide W0
  clear W0 hq
  have hmk : ∀ W : World, (Instr.makeSlice 22 (.int .i64 2) (.int .i64 2)).run Tryz.prog W = .ok (.slice (some ⟨W.heap.size, 0, none⟩) 2 2) (W.alloc (.cells (madeCells zEV.ar (2 * 19)) 46)) := fun W => run_evsB 2 (by omega) W
  have HEV := hide (fun W => arg_evsB 2 (by omega) W)
  obtain ⟨mc, hmc⟩ : ∃ mc, madeCells zEV.ar (2 * 19) = mc := ⟨_, rfl⟩
  simp only [hmc] at hmk HEV
  clear hmc
  go_enter Tryz.func4, Tryz.ntmps4
  go_wp2_with fail
  refine (known11_any w).mono ?_
  rintro e w1 ⟨rfl, hk⟩
  have HT := hide hk
  clear hk
  go_wp2_with fail
  refine (unhide HW0 _).mono ?_
  rintro e wx ⟨rfl, hwx⟩
  rw [hwx]
  clear hwx wx
  go_wp2_with fail
  have hk0 := (Below.refl w1.heap.size w1).alloc (Nat.le_refl _) (.cells mc 46)
  refine (enc11_any _ _ _ _ (some ⟨w1.heap.size, 0, none⟩) 2 2 w1.heap.size (List.replicate 2 zEV) _ (unhide HEV w1)).mono ?_
  rintro e w3 h
  replace HT := hide ((unhide HT).trans ((hk0.trans (h.below.mono hk0.size)).mono (unhide HT).size))
  clear hk0 hmk
  have hokr : okRow 7 5 5 0 (List.replicate 2 zEV) := ⟨⟨by omega, by omega⟩, ⟨⟨by omega, by omega⟩, ⟨by omega, by omega⟩, by omega, by omega⟩, by rw [List.length_replicate]; omega, evs_ok _⟩
  rcases h.res with ⟨-, vb, ps, rfl, hO⟩ | ⟨h1, -⟩
  rotate_left 1
  · exact absurd hokr h1
  rw [show ((7 : Int) - 2).toNat = 5 from rfl] at hO
  obtain ⟨G, hRG, -⟩ := hO.arg
  obtain ⟨ob, cb, hvb, -⟩ := hRG.ex
  rw [encL_len] at hvb
  subst hvb
  generalize psA ps = A0 at hRG
  generalize psC ps = C0 at hRG
  have HR := hide hRG
  have HSZ : Hid (∀ i, i < 7 → ((encL 5 5 5 0 (List.replicate 2 zEV)).getD i []).length = 48) := (encL_facts (a := 5) (b := 5) (c := 0) (d := 5) (evs_Ok 2) (by omega) (by omega)).1
  have HLEN : Hid (∀ (gf : Nat → Nat) i, ((pagesL A0 C0 gf (encL 5 5 5 0 (List.replicate 2 zEV)) 7 []).getD i zPV).x.length ≤ 100000) := fun gf i => by
    by_cases hi : i < 7
    · rw [pagesL_get hi, if_neg (by simp)]
      show ((encL 5 5 5 0 (List.replicate 2 zEV)).getD i []).length ≤ 100000
      rw [unhide HSZ i hi]; omega
    · rw [List.getD_eq_getElem?_getD, List.getElem?_eq_none (by rw [pagesL_len]; omega)]; simp [zPV]
  clear hO hRG h hokr
  go_wp2_with fail

  have hpg := pgs11_any _ 7 _ _ _ _ _ none 0 0 0 [] rfl (encL_len _ _ _ _ _) (by omega) (by omega) (by simp) w3 (unhide HR) (z_nilB w3)
  refine hpg.mono ?_
  clear hpg
  rintro e wp0 ⟨gf0, v, Gp0, rfl, hPB, -, hk⟩
  replace HT := hide ((unhide HT).trans (hk.mono (unhide HT).size))
  replace HR := hide ((unhide HR).below hk)
  obtain ⟨cP0, hvP, -, -⟩ := hPB.ex
  rw [pagesL_len] at hvP
  subst hvP
  have hdec := dec11_any 5 0 _ _ _ _ _ 0 (unhide HLEN gf0) wp0 hPB.arg
  have hdf := decF_back (d := 5) (a := 5) (b := 5) (c := 0) (S := List.replicate 2 zEV) (evs_Ok 2) (evs_ok 2) (by omega) (by omega) ⟨⟨by omega, by omega⟩, ⟨by omega, by omega⟩, by omega, by omega⟩ (A := A0) (C := C0) (gf := gf0) (lost := []) (by simp) (by simp) (most := 0) ⟨by omega, by omega⟩
  rw [if_neg (by simp), show 5 + 2 = 7 from rfl] at hdf
  have HDF := hide hdf
  have HDEC := hide hdec
  clear hk hPB hdf hdec
  go_wp2_with fail
  refine (unhide HDEC).mono ?_
  rintro e wd0 ⟨hk, v, hx, sv, g6, hv, hEA, -⟩
  rw [unhide HDF] at hx hv hEA
  replace HT := hide ((unhide HT).trans (hk.mono (unhide HT).size))
  replace HR := hide ((unhide HR).below hk)
  obtain ⟨so0, sc0, hs, -⟩ := hEA.ex
  rw [List.length_map, List.length_range] at hs
  subst hs
  subst hv
  subst hx
  clear HDF HDEC hEA hk
  dsimp only
  obtain ⟨wb0, hwb⟩ : ∃ W, wd0.alloc (.cells #[.int .i64 5, .int .i64 0, .slice so0 5 sc0] 37) = W := ⟨_, rfl⟩
  have hk : Below wd0.heap.size wd0 wb0 := by rw [← hwb]; exact (Below.refl _ wd0).alloc (Nat.le_refl _) _
  replace HT := hide ((unhide HT).trans (hk.mono (unhide HT).size))
  replace HR := hide ((unhide HR).below hk)
  have HRW : Hid (RwAt wb0 wd0.heap.size 5 0 (.slice so0 5 sc0)) := ⟨by rw [← hwb]; exact World.alloc_heap_new wd0 _⟩
  have HWBwb0 := hide hwb
  clear hwb hk
  go_wp2_with fail
  rw [unhide HWBwb0]
  have hpg := pgs11_any _ 7 _ _ _ _ _ none 0 0 0 [] rfl (encL_len _ _ _ _ _) (by omega) (by omega) (by simp) wb0 (unhide HR) (z_nilB wb0)
  refine hpg.mono ?_
  clear hpg
  rintro e wp1 ⟨gf1, v, Gp1, rfl, hPB, -, hk⟩
  replace HT := hide ((unhide HT).trans (hk.mono (unhide HT).size))
  replace HR := hide ((unhide HR).below hk)
  replace HRW := hide ((unhide HRW).below hk)
  obtain ⟨cP1, hvP, -, -⟩ := hPB.ex
  rw [pagesL_len] at hvP
  subst hvP
  have hdec := dec11_any 5 0 _ _ _ _ _ 3 (unhide HLEN gf1) wp1 hPB.arg
  have hdf := decF_most (super := 5) (at' := 0) (l := pagesL A0 C0 gf1 (encL 5 5 5 0 (List.replicate 2 zEV)) 7 []) (most := 3) (by omega)
  have HDF := hide hdf
  have HDEC := hide hdec
  clear hk hPB hdf hdec
  go_wp2_with fail
  refine (unhide HDEC).mono ?_
  rintro e wd1 ⟨hk, v, hx, sv, g6, hv, hEA, -⟩
  rw [unhide HDF] at hx hv hEA
  replace HT := hide ((unhide HT).trans (hk.mono (unhide HT).size))
  replace HR := hide ((unhide HR).below hk)
  replace HRW := hide ((unhide HRW).below hk)
  obtain ⟨so1, sc1, hs, -⟩ := hEA.ex

  subst hs
  subst hv
  subst hx
  clear HDF HDEC hEA hk
  dsimp only [zRow, List.length_nil]
  obtain ⟨wb1, hwb⟩ : ∃ W, wd1.alloc (.cells #[.int .i64 0, .int .i64 0, .slice so1 0 sc1] 37) = W := ⟨_, rfl⟩
  have hk : Below wd1.heap.size wd1 wb1 := by rw [← hwb]; exact (Below.refl _ wd1).alloc (Nat.le_refl _) _
  replace HT := hide ((unhide HT).trans (hk.mono (unhide HT).size))
  replace HR := hide ((unhide HR).below hk)
  replace HRW := hide ((unhide HRW).below hk)
  have HWBwb1 := hide hwb
  clear hwb hk
  go_wp2_with fail
  rw [unhide HWBwb1]
  have hpg := pgs11_any _ 7 _ _ _ _ _ none 0 0 0 [] rfl (encL_len _ _ _ _ _) (by omega) (by omega) (by simp) wb1 (unhide HR) (z_nilB wb1)
  refine hpg.mono ?_
  clear hpg
  rintro e wp2 ⟨gf2, v, Gp2, rfl, hPB, -, hk⟩
  replace HT := hide ((unhide HT).trans (hk.mono (unhide HT).size))
  replace HR := hide ((unhide HR).below hk)
  replace HRW := hide ((unhide HRW).below hk)
  obtain ⟨cP2, hvP, -, -⟩ := hPB.ex
  rw [pagesL_len] at hvP
  subst hvP
  have hdec := dec11_any 5 0 _ _ _ _ _ (-1) (unhide HLEN gf2) wp2 hPB.arg
  have hdf := decF_most (super := 5) (at' := 0) (l := pagesL A0 C0 gf2 (encL 5 5 5 0 (List.replicate 2 zEV)) 7 []) (most := (-1)) (by omega)
  have HDF := hide hdf
  have HDEC := hide hdec
  clear hk hPB hdf hdec
  go_wp2_with fail
  refine (unhide HDEC).mono ?_
  rintro e wd2 ⟨hk, v, hx, sv, g6, hv, hEA, -⟩
  rw [unhide HDF] at hx hv hEA
  replace HT := hide ((unhide HT).trans (hk.mono (unhide HT).size))
  replace HR := hide ((unhide HR).below hk)
  replace HRW := hide ((unhide HRW).below hk)
  obtain ⟨so2, sc2, hs, -⟩ := hEA.ex

  subst hs
  subst hv
  subst hx
  clear HDF HDEC hEA hk
  dsimp only [zRow, List.length_nil]
  have hkb : Below wd2.heap.size wd2 (wd2.alloc (.cells #[.int .i64 0, .int .i64 0, .slice so2 0 sc2] 37)) := (Below.refl _ wd2).alloc (Nat.le_refl _) _
  obtain ⟨hc0, hc1, hc2⟩ := ((unhide HRW).below hkb).cells
  replace HT := hide ((unhide HT).trans (hkb.mono (unhide HT).size))
  clear hkb
  have hza : zEV.ar = #[.int .i64 0, .int .i64 0, .int .i64 0, .int .u8 0, .int .u8 0, .int .u8 0, .int .u8 0, .int .u8 0, .int .u8 0, .int .u8 0, .int .u8 0, .int .u8 0, .int .u8 0, .int .u8 0, .int .u8 0, .int .u8 0, .int .u8 0, .int .u8 0, .int .u8 0] := by kernel_rfl
  have hza2 : entA 0 0 0 zer16 = #[.int .i64 0, .int .i64 0, .int .i64 0, .int .u8 0, .int .u8 0, .int .u8 0, .int .u8 0, .int .u8 0, .int .u8 0, .int .u8 0, .int .u8 0, .int .u8 0, .int .u8 0, .int .u8 0, .int .u8 0, .int .u8 0, .int .u8 0, .int .u8 0, .int .u8 0] := by kernel_rfl
  have hqE : ∀ W, (binOp .eql 46 (.agg (entA (gdK 0) (gdLb 0 0) (gdS 0 0) (gdD 0 zer16))) (.agg zEV.ar)).run Tryz.prog W = .ok (.bool true) W := fun W => eqTE _ _ _ _ _ _ _ _ (gdD_len (k := 0) (show zer16.length = 16 from rfl)) rfl true (by decide) W
  have hgd := fun W => good_any 0 0 0 zer16 rfl W
  obtain ⟨ga, hga⟩ : ∃ ga, entA (gdK 0) (gdLb 0 0) (gdS 0 0) (gdD 0 zer16) = ga := ⟨_, rfl⟩
  simp only [hza, hga] at hqE
  simp only [hga, hza2] at hgd
  have HGD := hide hgd
  clear hza hza2 hga hgd
  go_wp2_with fail
  refine (unhide HGD _).mono ?_
  rintro e w9 ⟨rfl, hk⟩
  replace HT := hide ((unhide HT).trans (hk.mono (unhide HT).size))
  clear hk
  go_wp2_with fail
  go_ret
  exact ⟨rfl, unhide HT⟩

set_option maxRecDepth 100000 in
set_option maxHeartbeats 16000000 in
theorem bnd8t (a0 a2 : Int) (w : World) (hq : a0 % 9 = 8) :
    Calls Tryz.prog 4 #[.int .i64 a0, .bool true, .int .i64 a2] w fun e w' => e = .returned (.bool true) ∧ Below w.heap.size w w' := by
  have W0 := fun W => (show Calls Tryz.prog 6 #[.int .i64 a0, .int .i64 9] W fun e w' => e = .returned (.int .i64 8) ∧ w' = W from (within11_any a0 9 W (by decide) (by decide)).mono (fun e w' h => by rw [← hq]; exact h))
  have HW0 := hide W0
  clear W0 hq
  obtain ⟨r, hr, hr2⟩ : ∃ r : Nat, a2 % 100 = (r : Int) ∧ r < 100 := ⟨(a2 % 100).toNat, by omega, by omega⟩
  have W2 := fun W => (show Calls Tryz.prog 6 #[.int .i64 a2, .int .i64 100] W fun e w' => e = .returned (.int .i64 (r : Int)) ∧ w' = W from (within11_any a2 100 W (by decide) (by decide)).mono (fun e w' h => by rw [← hr]; exact h))
  have HW2 := hide W2
  clear W2 hr
  have hmk : ∀ W : World, (Instr.makeSlice 22 (.int .i64 (5 + (1 + (r : Int)))) (.int .i64 (5 + (1 + (r : Int))))).run Tryz.prog W = .ok (.slice (some ⟨W.heap.size, 0, none⟩) (r + 6) (r + 6)) (W.alloc (.cells (madeCells zEV.ar ((r + 6) * 19)) 46)) := fun W => by
    rw [show 5 + (1 + (r : Int)) = ((r + 6 : Nat) : Int) by omega]; exact run_evsB (r + 6) (by omega) W
  have HEV := hide (fun W => arg_evsB (r + 6) (by omega) W)
  obtain ⟨mc, hmc⟩ : ∃ mc, madeCells zEV.ar ((r + 6) * 19) = mc := ⟨_, rfl⟩
  simp only [hmc] at hmk HEV
  clear hmc
  go_enter Tryz.func4, Tryz.ntmps4
  go_wp2_with fail
  refine (known11_any w).mono ?_
  rintro e w1 ⟨rfl, hk⟩
  have HT := hide hk
  clear hk
  go_wp2_with fail
  refine (unhide HW2 _).mono ?_
  rintro e wx ⟨rfl, hwx⟩
  rw [hwx]
  clear hwx wx
  go_wp2_with fail
  refine (unhide HW0 _).mono ?_
  rintro e wx ⟨rfl, hwx⟩
  rw [hwx]
  clear hwx wx
  go_wp2_with fail
  have hk0 := (Below.refl w1.heap.size w1).alloc (Nat.le_refl _) (.cells mc 46)
  refine (enc11_any _ _ _ _ (some ⟨w1.heap.size, 0, none⟩) (r + 6) (r + 6) w1.heap.size (List.replicate (r + 6) zEV) _ (unhide HEV w1)).mono ?_
  rintro e w3 h
  replace HT := hide ((unhide HT).trans ((hk0.trans (h.below.mono hk0.size)).mono (unhide HT).size))
  clear hk0 hmk
  rcases h.res with ⟨hok, -⟩ | ⟨-, rfl⟩
  · exfalso
    obtain ⟨⟨h1, h2⟩, ⟨⟨h3, h4⟩, ⟨h5, h6⟩, h7, h8⟩, h9, -⟩ := hok
    rw [List.length_replicate] at h9
    omega
  clear h
  go_wp2_with fail
  go_ret
  exact ⟨rfl, unhide HT⟩

set_option maxRecDepth 100000 in
set_option maxHeartbeats 16000000 in
theorem bnd8f (a0 a2 : Int) (w : World) (hq : a0 % 9 = 8) :
    Calls Tryz.prog 4 #[.int .i64 a0, .bool false, .int .i64 a2] w fun e w' => e = .returned (.bool true) ∧ Below w.heap.size w w' := by
  have W0 := fun W => (show Calls Tryz.prog 6 #[.int .i64 a0, .int .i64 9] W fun e w' => e = .returned (.int .i64 8) ∧ w' = W from (within11_any a0 9 W (by decide) (by decide)).mono (fun e w' h => by rw [← hq]; exact h))
  have HW0 := hide W0
  clear W0 hq
  have hmk : ∀ W : World, (Instr.makeSlice 22 (.int .i64 5) (.int .i64 5)).run Tryz.prog W = .ok (.slice (some ⟨W.heap.size, 0, none⟩) 5 5) (W.alloc (.cells (madeCells zEV.ar (5 * 19)) 46)) := fun W => run_evsB 5 (by omega) W
  have HEV := hide (fun W => arg_evsB 5 (by omega) W)
  obtain ⟨mc, hmc⟩ : ∃ mc, madeCells zEV.ar (5 * 19) = mc := ⟨_, rfl⟩
  simp only [hmc] at hmk HEV
  clear hmc
  go_enter Tryz.func4, Tryz.ntmps4
  go_wp2_with fail
  refine (known11_any w).mono ?_
  rintro e w1 ⟨rfl, hk⟩
  have HT := hide hk
  clear hk
  go_wp2_with fail
  refine (unhide HW0 _).mono ?_
  rintro e wx ⟨rfl, hwx⟩
  rw [hwx]
  clear hwx wx
  go_wp2_with fail
  have hk0 := (Below.refl w1.heap.size w1).alloc (Nat.le_refl _) (.cells mc 46)
  refine (enc11_any _ _ _ _ (some ⟨w1.heap.size, 0, none⟩) 5 5 w1.heap.size (List.replicate 5 zEV) _ (unhide HEV w1)).mono ?_
  rintro e w3 h
  replace HT := hide ((unhide HT).trans ((hk0.trans (h.below.mono hk0.size)).mono (unhide HT).size))
  clear hk0 hmk
  have hokr : okRow 7 5 5 5 (List.replicate 5 zEV) := ⟨⟨by omega, by omega⟩, ⟨⟨by omega, by omega⟩, ⟨by omega, by omega⟩, by omega, by omega⟩, by rw [List.length_replicate]; omega, evs_ok _⟩
  rcases h.res with ⟨-, vb, ps, rfl, hO⟩ | ⟨h1, -⟩
  rotate_left 1
  · exact absurd hokr h1
  rw [show ((7 : Int) - 2).toNat = 5 from rfl] at hO
  obtain ⟨G, hRG, -⟩ := hO.arg
  obtain ⟨ob, cb, hvb, -⟩ := hRG.ex
  rw [encL_len] at hvb
  subst hvb
  generalize psA ps = A0 at hRG
  generalize psC ps = C0 at hRG
  have HR := hide hRG
  have HSZ : Hid (∀ i, i < 7 → ((encL 5 5 5 5 (List.replicate 5 zEV)).getD i []).length = 48) := (encL_facts (a := 5) (b := 5) (c := 5) (d := 5) (evs_Ok 5) (by omega) (by omega)).1
  have HLEN : Hid (∀ (gf : Nat → Nat) i, ((pagesL A0 C0 gf (encL 5 5 5 5 (List.replicate 5 zEV)) 7 []).getD i zPV).x.length ≤ 100000) := fun gf i => by
    by_cases hi : i < 7
    · rw [pagesL_get hi, if_neg (by simp)]
      show ((encL 5 5 5 5 (List.replicate 5 zEV)).getD i []).length ≤ 100000
      rw [unhide HSZ i hi]; omega
    · rw [List.getD_eq_getElem?_getD, List.getElem?_eq_none (by rw [pagesL_len]; omega)]; simp [zPV]
  clear hO hRG h hokr
  go_wp2_with fail

  have hpg := pgs11_any _ 7 _ _ _ _ _ none 0 0 0 [] rfl (encL_len _ _ _ _ _) (by omega) (by omega) (by simp) w3 (unhide HR) (z_nilB w3)
  refine hpg.mono ?_
  clear hpg
  rintro e wp0 ⟨gf0, v, Gp0, rfl, hPB, -, hk⟩
  replace HT := hide ((unhide HT).trans (hk.mono (unhide HT).size))
  replace HR := hide ((unhide HR).below hk)
  obtain ⟨cP0, hvP, -, -⟩ := hPB.ex
  rw [pagesL_len] at hvP
  subst hvP
  have hdec := dec11_any 5 5 _ _ _ _ _ 0 (unhide HLEN gf0) wp0 hPB.arg
  have hdf := decF_back (d := 5) (a := 5) (b := 5) (c := 5) (S := List.replicate 5 zEV) (evs_Ok 5) (evs_ok 5) (by omega) (by omega) ⟨⟨by omega, by omega⟩, ⟨by omega, by omega⟩, by omega, by omega⟩ (A := A0) (C := C0) (gf := gf0) (lost := []) (by simp) (by simp) (most := 0) ⟨by omega, by omega⟩
  rw [if_neg (by simp), show 5 + 2 = 7 from rfl] at hdf
  have HDF := hide hdf
  have HDEC := hide hdec
  clear hk hPB hdf hdec
  go_wp2_with fail
  refine (unhide HDEC).mono ?_
  rintro e wd0 ⟨hk, v, hx, sv, g6, hv, hEA, -⟩
  rw [unhide HDF] at hx hv hEA
  replace HT := hide ((unhide HT).trans (hk.mono (unhide HT).size))
  replace HR := hide ((unhide HR).below hk)
  obtain ⟨so0, sc0, hs, -⟩ := hEA.ex
  rw [List.length_map, List.length_range] at hs
  subst hs
  subst hv
  subst hx
  clear HDF HDEC hEA hk
  dsimp only
  obtain ⟨wb0, hwb⟩ : ∃ W, wd0.alloc (.cells #[.int .i64 5, .int .i64 5, .slice so0 5 sc0] 37) = W := ⟨_, rfl⟩
  have hk : Below wd0.heap.size wd0 wb0 := by rw [← hwb]; exact (Below.refl _ wd0).alloc (Nat.le_refl _) _
  replace HT := hide ((unhide HT).trans (hk.mono (unhide HT).size))
  replace HR := hide ((unhide HR).below hk)
  have HRW : Hid (RwAt wb0 wd0.heap.size 5 5 (.slice so0 5 sc0)) := ⟨by rw [← hwb]; exact World.alloc_heap_new wd0 _⟩
  have HWBwb0 := hide hwb
  clear hwb hk
  go_wp2_with fail
  rw [unhide HWBwb0]
  have hpg := pgs11_any _ 7 _ _ _ _ _ none 0 0 0 [] rfl (encL_len _ _ _ _ _) (by omega) (by omega) (by simp) wb0 (unhide HR) (z_nilB wb0)
  refine hpg.mono ?_
  clear hpg
  rintro e wp1 ⟨gf1, v, Gp1, rfl, hPB, -, hk⟩
  replace HT := hide ((unhide HT).trans (hk.mono (unhide HT).size))
  replace HR := hide ((unhide HR).below hk)
  replace HRW := hide ((unhide HRW).below hk)
  obtain ⟨cP1, hvP, -, -⟩ := hPB.ex
  rw [pagesL_len] at hvP
  subst hvP
  have hdec := dec11_any 5 5 _ _ _ _ _ 3 (unhide HLEN gf1) wp1 hPB.arg
  have hdf := decF_most (super := 5) (at' := 5) (l := pagesL A0 C0 gf1 (encL 5 5 5 5 (List.replicate 5 zEV)) 7 []) (most := 3) (by omega)
  have HDF := hide hdf
  have HDEC := hide hdec
  clear hk hPB hdf hdec
  go_wp2_with fail
  refine (unhide HDEC).mono ?_
  rintro e wd1 ⟨hk, v, hx, sv, g6, hv, hEA, -⟩
  rw [unhide HDF] at hx hv hEA
  replace HT := hide ((unhide HT).trans (hk.mono (unhide HT).size))
  replace HR := hide ((unhide HR).below hk)
  replace HRW := hide ((unhide HRW).below hk)
  obtain ⟨so1, sc1, hs, -⟩ := hEA.ex

  subst hs
  subst hv
  subst hx
  clear HDF HDEC hEA hk
  dsimp only [zRow, List.length_nil]
  obtain ⟨wb1, hwb⟩ : ∃ W, wd1.alloc (.cells #[.int .i64 0, .int .i64 0, .slice so1 0 sc1] 37) = W := ⟨_, rfl⟩
  have hk : Below wd1.heap.size wd1 wb1 := by rw [← hwb]; exact (Below.refl _ wd1).alloc (Nat.le_refl _) _
  replace HT := hide ((unhide HT).trans (hk.mono (unhide HT).size))
  replace HR := hide ((unhide HR).below hk)
  replace HRW := hide ((unhide HRW).below hk)
  have HWBwb1 := hide hwb
  clear hwb hk
  go_wp2_with fail
  rw [unhide HWBwb1]
  have hpg := pgs11_any _ 7 _ _ _ _ _ none 0 0 0 [] rfl (encL_len _ _ _ _ _) (by omega) (by omega) (by simp) wb1 (unhide HR) (z_nilB wb1)
  refine hpg.mono ?_
  clear hpg
  rintro e wp2 ⟨gf2, v, Gp2, rfl, hPB, -, hk⟩
  replace HT := hide ((unhide HT).trans (hk.mono (unhide HT).size))
  replace HR := hide ((unhide HR).below hk)
  replace HRW := hide ((unhide HRW).below hk)
  obtain ⟨cP2, hvP, -, -⟩ := hPB.ex
  rw [pagesL_len] at hvP
  subst hvP
  have hdec := dec11_any 5 5 _ _ _ _ _ (-1) (unhide HLEN gf2) wp2 hPB.arg
  have hdf := decF_most (super := 5) (at' := 5) (l := pagesL A0 C0 gf2 (encL 5 5 5 5 (List.replicate 5 zEV)) 7 []) (most := (-1)) (by omega)
  have HDF := hide hdf
  have HDEC := hide hdec
  clear hk hPB hdf hdec
  go_wp2_with fail
  refine (unhide HDEC).mono ?_
  rintro e wd2 ⟨hk, v, hx, sv, g6, hv, hEA, -⟩
  rw [unhide HDF] at hx hv hEA
  replace HT := hide ((unhide HT).trans (hk.mono (unhide HT).size))
  replace HR := hide ((unhide HR).below hk)
  replace HRW := hide ((unhide HRW).below hk)
  obtain ⟨so2, sc2, hs, -⟩ := hEA.ex

  subst hs
  subst hv
  subst hx
  clear HDF HDEC hEA hk
  dsimp only [zRow, List.length_nil]
  have hkb : Below wd2.heap.size wd2 (wd2.alloc (.cells #[.int .i64 0, .int .i64 0, .slice so2 0 sc2] 37)) := (Below.refl _ wd2).alloc (Nat.le_refl _) _
  obtain ⟨hc0, hc1, hc2⟩ := ((unhide HRW).below hkb).cells
  replace HT := hide ((unhide HT).trans (hkb.mono (unhide HT).size))
  clear hkb
  have hza : zEV.ar = #[.int .i64 0, .int .i64 0, .int .i64 0, .int .u8 0, .int .u8 0, .int .u8 0, .int .u8 0, .int .u8 0, .int .u8 0, .int .u8 0, .int .u8 0, .int .u8 0, .int .u8 0, .int .u8 0, .int .u8 0, .int .u8 0, .int .u8 0, .int .u8 0, .int .u8 0] := by kernel_rfl
  have hza2 : entA 0 0 0 zer16 = #[.int .i64 0, .int .i64 0, .int .i64 0, .int .u8 0, .int .u8 0, .int .u8 0, .int .u8 0, .int .u8 0, .int .u8 0, .int .u8 0, .int .u8 0, .int .u8 0, .int .u8 0, .int .u8 0, .int .u8 0, .int .u8 0, .int .u8 0, .int .u8 0, .int .u8 0] := by kernel_rfl
  have hqE : ∀ W, (binOp .eql 46 (.agg (entA (gdK 0) (gdLb 0 0) (gdS 0 0) (gdD 0 zer16))) (.agg zEV.ar)).run Tryz.prog W = .ok (.bool true) W := fun W => eqTE _ _ _ _ _ _ _ _ (gdD_len (k := 0) (show zer16.length = 16 from rfl)) rfl true (by decide) W
  have hgd := fun W => good_any 0 0 0 zer16 rfl W
  obtain ⟨ga, hga⟩ : ∃ ga, entA (gdK 0) (gdLb 0 0) (gdS 0 0) (gdD 0 zer16) = ga := ⟨_, rfl⟩
  simp only [hza, hga] at hqE
  simp only [hga, hza2] at hgd
  have HGD := hide hgd
  clear hza hza2 hga hgd
  go_wp2_with fail
  refine (unhide HGD _).mono ?_
  rintro e w9 ⟨rfl, hk⟩
  replace HT := hide ((unhide HT).trans (hk.mono (unhide HT).size))
  clear hk
  go_wp2_with fail
  go_ret
  exact ⟨rfl, unhide HT⟩

theorem rowbounds_any (a0 : Int) (a1 : Bool) (a2 : Int) (w : World) : Calls Tryz.prog 4 #[.int .i64 a0, .bool a1, .int .i64 a2] w fun e w' => e = .returned (.bool true) ∧ Below w.heap.size w w' := by
  have hq : a0 % 9 = 0 ∨ a0 % 9 = 1 ∨ a0 % 9 = 2 ∨ a0 % 9 = 3 ∨ a0 % 9 = 4 ∨ a0 % 9 = 5 ∨ a0 % 9 = 6 ∨ a0 % 9 = 7 ∨ a0 % 9 = 8 := by omega
  rcases hq with hq | hq | hq | hq | hq | hq | hq | hq | hq <;> cases a1
  · exact bnd0f a0 a2 w hq
  · exact bnd0t a0 a2 w hq
  · exact bnd1f a0 a2 w hq
  · exact bnd1t a0 a2 w hq
  · exact bnd2f a0 a2 w hq
  · exact bnd2t a0 a2 w hq
  · exact bnd3f a0 a2 w hq
  · exact bnd3t a0 a2 w hq
  · exact bnd4f a0 a2 w hq
  · exact bnd4t a0 a2 w hq
  · exact bnd5f a0 a2 w hq
  · exact bnd5t a0 a2 w hq
  · exact bnd6f a0 a2 w hq
  · exact bnd6t a0 a2 w hq
  · exact bnd7f a0 a2 w hq
  · exact bnd7t a0 a2 w hq
  · exact bnd8f a0 a2 w hq
  · exact bnd8t a0 a2 w hq

end Go.Proofs.YtjdikhelabibnabGreat
