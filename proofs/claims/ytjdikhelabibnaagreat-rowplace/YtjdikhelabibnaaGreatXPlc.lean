/-
  The walk of RowPlace.
-/
import Derived.Test.YtjdikhelabibnaaGreatMbi
namespace Go.Proofs.YtjdikhelabibnaaGreat
open Go Go.RowKit Go.Shelf

theorem z_nilP (w : World) : ZArg w (.slice none 0 0) 0 (ints []) := ⟨⟨none, 0, rfl, by simp [ints], by simp, fun _ => rfl, .inl rfl⟩, by simp [ints]⟩
theorem pagesL_set {A : Nat → Option Addr} {C gf : Nat → Nat} {l : List (List Nat)} {N j : Nat} (hl : l.length = N) (hj : j < N) (a : Option Addr) (c g : Nat) (s : List Nat) :
    (pagesL A C gf l N []).set j ⟨((pagesL A C gf l N []).getD j zPV).st, a, c, g, s⟩ = pagesL (fun i => if i = j then a else A i) (fun i => if i = j then c else C i) (fun i => if i = j then g else gf i) (l.set j s) N [] := by
  refine List.ext_getElem (by rw [List.length_set, pagesL_len, pagesL_len]) (fun i h1 h2 => ?_)
  have hi : i < N := by rw [pagesL_len] at h2; exact h2
  have e1 := pagesL_get (A := A) (C := C) (gf := gf) (l := l) (lost := []) hi
  have e2 := pagesL_get (A := fun i => if i = j then a else A i) (C := fun i => if i = j then c else C i) (gf := fun i => if i = j then g else gf i) (l := l.set j s) (lost := []) hi
  have e3 := pagesL_get (A := A) (C := C) (gf := gf) (l := l) (lost := []) hj
  rw [if_neg (by simp)] at e1 e2 e3
  rw [List.getD_eq_getElem?_getD, List.getElem?_eq_getElem h2] at e2
  rw [List.getD_eq_getElem?_getD, List.getElem?_eq_getElem (by rw [pagesL_len]; exact hi)] at e1
  simp only [Option.getD_some] at e1 e2
  rw [e2, List.getElem_set]
  rw [getD_set11 (by rw [hl]; exact hj)]
  by_cases e : j = i
  · subst e
    rw [if_pos rfl, if_pos rfl, if_pos rfl, if_pos rfl, if_pos rfl, e3]
  · rw [if_neg e, if_neg (fun h => e h.symm), if_neg (fun h => e h.symm), if_neg (fun h => e h.symm), if_neg e]
    exact e1

set_option maxRecDepth 100000 in
set_option maxHeartbeats 16000000 in
theorem rowplace_any (ao : Option Addr) (n c g : Nat) (L : List EV) (a1 a2 a3 a4 : Int) (w : World) (hL : EArg w (.slice ao n c) g L) :
    Calls Tryz.prog 8 #[.slice ao n c, .int .i64 a1, .int .i64 a2, .int .i64 a3, .int .i64 a4] w fun e w' => e = .returned (.bool true) ∧ Below w.heap.size w w' := by
  have HL := hide hL
  clear hL
  obtain ⟨A1, hA1, b1, b1'⟩ : ∃ r : Int, a1 % 100 = r ∧ 0 ≤ r ∧ r < 100 := ⟨_, rfl, by omega, by omega⟩
  obtain ⟨A2, hA2, b2, b2'⟩ : ∃ r : Int, a2 % 100 = r ∧ 0 ≤ r ∧ r < 100 := ⟨_, rfl, by omega, by omega⟩
  obtain ⟨A3, hA3, b3, b3'⟩ : ∃ r : Int, a3 % 50 = r ∧ 0 ≤ r ∧ r < 50 := ⟨_, rfl, by omega, by omega⟩
  obtain ⟨j, hj6, hjN⟩ : ∃ j : Nat, a4 % 6 = (j : Int) ∧ j < 6 := ⟨(a4 % 6).toNat, by omega, by omega⟩
  have W1 := fun W => (show Calls Tryz.prog 10 #[.int .i64 a1, .int .i64 100] W fun e w' => e = .returned (.int .i64 A1) ∧ w' = W from (within11_any a1 100 W (by decide) (by decide)).mono (fun e w' h => by rw [← hA1]; exact h))
  have HW1 := hide W1
  have W2 := fun W => (show Calls Tryz.prog 10 #[.int .i64 a2, .int .i64 100] W fun e w' => e = .returned (.int .i64 A2) ∧ w' = W from (within11_any a2 100 W (by decide) (by decide)).mono (fun e w' h => by rw [← hA2]; exact h))
  have HW2 := hide W2
  have W3 := fun W => (show Calls Tryz.prog 10 #[.int .i64 a3, .int .i64 50] W fun e w' => e = .returned (.int .i64 A3) ∧ w' = W from (within11_any a3 50 W (by decide) (by decide)).mono (fun e w' h => by rw [← hA3]; exact h))
  have HW3 := hide W3
  have W4 := fun W => (show Calls Tryz.prog 10 #[.int .i64 a4, .int .i64 6] W fun e w' => e = .returned (.int .i64 (j : Int)) ∧ w' = W from (within11_any a4 6 W (by decide) (by decide)).mono (fun e w' h => by rw [← hj6]; exact h))
  have HW4 := hide W4
  clear W1 W2 W3 W4 hA1 hA2 hA3 hj6
  go_enter Tryz.func8, Tryz.ntmps8
  go_wp2_with fail
  refine (known11_any w).mono ?_
  rintro e w1 ⟨rfl, hk⟩
  have HT := hide hk
  clear hk
  go_wp2_with fail
  refine (unhide HW1 _).mono ?_
  rintro e wx ⟨rfl, hwx⟩
  rw [hwx]
  clear hwx wx
  go_wp2_with fail
  refine (unhide HW2 _).mono ?_
  rintro e wx ⟨rfl, hwx⟩
  rw [hwx]
  clear hwx wx
  go_wp2_with fail
  have hsl := slots11_any ao n c g L 4 (by omega) _ ((unhide HL).below (unhide HT))
  refine hsl.mono ?_
  clear hsl
  rintro e w2 ⟨v, rfl, hO, hk⟩
  obtain ⟨sa, sn, sc, sg, hv, hE⟩ := hO.arg'
  subst hv
  replace HT := hide ((unhide HT).trans (hk.mono (unhide HT).size))
  have HE := hide hE
  clear hk hO hE
  obtain ⟨S, hS⟩ : ∃ S, gdSl L 4 = S := ⟨_, rfl⟩
  have HSL : Hid (S.length ≤ 4) := by rw [← hS, gdSl_len]; show _ ≤ _; omega
  have HSK : Hid (okL S) := by rw [← hS]; exact gdSl_okL _
  rw [hS] at HE
  have HSE := hide hS
  clear hS
  have HPOK : Hid (∀ i, (S.getD i zEV).Ok) := (unhide HE).get_ok
  go_wp2_with fail
  refine (renc11_any 6 5 A1 A2 sa sn sc sg S w2 (unhide HE)).mono ?_
  rintro e w3 h
  obtain ⟨hk, ow3, mw3, kw3, Gw3, Aw3, Cw3, rfl, hR⟩ := EncR.use h
  replace HT := hide ((unhide HT).trans (hk.mono (unhide HT).size))
  have hokr : okRow 6 5 A1 A2 S := ⟨⟨by omega, by omega⟩, ⟨⟨by omega, by omega⟩, ⟨by omega, by omega⟩, by omega, by omega⟩, by have := unhide HSL; omega, unhide HSK⟩
  rw [encE_ok hokr]
  rw [encX_ok hokr, show ((6 : Int) - 2).toNat = 4 from rfl] at hR
  obtain rfl : mw3 = 6 := by
    obtain ⟨_, _, hv, -⟩ := hR.ex
    rw [encL_len] at hv
    cases hv
    rfl
  have HRw3 := hide hR
  clear h hk hR hokr HE
  go_wp2_with fail
  have hsl := slots11_any ao n c g L 4 (by omega) _ ((unhide HL).below (unhide HT))
  refine hsl.mono ?_
  clear hsl
  rintro e w4 ⟨v, rfl, hO, hk⟩
  obtain ⟨sa, sn, sc, sg, hv, hE⟩ := hO.arg'
  subst hv
  replace HT := hide ((unhide HT).trans (hk.mono (unhide HT).size))
  replace HRw3 := hide ((unhide HRw3).below hk)
  have HE := hide hE
  clear hk hO hE
  rw [unhide HSE] at HE
  go_wp2_with fail
  refine (renc11_any 6 6 A1 A2 sa sn sc sg S w4 (unhide HE)).mono ?_
  rintro e w5 h
  obtain ⟨hk, ow5, mw5, kw5, Gw5, Aw5, Cw5, rfl, hR⟩ := EncR.use h
  replace HT := hide ((unhide HT).trans (hk.mono (unhide HT).size))
  replace HRw3 := hide ((unhide HRw3).below hk)
  have hokr : okRow 6 6 A1 A2 S := ⟨⟨by omega, by omega⟩, ⟨⟨by omega, by omega⟩, ⟨by omega, by omega⟩, by omega, by omega⟩, by have := unhide HSL; omega, unhide HSK⟩
  rw [encE_ok hokr]
  rw [encX_ok hokr, show ((6 : Int) - 2).toNat = 4 from rfl] at hR
  obtain rfl : mw5 = 6 := by
    obtain ⟨_, _, hv, -⟩ := hR.ex
    rw [encL_len] at hv
    cases hv
    rfl
  have HRw5 := hide hR
  clear h hk hR hokr HE
  go_wp2_with fail
  refine (unhide HW3 _).mono ?_
  rintro e wx ⟨rfl, hwx⟩
  rw [hwx]
  clear hwx wx
  have HOK5 : Hid (okH 5 A1 A2) := ⟨⟨by omega, by omega⟩, ⟨by omega, by omega⟩, by omega, by omega⟩
  have HSZ5 : Hid (∀ i, i < 6 → ((encL 4 5 A1 A2 S).getD i []).length = 48) := (encL_facts (a := 5) (b := A1) (c := A2) (d := 4) (unhide HPOK) (by omega) (by omega)).1
  have HSZ6 : Hid (∀ i, i < 6 → ((encL 4 6 A1 A2 S).getD i []).length = 48) := (encL_facts (a := 6) (b := A1) (c := A2) (d := 4) (unhide HPOK) (by omega) (by omega)).1
  have HBS5 : Hid (∀ i, Bs ((encL 4 5 A1 A2 S).getD i [])) := (encL_facts (a := 5) (b := A1) (c := A2) (d := 4) (unhide HPOK) (by omega) (by omega)).2.1
  have HBS6 : Hid (∀ i, Bs ((encL 4 6 A1 A2 S).getD i [])) := (encL_facts (a := 6) (b := A1) (c := A2) (d := 4) (unhide HPOK) (by omega) (by omega)).2.1
  have HLEN5 : Hid (∀ (A : Nat → Option Addr) (C gf : Nat → Nat) i, ((pagesL A C gf (encL 4 5 A1 A2 S) 6 []).getD i zPV).x.length ≤ 100000) := fun A C gf i => by
    by_cases hi : i < 6
    · rw [pagesL_get hi, if_neg (by simp)]
      show ((encL 4 5 A1 A2 S).getD i []).length ≤ 100000
      rw [unhide HSZ5 i hi]; omega
    · rw [List.getD_eq_getElem?_getD, List.getElem?_eq_none (by rw [pagesL_len]; omega)]; simp [zPV]
  go_wp2_with fail
  have hpg := pgs11_any _ 6 _ _ _ _ _ none 0 0 0 [] rfl (encL_len _ _ _ _ _) (by omega) (by omega) (by simp) w5 (unhide HRw3) (z_nilP w5)
  refine hpg.mono ?_
  clear hpg
  rintro e w6 ⟨gfw6, v, Gpw6, rfl, hPB, hgf, hk⟩
  replace HT := hide ((unhide HT).trans (hk.mono (unhide HT).size))
  replace HRw3 := hide ((unhide HRw3).below hk)
  replace HRw5 := hide ((unhide HRw5).below hk)
  obtain ⟨cPw6, hvP, hcP, hcPm⟩ := hPB.ex
  rw [pagesL_len] at hvP hcP
  subst hvP
  have HPBw6 := hide hPB
  clear hk hPB hgf hcPm hcP
  have hdf := (decF_enc (sup := A1 + (1 + A3)) (at' := A2) (d := 4) (a := 5) (b := A1) (c := A2) (S := S) (unhide HPOK) (by omega) (by omega) (A := Aw3) (C := Cw3) (gf := gfw6) (most := 1) ⟨by omega, by omega⟩).trans (rowF_else (unhide HPOK) (unhide HSK) (by omega) (by omega) (unhide HOK5) (.inl (by omega)))
  have hdec := dec11_any (A1 + (1 + A3)) A2 _ _ _ _ _ 1 (unhide HLEN5 _ _ _) w6 (unhide HPBw6).arg
  have HDF := hide hdf
  have HDEC := hide hdec
  clear hdf hdec
  go_wp2_with fail
  refine (unhide HDEC).mono ?_
  rintro e w7 ⟨hk, v, hx, sv, g6, hv, hEA, -⟩
  have hdf := unhide HDF
  rw [show 4 + 2 = 6 from rfl] at hdf
  rw [hdf] at hx hv hEA
  replace HT := hide ((unhide HT).trans (hk.mono (unhide HT).size))
  replace HRw3 := hide ((unhide HRw3).below hk)
  replace HRw5 := hide ((unhide HRw5).below hk)
  obtain ⟨so, sc6, hs, -⟩ := hEA.ex
  subst hs
  subst hv
  subst hx
  clear HDF HDEC hdf hEA hk
  dsimp only [zRow, List.length_nil]
  obtain ⟨w8, hwb⟩ : ∃ W, w7.alloc (.cells #[.int .i64 0, .int .i64 0, .slice so 0 sc6] 37) = W := ⟨_, rfl⟩
  have hk : Below w7.heap.size w7 w8 := by rw [← hwb]; exact (Below.refl _ w7).alloc (Nat.le_refl _) _
  replace HT := hide ((unhide HT).trans (hk.mono (unhide HT).size))
  replace HRw3 := hide ((unhide HRw3).below hk)
  replace HRw5 := hide ((unhide HRw5).below hk)
  have HWBw8 := hide hwb
  clear hwb hk
  clear HPBw6
  go_wp2_with fail
  rw [unhide HWBw8]
  have hpg := pgs11_any _ 6 _ _ _ _ _ none 0 0 0 [] rfl (encL_len _ _ _ _ _) (by omega) (by omega) (by simp) w8 (unhide HRw3) (z_nilP w8)
  refine hpg.mono ?_
  clear hpg
  rintro e w9 ⟨gfw9, v, Gpw9, rfl, hPB, hgf, hk⟩
  replace HT := hide ((unhide HT).trans (hk.mono (unhide HT).size))
  replace HRw3 := hide ((unhide HRw3).below hk)
  replace HRw5 := hide ((unhide HRw5).below hk)
  obtain ⟨cPw9, hvP, hcP, hcPm⟩ := hPB.ex
  rw [pagesL_len] at hvP hcP
  subst hvP
  have HPBw9 := hide hPB
  clear hk hPB hgf hcPm hcP
  have hdf := (decF_enc (sup := A1) (at' := A2 + (1 + A3)) (d := 4) (a := 5) (b := A1) (c := A2) (S := S) (unhide HPOK) (by omega) (by omega) (A := Aw3) (C := Cw3) (gf := gfw9) (most := 1) ⟨by omega, by omega⟩).trans (rowF_else (unhide HPOK) (unhide HSK) (by omega) (by omega) (unhide HOK5) (.inr (by omega)))
  have hdec := dec11_any A1 (A2 + (1 + A3)) _ _ _ _ _ 1 (unhide HLEN5 _ _ _) w9 (unhide HPBw9).arg
  have HDF := hide hdf
  have HDEC := hide hdec
  clear hdf hdec
  go_wp2_with fail
  refine (unhide HDEC).mono ?_
  rintro e w10 ⟨hk, v, hx, sv, g6, hv, hEA, -⟩
  have hdf := unhide HDF
  rw [show 4 + 2 = 6 from rfl] at hdf
  rw [hdf] at hx hv hEA
  replace HT := hide ((unhide HT).trans (hk.mono (unhide HT).size))
  replace HRw3 := hide ((unhide HRw3).below hk)
  replace HRw5 := hide ((unhide HRw5).below hk)
  obtain ⟨so, sc6, hs, -⟩ := hEA.ex
  subst hs
  subst hv
  subst hx
  clear HDF HDEC hdf hEA hk
  dsimp only [zRow, List.length_nil]
  obtain ⟨w11, hwb⟩ : ∃ W, w10.alloc (.cells #[.int .i64 0, .int .i64 0, .slice so 0 sc6] 37) = W := ⟨_, rfl⟩
  have hk : Below w10.heap.size w10 w11 := by rw [← hwb]; exact (Below.refl _ w10).alloc (Nat.le_refl _) _
  replace HT := hide ((unhide HT).trans (hk.mono (unhide HT).size))
  replace HRw3 := hide ((unhide HRw3).below hk)
  replace HRw5 := hide ((unhide HRw5).below hk)
  have HWBw11 := hide hwb
  clear hwb hk
  clear HPBw9
  have HRa := HRw3
  have HRb := HRw5
  have hs11 := (unhide HT).size
  go_wp2_with fail
  rw [unhide HWBw11]
  have hpg := pgs11_any _ 6 _ _ _ _ _ none 0 0 0 [] rfl (encL_len _ _ _ _ _) (by omega) (by omega) (by simp) w11 (unhide HRw3) (z_nilP w11)
  refine hpg.mono ?_
  clear hpg
  rintro e w12 ⟨gfw12, v, Gpw12, rfl, hPB, hgf, hk⟩
  have HK12 := hide hk
  replace HT := hide ((unhide HT).trans (hk.mono (unhide HT).size))
  replace HRw3 := hide ((unhide HRw3).below hk)
  replace HRw5 := hide ((unhide HRw5).below hk)
  obtain ⟨cPw12, hvP, hcP, hcPm⟩ := hPB.ex
  rw [pagesL_len] at hvP hcP
  subst hvP
  have HPBw12 := hide hPB
  clear hk hPB hgf hcPm hcP
  go_wp2_with fail
  refine (unhide HW4 _).mono ?_
  rintro e wx ⟨rfl, hwx⟩
  rw [hwx]
  clear hwx wx
  have hjI : (j : Int) < 6 := by omega
  have hgp := (unhide HPBw12).le
  obtain ⟨ob, hob, hclb⟩ := (rarg_vrow (unhide HRw5) (encL_len _ _ _ _ _)).at (by omega : 0 < 6)
  subst hob
  have hcb := hclb j hjN
  obtain ⟨gb, hAb⟩ := (unhide HRw5).rows j (by rw [encL_len]; exact hjN)
  have hpj : j < (pagesL Aw3 Cw3 gfw12 (encL 4 5 A1 A2 S) 6 []).length := by rw [pagesL_len]; exact hjN
  have hpb := (unhide HPBw12).putB hpj hAb
  rw [pagesL_set (encL_len _ _ _ _ _) hjN] at hpb
  have hcj : w12.cell? ⟨Gpw12, j * 2 + 1, none⟩ = some (.slice (Aw3 j) 48 (Cw3 j)) := by
    have h := (unhide HPBw12).blk.cell hpj (j := 1) rfl
    rw [pagesL_get hjN, if_neg (by simp)] at h
    rw [h]
    show some (Value.slice (Aw3 j) ((encL 4 5 A1 A2 S).getD j []).length (Cw3 j)) = _
    rw [unhide HSZ5 j hjN]
  have hfj := (unhide HPBw12).blk.free (j * 2 + 1)
  rw [unhide HSZ6 j hjN] at hcb hpb
  obtain ⟨A', hA'⟩ : ∃ A' : Nat → Option Addr, (fun i => if i = j then Aw5 j else Aw3 i) = A' := ⟨_, rfl⟩
  obtain ⟨C', hC'⟩ : ∃ C' : Nat → Nat, (fun i => if i = j then Cw5 j else Cw3 i) = C' := ⟨_, rfl⟩
  obtain ⟨gf', hgf'⟩ : ∃ gf' : Nat → Nat, (fun i => if i = j then gb else gfw12 i) = gf' := ⟨_, rfl⟩
  rw [hA', hC', hgf'] at hpb
  have HPM := hide hpb
  have hbw : Below w11.heap.size w11 (w12.setCell ⟨Gpw12, j * 2 + 1, none⟩ (.slice (Aw5 j) 48 (Cw5 j))) := (unhide HK12).setCell (p := ⟨Gpw12, j * 2 + 1, none⟩) hgp _
  replace HRw3 := hide ((unhide HRa).below hbw)
  replace HRw5 := hide ((unhide HRb).below hbw)
  replace HT : Hid (Below w.heap.size w (w12.setCell ⟨Gpw12, j * 2 + 1, none⟩ (.slice (Aw5 j) 48 (Cw5 j)))) := (unhide HT).setCell (p := ⟨Gpw12, j * 2 + 1, none⟩) (Nat.le_trans hs11 hgp) _
  clear hclb hAb hpb hA' hC' hgf' hbw HRa HRb HK12 HPBw12 hpj
  go_wp2_with fail
  clear hcb hcj hfj
  generalize w12.setCell ⟨Gpw12, j * 2 + 1, none⟩ (.slice (Aw5 j) 48 (Cw5 j)) = w13 at HPM HRw3 HRw5 HT ⊢
  obtain ⟨bj, hbj⟩ : ∃ bj, (encL 4 6 A1 A2 S).getD j [] = bj := ⟨_, rfl⟩
  have HBJ := hide hbj
  have HBL : Hid (bj.length = 48) := by show _ = _; rw [← hbj]; exact unhide HSZ6 j hjN
  have HBB : Hid (Bs bj) := by show Bs _; rw [← hbj]; exact unhide HBS6 j
  rw [hbj] at HPM
  clear hbj
  have hln2 : Hid (∀ i, ((pagesL A' C' gf' ((encL 4 5 A1 A2 S).set j bj) 6 []).getD i zPV).x.length ≤ 100000) := fun i => by
    by_cases hi : i < 6
    · rw [pagesL_get hi, if_neg (by simp)]
      show (((encL 4 5 A1 A2 S).set j bj).getD i []).length ≤ 100000
      rw [getD_set11 (by rw [encL_len]; exact hjN)]
      split
      · rw [unhide HBL]; omega
      · rw [unhide HSZ5 i hi]; omega
    · rw [List.getD_eq_getElem?_getD, List.getElem?_eq_none (by rw [pagesL_len]; omega)]; simp [zPV]
  have HOKR : Hid (∀ (A : Nat → Option Addr) (C gf : Nat → Nat), decF A1 A2 (pagesL A C gf (encL 4 5 A1 A2 S) (4 + 2) []) 1 = (⟨5, A2, (List.range 4).map (fun i => S.getD i zEV)⟩, 0)) := fun A C gf => (decF_enc (sup := A1) (at' := A2) (d := 4) (a := 5) (b := A1) (c := A2) (S := S) (unhide HPOK) (by omega) (by omega) (A := A) (C := C) (gf := gf) (most := 1) ⟨by omega, by omega⟩).trans (rowF_encL (unhide HPOK) (unhide HSK) (by omega) (by omega) (unhide HOK5))
  by_cases heq : bj = (encL 4 5 A1 A2 S).getD j []
  · have HEQ := hide heq
    clear heq
    have hset : (encL 4 5 A1 A2 S).set j bj = encL 4 5 A1 A2 S := by
      refine getD_ext11 (by rw [List.length_set]) (fun i hi => ?_)
      rw [getD_set11 (by rw [encL_len]; exact hjN)]
      split
      · rename_i h; rw [← h, unhide HEQ]
      · rfl
    rw [hset] at HPM hln2
    clear hset
    have hdf := unhide HOKR A' C' gf'
    have hdec := dec11_any A1 A2 _ _ _ _ _ 1 (unhide hln2) w13 (unhide HPM).arg
    have HDF := hide hdf
    have HDEC := hide hdec
    clear hdf hdec
    go_wp2_with fail
    refine (unhide HDEC).mono ?_
    rintro e w14 ⟨hk, v, hx, sv, g6, hv, hEA, -⟩
    have hdf := unhide HDF
    rw [show 4 + 2 = 6 from rfl] at hdf
    rw [hdf] at hx hv hEA
    replace HT := hide ((unhide HT).trans (hk.mono (unhide HT).size))
    replace HRw3 := hide ((unhide HRw3).below hk)
    replace HRw5 := hide ((unhide HRw5).below hk)
    obtain ⟨so, sc6, hs, -⟩ := hEA.ex
    rw [List.length_map, List.length_range] at hs
    subst hs
    subst hv
    subst hx
    clear HDF HDEC hdf hEA hk
    dsimp only
    obtain ⟨w15, hwb⟩ : ∃ W, w14.alloc (.cells #[.int .i64 5, .int .i64 A2, .slice so 4 sc6] 37) = W := ⟨_, rfl⟩
    have hk : Below w14.heap.size w14 w15 := by rw [← hwb]; exact (Below.refl _ w14).alloc (Nat.le_refl _) _
    replace HT := hide ((unhide HT).trans (hk.mono (unhide HT).size))
    replace HRw3 := hide ((unhide HRw3).below hk)
    replace HRw5 := hide ((unhide HRw5).below hk)
    have HWBw15 := hide hwb
    clear hwb hk
    clear HPM hln2
    go_wp2_with fail
    rw [unhide HWBw15]
    have hpg := pgs11_any _ 6 _ _ _ _ _ none 0 0 0 [] rfl (encL_len _ _ _ _ _) (by omega) (by omega) (by simp) w15 (unhide HRw3) (z_nilP w15)
    refine hpg.mono ?_
    clear hpg
    rintro e w16 ⟨gfw16, v, Gpw16, rfl, hPB, hgf, hk⟩
    replace HT := hide ((unhide HT).trans (hk.mono (unhide HT).size))
    replace HRw3 := hide ((unhide HRw3).below hk)
    replace HRw5 := hide ((unhide HRw5).below hk)
    obtain ⟨cPw16, hvP, hcP, hcPm⟩ := hPB.ex
    rw [pagesL_len] at hvP hcP
    subst hvP
    have HPBw16 := hide hPB
    clear hk hPB hgf hcPm hcP
    have hdf := unhide HOKR Aw3 Cw3 gfw16
    have hdec := dec11_any A1 A2 _ _ _ _ _ 1 (unhide HLEN5 _ _ _) w16 (unhide HPBw16).arg
    have HDF := hide hdf
    have HDEC := hide hdec
    clear hdf hdec
    go_wp2_with fail
    refine (unhide HDEC).mono ?_
    rintro e w17 ⟨hk, v, hx, sv, g6, hv, hEA, -⟩
    have hdf := unhide HDF
    rw [show 4 + 2 = 6 from rfl] at hdf
    rw [hdf] at hx hv hEA
    replace HT := hide ((unhide HT).trans (hk.mono (unhide HT).size))
    replace HRw3 := hide ((unhide HRw3).below hk)
    replace HRw5 := hide ((unhide HRw5).below hk)
    obtain ⟨so, sc6, hs, -⟩ := hEA.ex
    rw [List.length_map, List.length_range] at hs
    subst hs
    subst hv
    subst hx
    clear HDF HDEC hdf hEA hk
    dsimp only
    obtain ⟨w18, hwb⟩ : ∃ W, w17.alloc (.cells #[.int .i64 5, .int .i64 A2, .slice so 4 sc6] 37) = W := ⟨_, rfl⟩
    have hk : Below w17.heap.size w17 w18 := by rw [← hwb]; exact (Below.refl _ w17).alloc (Nat.le_refl _) _
    replace HT := hide ((unhide HT).trans (hk.mono (unhide HT).size))
    replace HRw3 := hide ((unhide HRw3).below hk)
    replace HRw5 := hide ((unhide HRw5).below hk)
    have HWBw18 := hide hwb
    clear hwb hk
    clear HPBw16
    obtain ⟨oa, hoa, hcla⟩ := (rarg_vrow (unhide HRw3) (encL_len _ _ _ _ _)).at (by omega : 0 < 6)
    subst hoa
    have hca := hcla j hjN
    obtain ⟨ga, hAa⟩ := (unhide HRw3).rows j (by rw [encL_len]; exact hjN)
    obtain ⟨ob', hob, hclb⟩ := (rarg_vrow (unhide HRw5) (encL_len _ _ _ _ _)).at (by omega : 0 < 6)
    obtain rfl : ob = ob' := by cases hob; rfl
    have hcb := hclb j hjN
    obtain ⟨gb2, hAb⟩ := (unhide HRw5).rows j (by rw [encL_len]; exact hjN)
    rw [unhide HSZ5 j hjN] at hca hAa
    rw [unhide HSZ6 j hjN] at hcb hAb
    rw [← unhide HEQ] at hAa
    rw [unhide HBJ] at hAb
    have hcv := fun m => conv_arg (hAa.below (below_drewN5 (Below.refl _ w18) m))
    have hcv' := fun m => conv_arg (hAb.below (below_drewN5 (Below.refl _ w18) m))
    clear hcla hclb hAa hAb hob
    go_wp2_with fail
    rw [unhide HWBw18]
    go_quiet (fail)
    go_wp2_with fail
    go_ret
    exact ⟨rfl, below_drewN5 (unhide HT) _⟩
  · have HNE := hide heq
    clear heq
    have hdf := decF_wrong (sup := A1) (at' := A2) (d := 4) (a := 5) (b := A1) (c := A2) (S := S) (unhide HPOK) (by omega) (by omega) (A := A') (C := C') (gf := gf') (k := j) (bad := bj) hjN (unhide HBL) (unhide HBB) (unhide HNE) (lost := []) (.inl rfl) (most := 1) ⟨by omega, by omega⟩
    have hdec := dec11_any A1 A2 _ _ _ _ _ 1 (unhide hln2) w13 (unhide HPM).arg
    have HDF := hide hdf
    have HDEC := hide hdec
    clear hdf hdec
    go_wp2_with fail
    refine (unhide HDEC).mono ?_
    rintro e w14 ⟨hk, v, hx, sv, g6, hv, hEA, -⟩
    have hdf := unhide HDF
    rw [show 4 + 2 = 6 from rfl] at hdf
    rw [hdf] at hx hv hEA
    replace HT := hide ((unhide HT).trans (hk.mono (unhide HT).size))
    replace HRw3 := hide ((unhide HRw3).below hk)
    replace HRw5 := hide ((unhide HRw5).below hk)
    obtain ⟨so, sc6, hs, -⟩ := hEA.ex
    subst hs
    subst hv
    subst hx
    clear HDF HDEC hdf hEA hk
    dsimp only [zRow, List.length_nil]
    obtain ⟨w15, hwb⟩ : ∃ W, w14.alloc (.cells #[.int .i64 0, .int .i64 0, .slice so 0 sc6] 37) = W := ⟨_, rfl⟩
    have hk : Below w14.heap.size w14 w15 := by rw [← hwb]; exact (Below.refl _ w14).alloc (Nat.le_refl _) _
    replace HT := hide ((unhide HT).trans (hk.mono (unhide HT).size))
    replace HRw3 := hide ((unhide HRw3).below hk)
    replace HRw5 := hide ((unhide HRw5).below hk)
    have HWBw15 := hide hwb
    clear hwb hk
    clear HPM hln2
    go_wp2_with fail
    rw [unhide HWBw15]
    have hpg := pgs11_any _ 6 _ _ _ _ _ none 0 0 0 [] rfl (encL_len _ _ _ _ _) (by omega) (by omega) (by simp) w15 (unhide HRw3) (z_nilP w15)
    refine hpg.mono ?_
    clear hpg
    rintro e w16 ⟨gfw16, v, Gpw16, rfl, hPB, hgf, hk⟩
    replace HT := hide ((unhide HT).trans (hk.mono (unhide HT).size))
    replace HRw3 := hide ((unhide HRw3).below hk)
    replace HRw5 := hide ((unhide HRw5).below hk)
    obtain ⟨cPw16, hvP, hcP, hcPm⟩ := hPB.ex
    rw [pagesL_len] at hvP hcP
    subst hvP
    have HPBw16 := hide hPB
    clear hk hPB hgf hcPm hcP
    have hdf := unhide HOKR Aw3 Cw3 gfw16
    have hdec := dec11_any A1 A2 _ _ _ _ _ 1 (unhide HLEN5 _ _ _) w16 (unhide HPBw16).arg
    have HDF := hide hdf
    have HDEC := hide hdec
    clear hdf hdec
    go_wp2_with fail
    refine (unhide HDEC).mono ?_
    rintro e w17 ⟨hk, v, hx, sv, g6, hv, hEA, -⟩
    have hdf := unhide HDF
    rw [show 4 + 2 = 6 from rfl] at hdf
    rw [hdf] at hx hv hEA
    replace HT := hide ((unhide HT).trans (hk.mono (unhide HT).size))
    replace HRw3 := hide ((unhide HRw3).below hk)
    replace HRw5 := hide ((unhide HRw5).below hk)
    obtain ⟨so, sc6, hs, -⟩ := hEA.ex
    rw [List.length_map, List.length_range] at hs
    subst hs
    subst hv
    subst hx
    clear HDF HDEC hdf hEA hk
    dsimp only
    obtain ⟨w18, hwb⟩ : ∃ W, w17.alloc (.cells #[.int .i64 5, .int .i64 A2, .slice so 4 sc6] 37) = W := ⟨_, rfl⟩
    have hk : Below w17.heap.size w17 w18 := by rw [← hwb]; exact (Below.refl _ w17).alloc (Nat.le_refl _) _
    replace HT := hide ((unhide HT).trans (hk.mono (unhide HT).size))
    replace HRw3 := hide ((unhide HRw3).below hk)
    replace HRw5 := hide ((unhide HRw5).below hk)
    have HWBw18 := hide hwb
    clear hwb hk
    clear HPBw16
    go_wp2_with fail
    rw [unhide HWBw18]
    go_quiet (fail)
    go_wp2_with fail
    go_ret
    exact ⟨rfl, below_drewN5 (unhide HT) _⟩

end Go.Proofs.YtjdikhelabibnaaGreat
