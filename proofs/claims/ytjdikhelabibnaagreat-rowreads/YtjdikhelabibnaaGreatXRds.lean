
import Derived.Test.YtjdikhelabibnaaGreatMay
import Derived.Test.YtjdikhelabibnaaGreatMbf
import Derived.Test.YtjdikhelabibnaaGreatMbg
namespace Go.Proofs.YtjdikhelabibnaaGreat
open Go Go.RowKit Go.Shelf
theorem z_nilR (w : World) : ZArg w (.slice none 0 0) 0 (ints []) := ⟨⟨none, 0, rfl, by simp [ints], by simp, fun _ => rfl, .inl rfl⟩, by simp [ints]⟩
def barP (s : Int) : PV := ⟨s, none, 0, 0, []⟩
theorem set_getD11 {P : List PV} {j i : Nat} {q : PV} (hj : j < P.length) : (P.set j q).getD i zPV = if j = i then q else P.getD i zPV := by
 rw [List.getD_eq_getElem?_getD, List.getElem?_set]
 by_cases e : j = i
 ·rw [if_pos e, if_pos e, if_pos (by omega)]; rfl
 rw [if_neg e, if_neg e, ← List.getD_eq_getElem?_getD]
theorem PgBlk.putP {base : Nat} {w : World} {v : Value} {G : Nat} {P : List PV} (h : PgBlk base w v G P) {j : Nat} (hj : j < P.length) (s : Int) :
  PgBlk base (w.setCells G (j * 2) (barP s).cs) v G (P.set j (barP s)) := by
 have hc0 : w.cell? ⟨G, j * 2, none⟩ = some (.int .i64 (P.getD j zPV).st) := h.blk.cell hj (j := 0) rfl
 have hc1 : w.cell? ⟨G, j * 2 + 1, none⟩ = some (P.getD j zPV).b := h.blk.cell hj (j := 1) rfl
 refine ⟨?_, ?_, h.le, fun p hp => ?_⟩
 ·rw [List.length_set]
  refine (h.blk.put hj (barP s).cs rfl).congr (fun i hi => ?_)
  rw [set_getD11 hj]
  by_cases e : i = j
  ·subst e; simp
  rw [if_neg e, if_neg (fun h => e h.symm)]
 ·rw [List.length_set]; exact h.ex
 rcases List.mem_or_eq_of_mem_set hp with hp | hp
 ·have h1 : Arg w p.b p.gb p.x := h.ok p hp
  have hc2 : (w.setCell ⟨G, j * 2, none⟩ (.int .i64 s)).cell? ⟨G, j * 2 + 1, none⟩ = some (P.getD j zPV).b := by
   rw [World.cell?_setCell_other]
   ·exact hc1
   intro e; injection e with _ h2 _; omega
  exact (h1.setslot hc0 (by intro z h; cases h) _).setslot hc2 (by intro z h; cases h) _
 subst hp
 exact ⟨⟨none, 0, rfl, by simp [barP], by simp, fun _ => rfl, .inl rfl⟩, Bs.nil⟩
theorem bs_set11 {s : List Nat} {j v : Nat} (h : Bs s) (hv : v < 256) : Bs (s.set j v) := by
 intro i
 by_cases hj : j < s.length
 ·rw [cf_set _ _ _ _ hj]
  split
  ·exact hv
  exact h i
 rw [List.set_eq_of_length_le (by omega)]; exact h i
theorem EArg.setRow11 {w : World} {v : Value} {g k : Nat} {l : List EV} {cs : Array Value} {t : TypeId} {fr : Nat × Nat} (h : EArg w v g l) (hk : w.heap[k]? = some (.cells cs t fr)) (hs : cs.size ≤ 18) (cs' : Array Value) : EArg (w.setRow k cs') v g l :=
 h.of (fun hne => setRow_other w k g cs' (ev_ne_row h hne hk hs))
structure CAt (w : World) (p : Addr) (v : Value) : Prop where
 c : w.cell? p = some v
theorem CAt.below {w w' : World} {p : Addr} {v : Value} (h : CAt w p v) (k : Below w.heap.size w w') : CAt w' p v := ⟨(k.cell (block_lt_of_cell h.c)).trans h.c⟩
theorem three11 {w : World} {ao bo co : Option Addr} {n m k c d e g r s gin : Nat} {P R S : List PV} (h0 : PgArg w (.slice ao n c) g P) (h1 : PgArg w (.slice bo m d) r R) (h2 : PgArg w (.slice co k e) s S)
  (l0 : ∀ i, (P.getD i zPV).x.length ≤ 100000) (l1 : ∀ i, (R.getD i zPV).x.length ≤ 100000) (l2 : ∀ i, (S.getD i zPV).x.length ≤ 100000) {t : TypeId}
  (hc : w.heap[gin]? = some (.cells #[.slice ao n c, .slice bo m d, .slice co k e] t (0, 0))) :
  ∀ j, j < 3 → ∃ qo qn qc qg Q, CAt w ⟨gin, j, none⟩ (.slice qo qn qc) ∧ PgArg w (.slice qo qn qc) qg Q ∧ ∀ i, (Q.getD i zPV).x.length ≤ 100000 := by
 intro j hj
 have hj3 : j = 0 ∨ j = 1 ∨ j = 2 := by omega
 rcases hj3 with rfl | rfl | rfl
 ·exact ⟨ao, n, c, g, P, ⟨cell_blk hc rfl⟩, h0, l0⟩
 ·exact ⟨bo, m, d, r, R, ⟨cell_blk hc rfl⟩, h1, l1⟩
 exact ⟨co, k, e, s, S, ⟨cell_blk hc rfl⟩, h2, l2⟩
set_option maxRecDepth 100000 in
set_option maxHeartbeats 32000000 in
theorem rowreads_any (ao : Option Addr) (n c g : Nat) (L : List EV) (bo : Option Addr) (bn bc bg : Nat) (zb : List Int) (a2 a3 a4 a5 a6 : Int) (ro : Option Addr) (rn rc rg : Nat) (R : List PV) (w : World) (hL : EArg w (.slice ao n c) g L)
  (hbz : zb.length = bn) (hbr : IRow w bo bg zb) (hbb : ∀ z ∈ zb, -9223372036854775808 ≤ z ∧ z ≤ 9223372036854775807) (hbc : bn ≤ bc) (hbm : bc ≤ maxLen) (hR : PgArg w (.slice ro rn rc) rg R) :
  Calls Tryz.prog 5 #[.slice ao n c, .slice bo bn bc, .int .i64 a2, .int .i64 a3, .int .u8 a4, .int .i64 a5, .int .i64 a6, .slice ro rn rc] w fun e w' => e = .returned (.bool true) ∧ Below w.heap.size w w' := by
 obtain ⟨hln, hnc, hcm, -⟩ := hL.mrow
 have HL := hide hL
 have hnm : (n : Int) ≤ 9223372036854775807 := by unfold maxLen at hcm; omega
 clear hL hln hnc hcm
 obtain ⟨hrn, hrc, hrm, -⟩ := hR.mrow
 have HRA := hide hR
 have HRN := hide hrn
 have hrnm : (rn : Int) ≤ 9223372036854775807 := by unfold maxLen at hrm; omega
 clear hR hrn hrc hrm
 have HBA := hide (show zb.length = bn ∧ IRow w bo bg zb ∧ (∀ z ∈ zb, -9223372036854775808 ≤ z ∧ z ≤ 9223372036854775807) from ⟨hbz, hbr, hbb⟩)
 have hbnm : (bn : Int) ≤ 9223372036854775807 := by unfold maxLen at hbm; omega
 clear hbz hbr hbb hbc hbm
 obtain ⟨k, ke, kn⟩ : ∃ r : Nat, a2 % 6 = (r : Int) ∧ r < 6 := ⟨(a2 % 6).toNat, by omega, by omega⟩
 have HWk := hide (fun W => (show Calls Tryz.prog 10 #[.int .i64 a2, .int .i64 6] W fun e w' => e = .returned (.int .i64 (k : Int)) ∧ w' = W from (within11_any a2 6 W (by decide) (by decide)).mono (fun e w' h => by rw [← ke]; exact h)))
 clear ke
 obtain ⟨q, qe, qn⟩ : ∃ r : Nat, a3 % 48 = (r : Int) ∧ r < 48 := ⟨(a3 % 48).toNat, by omega, by omega⟩
 have HWq := hide (fun W => (show Calls Tryz.prog 10 #[.int .i64 a3, .int .i64 48] W fun e w' => e = .returned (.int .i64 (q : Int)) ∧ w' = W from (within11_any a3 48 W (by decide) (by decide)).mono (fun e w' h => by rw [← qe]; exact h)))
 clear qe
 obtain ⟨s, se, sn⟩ : ∃ r : Nat, a5 % 5 = (r : Int) ∧ r < 5 := ⟨(a5 % 5).toNat, by omega, by omega⟩
 have HWs := hide (fun W => (show Calls Tryz.prog 10 #[.int .i64 a5, .int .i64 5] W fun e w' => e = .returned (.int .i64 (s : Int)) ∧ w' = W from (within11_any a5 5 W (by decide) (by decide)).mono (fun e w' h => by rw [← se]; exact h)))
 clear se
 obtain ⟨M, Me, Mn⟩ : ∃ r : Nat, a6 % 4 = (r : Int) ∧ r < 4 := ⟨(a6 % 4).toNat, by omega, by omega⟩
 have HWM := hide (fun W => (show Calls Tryz.prog 10 #[.int .i64 a6, .int .i64 4] W fun e w' => e = .returned (.int .i64 (M : Int)) ∧ w' = W from (within11_any a6 4 W (by decide) (by decide)).mono (fun e w' h => by rw [← Me]; exact h)))
 clear Me
 obtain ⟨iB, hiB, hzB0, hzB1, hzB2⟩ := info_parts infoE
 have HIB := hide hiB
 clear hiB
 go_enter Tryz.func5, Tryz.ntmps5
 go_wp2_with fail
 refine (known11_any w).mono ?_
 rintro e w1 ⟨rfl, hk⟩
 have HT := hide hk
 replace HRA := hide ((uh HRA).below hk)
 clear hk
 by_cases hlen : 8 < n
 ·have hl1 : (8 : Int) < (n : Int) := by omega
  go_wp2_with fail
  go_ret
  exact ⟨rfl, uh HT⟩
 have hl1 : (n : Int) ≤ 8 := by omega
 by_cases hrl : 10 < rn
 ·have hl2 : (10 : Int) < (rn : Int) := by omega
  go_wp2_with fail
  go_ret
  exact ⟨rfl, uh HT⟩
 have hl2 : (rn : Int) ≤ 10 := by omega
 go_wp2_with fail
 go_loopw [17] (fun i wr => ∃ (ja : Nat), ja ≤ rn ∧ i = .int .i64 ja ∧ wr = w1 ∧ ∀ i, i < ja → (R.getD i zPV).x.length ≤ 60) (fun i _ => rn - (intOf i).toNat)
 case atStart => exact ⟨0, by omega, rfl, rfl, by omega⟩
 case round =>
  obtain ⟨ja, hj, rfl, rfl, hz⟩ := hrel
  have HZ := hide hz
  clear hz
  by_cases hlt : ja < rn
  ·have hi1 : (ja : Int) < (rn : Int) := by omega
   have hlt2 : ja < R.length := by rw [uh HRN]; exact hlt
   obtain ⟨_, _, hv, -, -, -, hr⟩ := (uh HRA).ex
   obtain ⟨o, ho, hcl⟩ := hr (fun h => by rw [h] at hlt2; simp at hlt2)
   subst ho
   obtain rfl : ro = some ⟨rg, o, none⟩ := by cases hv; rfl
   have hc : wr.cell? ⟨rg, o + ja * 2 + 1, none⟩ = some (.slice (R.getD ja zPV).bo (R.getD ja zPV).x.length (R.getD ja zPV).bc) := hcl ja hlt2 1 _ rfl
   clear hcl hr hv hlt2
   by_cases hs : 60 < (R.getD ja zPV).x.length
   ·have hs1 : (60 : Int) < ((R.getD ja zPV).x.length : Int) := by omega
    obtain ⟨y1, hy1⟩ : ∃ y, (R.getD ja zPV).bo = y := ⟨_, rfl⟩
    obtain ⟨y2, hy2⟩ : ∃ y, (R.getD ja zPV).x.length = y := ⟨_, rfl⟩
    obtain ⟨y3, hy3⟩ : ∃ y, (R.getD ja zPV).bc = y := ⟨_, rfl⟩
    rw [hy1, hy2, hy3] at hc
    rw [hy2] at hs1
    clear hy1 hy2 hy3 hs
    go_wp2_with fail
    go_ret
    exact ⟨rfl, uh HT⟩
   have HS : Hid ((R.getD ja zPV).x.length ≤ 60) := by show _ ≤ _; omega
   have hs1 : ((R.getD ja zPV).x.length : Int) ≤ 60 := by omega
   obtain ⟨y1, hy1⟩ : ∃ y, (R.getD ja zPV).bo = y := ⟨_, rfl⟩
   obtain ⟨y2, hy2⟩ : ∃ y, (R.getD ja zPV).x.length = y := ⟨_, rfl⟩
   obtain ⟨y3, hy3⟩ : ∃ y, (R.getD ja zPV).bc = y := ⟨_, rfl⟩
   rw [hy1, hy2, hy3] at hc
   rw [hy2] at hs1
   clear hy1 hy2 hy3 hs
   go_wp2_with fail
   go_roundw
   case rel => exact ⟨ja + 1, by omega, by go_num, trivial, fun i hi => by
    by_cases e : i = ja
    ·rw [e]; exact uh HS
    exact uh HZ i (by omega)⟩
   case measure => simp [intOf]; omega
  have hi1 : (rn : Int) ≤ (ja : Int) := by omega
  have HRX : Hid (∀ i, (R.getD i zPV).x.length ≤ 100000) := fun i => by
   by_cases hi : i < R.length
   ·have := uh HZ i (by have := uh HRN; omega)
    omega
   rw [List.getD_eq_getElem?_getD, List.getElem?_eq_none (by omega)]; simp [zPV]
  clear HZ HRN
  go_wp2_with fail
  have hsl := slots11_any ao n c g L 4 (by omega) _ ((uh HL).below (uh HT))
  refine hsl.mono ?_
  clear hsl
  rintro e w2 ⟨v, rfl, hO, hk⟩
  obtain ⟨sa, sn, sc, sg, hv, hE⟩ := hO.arg'
  subst hv
  replace HT := hide ((uh HT).trans (hk.mono (uh HT).size))
  replace HRA := hide ((uh HRA).below hk)
  have HE := hide hE
  clear hk hO hE
  obtain ⟨S, hS⟩ : ∃ S, gdSl L 4 = S := ⟨_, rfl⟩
  have HSL : Hid (S.length ≤ 4) := by rw [← hS, gdSl_len]; show _ ≤ _; omega
  have HSK : Hid (okL S) := by rw [← hS]; exact gdSl_okL _
  rw [hS] at HE
  clear hS HL
  go_wp2_with fail
  refine (renc11_any 6 7 3 2 sa sn sc sg S w2 (uh HE)).mono ?_
  rintro e w3 h
  have hokr : okRow 6 7 3 2 S := ⟨⟨by omega, by omega⟩, ⟨⟨by omega, by omega⟩, ⟨by omega, by omega⟩, by omega, by omega⟩, by have := uh HSL; omega, uh HSK⟩
  have HPOK : Hid (∀ i, (S.getD i zEV).Ok) := (uh HE).get_ok
  rcases h.res with ⟨-, vb, ps, rfl, hO⟩ | ⟨h1, -⟩
  rotate_left 1
  ·exact absurd hokr h1
  rw [show ((6 : Int) - 2).toNat = 4 from rfl] at hO
  obtain ⟨gB, cB, A, C, rfl, hgB, hcB, hcBm, hRB, hcur⟩ := ownR_blk11 hO (encL_len _ _ _ _ _) (by omega)
  replace HT := hide ((uh HT).trans (h.below.mono (uh HT).size))
  replace HRA := hide ((uh HRA).below h.below)
  obtain ⟨f1, f2, -, -⟩ := encL_facts (a := 7) (b := 3) (c := 2) (d := 4) (uh HPOK) (by omega) (by omega)
  have HSZ : Hid (∀ i, i < 6 → ((encL 4 7 3 2 S).getD i []).length = 48) := f1
  have HBS : Hid (∀ i, Bs ((encL 4 7 3 2 S).getD i [])) := f2
  have HLN : Hid ((encL 4 7 3 2 S).length = 6) := encL_len _ _ _ _ _
  obtain ⟨X, hX⟩ : ∃ X, encL 4 7 3 2 S = X := ⟨_, rfl⟩
  rw [hX] at HSZ HBS HLN hRB
  have HRB := hide hRB
  have HT3 := hide (uh HT)
  have HRA3 := hide (uh HRA)
  clear hokr hO hRB hcur h HE f1 f2 hX HSL HSK HPOK hgB hcB hcBm
  have HB3 : Hid (Below w3.heap.size w3 w3) := Below.refl _ _
  go_wp2_with fail
  have hpg := pgs11_any _ 6 _ _ _ _ _ none 0 0 0 [] rfl (uh HLN) (by omega) (by omega) (by simp) w3 (uh HRB) (z_nilR w3)
  refine hpg.mono ?_
  clear hpg
  rintro e w5 ⟨gf, v, Gp, rfl, hPB, -, hk⟩
  replace HT := hide ((uh HT).trans (hk.mono (uh HT).size))
  replace HRA := hide ((uh HRA).below hk)
  replace HB3 := hide hk
  obtain ⟨cP, hvP, -, -⟩ := hPB.ex
  rw [pagesL_len] at hvP
  subst hvP
  have HPX : Hid (∀ i, ((pagesL A C gf X 6 []).getD i zPV).x.length ≤ 100000) := fun i => by
   by_cases hi : i < 6
   ·rw [pagesL_get hi, if_neg (by simp)]
    show (X.getD i []).length ≤ 100000
    rw [uh HSZ i hi]; omega
   rw [List.getD_eq_getElem?_getD, List.getElem?_eq_none (by rw [pagesL_len]; omega)]; simp [zPV]
  have HPL : Hid ((pagesL A C gf X 6 []).length = 6) := pagesL_len _ _ _ _ _ _
  obtain ⟨P, hP⟩ : ∃ P, pagesL A C gf X 6 [] = P := ⟨_, rfl⟩
  rw [hP] at HPX HPL hPB
  have HPB := hide hPB
  clear hk hPB hP
  go_wp2_with fail
  refine (uh HWk _).mono ?_
  rintro e wx ⟨rfl, hwx⟩
  rw [hwx]
  clear hwx wx
  have hkI : (k : Int) < 6 := by omega
  obtain ⟨rk, hrk⟩ : ∃ rk, X.getD k [] = rk := ⟨_, rfl⟩
  have HSK8 : Hid (rk.length = 48) := by show _ = _; rw [← hrk]; exact uh HSZ k kn
  have HBK : Hid (Bs rk) := by show Bs _; rw [← hrk]; exact uh HBS k
  have hRB5 := (uh HRB).below (uh HB3)
  have HV := hide (rarg_vrow hRB5 (uh HLN))
  obtain ⟨o9, ho9, hcl⟩ := (uh HV).at (by omega : 0 < 6)
  obtain rfl : o9 = 0 := by cases ho9; rfl
  have hcT := hcl k kn
  rw [Nat.zero_add, hrk, uh HSK8] at hcT
  obtain ⟨gk, hAk⟩ := hRB5.rows k (by rw [uh HLN]; exact kn)
  rw [hrk, uh HSK8] at hAk
  have hkE : Below w5.heap.size w5 (w5.alloc (.cells #[] 5)) := (Below.refl _ _).alloc (Nat.le_refl _) _
  have HE3 := hide (own_none w5 5)
  have hcTE := (hkE.cell (p := ⟨gB, k, none⟩) (block_lt_of_cell hcT)).trans hcT
  obtain ⟨⟨aK, cK, hvK, hsK, -, hnK, hrK⟩, -⟩ := hAk.below hkE
  rw [uh HSK8] at hvK hsK
  obtain ⟨rfl, rfl⟩ : A k = aK ∧ C k = cK := by cases hvK; exact ⟨rfl, rfl⟩
  have HNK := hide hnK
  have HRK := hide hrK
  have HKE := hide hkE
  clear hrk ho9 hcl hkE hvK hnK hrK hAk hRB5 HV
  go_wp2_with (at_builtin; refine wpList_append_row _ rfl _ _ 47 rfl w5.heap.size 5 iB Tryz.underlying47 (uh HIB) hzB0 hzB1 hzB2 (.slice (some ⟨w5.heap.size, 0, none⟩) 0 0) 0 [] rfl (uh HE3) (A k) gk 48 (C k) (ints rk) rfl (by rw [ints_len]; exact uh HSK8) (uh HRK) (fun h => by have h0 := uh HNK h; omega) (by omega) (by simp) ?_)
  intro v17 wb ho hg hnn
  have hkb := below_grown (uh HKE) hg (by simp) (fun k hk => by have e2 : w5.heap.size = k := Option.some.inj hk; omega)
  obtain ⟨g17, c17, hv17, hg17, hg17l⟩ := owns_shape ho hnn
  subst hv17
  have hF17 := (owns_fr ho).2
  have HBK17 : Hid (Blk wb g17 rk) := by
   rcases hF17 with ⟨_, h⟩ | ⟨g', c', h1, _, _, h2, _⟩
   ·cases h
   injection h1 with h3 h4 h5
   injection h3 with h6
   injection h6 with h7
   rw [h7]; exact h2
  have HC17 : Hid (48 ≤ c17 ∧ c17 ≤ maxLen) := by
   rcases ho.2 with ⟨h, _⟩ | ⟨g', cap, cur, h1, h2, h3, h4, h5, _⟩
   ·cases h
   injection h1 with i3 i4 i5
   rw [i5]; exact ⟨h4, h5⟩
  replace HT := hide ((uh HT).trans (hkb.mono (uh HT).size))
  have hs5 := (uh HB3).size
  replace HB3 := hide ((uh HB3).trans (hkb.mono (uh HB3).size))
  have HB5 := hide hkb
  have hs1 := (uh HT).size
  clear ho hg hnn hkb hF17 hcT hcTE hsK HKE HE3 HNK HRK HIB hzB0 hzB1 hzB2
  go_wp2_with fail
  refine (uh HWq _).mono ?_
  rintro e wx ⟨rfl, hwx⟩
  rw [hwx]
  clear hwx wx
  have hqI : (q : Int) < 48 := by omega
  have hq48 : q < rk.length := by rw [uh HSK8]; exact qn
  have hcq : wb.cell? ⟨g17, q, none⟩ = some (.int .u8 ((cf rk q : Nat) : Int)) := (uh HBK17).cell hq48
  have hfq : wb.frozen? ⟨g17, q, none⟩ = false := (uh HBK17).free
  obtain ⟨y, hy⟩ : ∃ y, cf rk q = y := ⟨_, rfl⟩
  rw [hy] at hcq
  obtain ⟨z, hz, hz8⟩ : ∃ z : Nat, IntKind.u8.wrap ((y : Int) + a4) = (z : Int) ∧ z < 256 := ⟨(((y : Int) + a4) % 256).toNat, by rw [wrap_u8]; omega, by omega⟩
  have HBZ : Hid (Blk (wb.setCell ⟨g17, q, none⟩ (.int .u8 (z : Int))) g17 (rk.set q z)) := (uh HBK17).set q z hq48
  have HT2 : Hid (Below w.heap.size w (wb.setCell ⟨g17, q, none⟩ (.int .u8 (z : Int)))) := (uh HT).setCell (p := ⟨g17, q, none⟩) (by show _ ≤ g17; have := (uh HT3).size; omega) _
  have HB32 : Hid (Below w3.heap.size w3 (wb.setCell ⟨g17, q, none⟩ (.int .u8 (z : Int)))) := (uh HB3).setCell (p := ⟨g17, q, none⟩) (by show _ ≤ g17; omega) _
  have HB52 : Hid (Below w5.heap.size w5 (wb.setCell ⟨g17, q, none⟩ (.int .u8 (z : Int)))) := (uh HB5).setCell (p := ⟨g17, q, none⟩) hg17 _
  have hz9 := hz8
  clear hy HB5 hq48
  have hPB1 := (uh HPB).below (uh HB52)
  have hk6 : k < P.length := by rw [uh HPL]; exact kn
  obtain ⟨old, hold⟩ : ∃ v, (P.getD k zPV).b = v := ⟨_, rfl⟩
  have hck : (wb.setCell ⟨g17, q, none⟩ (.int .u8 (z : Int))).cell? ⟨Gp, k * 2 + 1, none⟩ = some old := by rw [← hold]; exact hPB1.blk.cell hk6 (j := 1) rfl
  have hfk := hPB1.blk.free (k * 2 + 1)
  have hgp := hPB1.le
  have hbs : Bs (rk.set q z) := bs_set11 (uh HBK) hz8
  have hbl : (rk.set q z).length = 48 := by rw [List.length_set]; exact uh HSK8
  obtain ⟨bad, hbad⟩ : ∃ bad, rk.set q z = bad := ⟨_, rfl⟩
  rw [hbad] at hbs hbl
  have hbz := uh HBZ
  rw [hbad] at hbz
  have hA17 : Arg (wb.setCell ⟨g17, q, none⟩ (.int .u8 (z : Int))) (.slice (some ⟨g17, 0, none⟩) bad.length c17) g17 bad := hbz.arg hbs (by rw [hbl]; exact (uh HC17).1) (uh HC17).2
  have hpb := hPB1.putB hk6 hA17
  rw [hbl] at hpb
  have hpl : (P.set k ⟨(P.getD k zPV).st, some ⟨g17, 0, none⟩, c17, g17, bad⟩).length = 6 := by rw [List.length_set]; exact uh HPL
  have hpx : ∀ i, ((P.set k ⟨(P.getD k zPV).st, some ⟨g17, 0, none⟩, c17, g17, bad⟩).getD i zPV).x.length ≤ 100000 := fun i => by
   rw [set_getD11 hk6]
   split
   ·show bad.length ≤ 100000; omega
   exact uh HPX i
  obtain ⟨P0, hP0⟩ : ∃ P0, P.set k ⟨(P.getD k zPV).st, some ⟨g17, 0, none⟩, c17, g17, bad⟩ = P0 := ⟨_, rfl⟩
  rw [hP0] at hpb hpl hpx
  have HPB0 := hide hpb
  have HPL0 := hide hpl
  have HPX0 := hide hpx
  have HB30 : Hid (Below w3.heap.size w3 ((wb.setCell ⟨g17, q, none⟩ (.int .u8 (z : Int))).setCell ⟨Gp, k * 2 + 1, none⟩ (.slice (some ⟨g17, 0, none⟩) 48 c17))) := (uh HB32).setCell (p := ⟨Gp, k * 2 + 1, none⟩) hgp _
  clear hold hPB1 hbs hbl hbad hbz hA17 hpb hpl hpx hP0 hk6 HPB HPL HPX HBZ HT HT2 HB3 HB32 HB52 HBK17 HBK HSK8 HC17 HRA
  go_wp2_with fail
  clear hck hfk hcq hfq hz
  generalize (wb.setCell ⟨g17, q, none⟩ (.int .u8 (z : Int))).setCell ⟨Gp, k * 2 + 1, none⟩ (.slice (some ⟨g17, 0, none⟩) 48 c17) = w20 at HPB0 HB30 ⊢
  refine Code.wp_mono (Q := Exit.inBlock 2 (fun e a W => e = .normal ∧ ∃ u23 u24 u87 u88 u89 u90 u91 u92 u93 u94 u95 u96 u97 u98 u99 u100 u101 u102 u103 u104 u105 u106 u107 u108 P', a = { tmps := #[.slice ao n c, .slice bo bn bc, .int .i64 a2, .int .i64 a3, .int .u8 a4, .int .i64 a5, .int .i64 a6, .slice ro rn rc, undef, undef, undef, undef, undef, undef, undef, undef, u16, .int .i64 (ja : Int), .slice (some ⟨gB, 0, none⟩) 6 cB, .int .i64 0, .slice (some ⟨Gp, 0, none⟩) 6 cP, .int .i64 (k : Int), .slice (some ⟨g17, 0, none⟩) 48 c17, u23, u24, undef, undef, undef, undef, undef, undef, undef, undef, undef, undef, .bool true, .bool false, .slice ao n c, .int .i64 (n : Int), .bool (decide (8 < (n : Int))), .bool (decide (8 < (n : Int))), .slice ro rn rc, .int .i64 (rn : Int), .bool (decide (10 < (rn : Int))), .bool (decide (8 < (n : Int)) || decide (10 < (rn : Int))), .int .i64 (ja : Int), .slice ro rn rc, .int .i64 (rn : Int), .bool false, u49, u50, u51, u52, u53, u54, u55, u56, u57, .tuple #[.slice (some ⟨gB, 0, none⟩) 6 cB, .int .i64 0], .slice ao n c, .slice sa sn sc, .tuple #[.slice (some ⟨gB, 0, none⟩) 6 cB, .int .i64 0], .slice (some ⟨gB, 0, none⟩) 6 cB, .int .i64 0, .slice (some ⟨gB, 0, none⟩) 6 cB, .slice (some ⟨Gp, 0, none⟩) 6 cP, .int .i64 a2, .int .i64 (k : Int), .slice (some ⟨w5.heap.size, 0, none⟩) 0 0, .slice (some ⟨gB, 0, none⟩) 6 cB, .int .i64 (k : Int), .pointer (some ⟨gB, k, none⟩), .slice (A k) 48 (C k), .slice (some ⟨g17, 0, none⟩) 48 c17, .slice (some ⟨g17, 0, none⟩) 48 c17, .int .i64 a3, .int .i64 (q : Int), .pointer (some ⟨g17, q, none⟩), .int .u8 (y : Int), .int .u8 a4, .int .u8 (z : Int), .pointer (some ⟨g17, q, none⟩), .slice (some ⟨Gp, 0, none⟩) 6 cP, .int .i64 (k : Int), .slice (some ⟨g17, 0, none⟩) 48 c17, .pointer (some ⟨Gp, k * 2, none⟩), .pointer (some ⟨Gp, k * 2 + 1, none⟩), u87, u88, u89, u90, u91, u92, u93, u94, u95, u96, u97, u98, u99, u100, u101, u102, u103, u104, u105, u106, u107, u108, undef, undef, undef, undef, undef, undef, undef, undef, undef, undef, undef, undef, undef, undef, undef, undef, undef, undef, undef, undef, undef, undef, undef, undef, undef, undef, undef, undef, undef, undef, undef, undef, undef, undef, undef, undef, undef, undef, undef, undef, undef, undef, undef, undef, undef, undef, undef, undef, undef, undef, undef, undef, undef, undef, undef, undef, undef, undef, undef, undef, undef, undef, undef, undef, undef, undef, undef, undef, undef], defers := [] } ∧ Below w3.heap.size w3 W ∧ PgBlk w3.heap.size W (.slice (some ⟨Gp, 0, none⟩) 6 cP) Gp P' ∧ P'.length = 6 ∧ ∀ i, (P'.getD i zPV).x.length ≤ 100000)) (inBlock_mono ?_) ?_
  rotate_left 1
  ·go_loopw [23] (fun i wq => ∃ (jb : Nat), jb ≤ bn ∧ jb ≤ 6 ∧ i = .int .i64 jb ∧ Below w3.heap.size w3 wq ∧ ∃ P', PgBlk w3.heap.size wq (.slice (some ⟨Gp, 0, none⟩) 6 cP) Gp P' ∧ P'.length = 6 ∧ ∀ i, (P'.getD i zPV).x.length ≤ 100000) (fun i _ => 6 - (intOf i).toNat)
   case atStart => exact ⟨0, by omega, by omega, rfl, uh HB30, P0, uh HPB0, uh HPL0, uh HPX0⟩
   case round =>
    obtain ⟨jb, hjb, hj6, rfl, hB, P1, hP1, hl1', hx1⟩ := hrel
    have HB := hide hB
    have HP1 := hide hP1
    have HL1 := hide hl1'
    have HX1 := hide hx1
    have HTR : Hid (Below w.heap.size w wr) := (uh HT3).trans (hB.mono (uh HT3).size)
    clear hB hP1 hl1' hx1 HB30 HPB0 HPL0 HPX0
    by_cases hcont : jb < bn ∧ jb < 6
    ·obtain ⟨h1, h2⟩ := hcont
     have i1 : (jb : Int) < (bn : Int) := by omega
     have i2 : (jb : Int) < 6 := by omega
     have hbz := (uh HBA).1
     obtain ⟨oz, hzo, hcz⟩ := irow_some' (IRow.below (uh HTR) (uh HBA).2.1) (by omega)
     have hcj := hcz jb (by omega)
     subst hzo
     obtain ⟨zj, hzj⟩ : ∃ z, zb.getD jb 0 = z := ⟨_, rfl⟩
     rw [hzj] at hcj
     clear hcz hzj hbz
     obtain ⟨sj, hse, hs6⟩ : ∃ r : Nat, zj % 6 = (r : Int) ∧ r < 6 := ⟨(zj % 6).toNat, by omega, by omega⟩
     have HWj := hide (fun W => (show Calls Tryz.prog 10 #[.int .i64 zj, .int .i64 6] W fun e w' => e = .returned (.int .i64 (sj : Int)) ∧ w' = W from (within11_any zj 6 W (by decide) (by decide)).mono (fun e w' h => by rw [← hse]; exact h)))
     clear hse
     have hj6' : jb < P1.length := by rw [uh HL1]; exact h2
     have hth : Hid (wr.there Gp (jb * 2) 2) := (uh HP1).blk.there hj6'
     have HP2 := hide ((uh HP1).putP hj6' (sj : Int))
     have HL2 : Hid ((P1.set jb (barP (sj : Int))).length = 6) := by show _ = _; rw [List.length_set]; exact uh HL1
     have HX2 : Hid (∀ i, ((P1.set jb (barP (sj : Int))).getD i zPV).x.length ≤ 100000) := fun i => by
      rw [set_getD11 hj6']
      split
      ·simp [barP]
      exact uh HX1 i
     have HB2 := hide (below10_setCells Gp (barP (sj : Int)).cs (jb * 2) _ (uh HB) (uh HP1).le)
     clear hj6'
     go_wp2_with fail
     refine (uh HWj _).mono ?_
     rintro e wx ⟨rfl, hwx⟩
     rw [hwx]
     clear hwx wx
     by_cases hs2 : sj < 2
     ·have hs3 : (sj : Int) < 2 := by omega
      go_wp2_with ((with_reducible refine gateS 49 _ _ rfl ?_); refine wpList_store_mid rfl 49 _ _ rfl Gp (jb * 2) (barP (sj : Int)).cs.toArray rfl rfl (uh hth) sizeTP (all_oneCell_toArray (barP (sj : Int)).cs_one) ?_)
      go_roundw
      case rel => exact ⟨jb + 1, by omega, by omega, by go_num, uh HB2, _, uh HP2, uh HL2, uh HX2⟩
      case measure => simp [intOf]; omega
     have hs3 : 2 ≤ (sj : Int) := by omega
     go_wp2_with fail
     go_roundw
     case rel => exact ⟨jb + 1, by omega, by omega, by go_num, uh HB, _, uh HP1, uh HL1, uh HX1⟩
     case measure => simp [intOf]; omega
    by_cases hjb2 : jb < bn
    ·have i0 : (jb : Int) < (bn : Int) := by omega
     have i1 : 6 ≤ (jb : Int) := by omega
     go_wp2
     exact ⟨trivial, _, _, _, _, _, _, _, _, _, _, _, _, _, _, _, _, _, _, _, _, _, _, _, _, P1, rfl, uh HB, uh HP1, uh HL1, uh HX1⟩
    have i0 : (bn : Int) ≤ (jb : Int) := by omega
    go_wp2
    exact ⟨trivial, _, _, _, _, _, _, _, _, _, _, _, _, _, _, _, _, _, _, _, _, _, _, _, _, P1, rfl, uh HB, uh HP1, uh HL1, uh HX1⟩
  rintro e0 a0' wr ⟨rfl, u23, u24, u87, u88, u89, u90, u91, u92, u93, u94, u95, u96, u97, u98, u99, u100, u101, u102, u103, u104, u105, u106, u107, u108, P1, rfl, hB, hP1, hl1', hx1⟩
  have HB := hide hB
  have HP1 := hide hP1
  have HL1 := hide hl1'
  have HX1 := hide hx1
  have HTR : Hid (Below w.heap.size w wr) := (uh HT3).trans (hB.mono (uh HT3).size)
  clear hB hP1 hl1' hx1 HB30 HPB0 HPL0 HPX0
  go_wp2_with fail
  have hpg := pgs11_any _ 6 _ _ _ _ _ none 0 0 0 [] rfl (uh HLN) (by omega) (by omega) (by simp) wr ((uh HRB).below (uh HB)) (z_nilR wr)
  refine hpg.mono ?_
  clear hpg
  rintro e w25 ⟨gf2, v, Gq, rfl, hPB2, -, hk⟩
  obtain ⟨cQ, hvQ, -, -⟩ := hPB2.ex
  rw [pagesL_len] at hvQ
  subst hvQ
  have HQX : Hid (∀ i, ((pagesL A C gf2 X 6 []).getD i zPV).x.length ≤ 100000) := fun i => by
   by_cases hi : i < 6
   ·rw [pagesL_get hi, if_neg (by simp)]
    show (X.getD i []).length ≤ 100000
    rw [uh HSZ i hi]; omega
   rw [List.getD_eq_getElem?_getD, List.getElem?_eq_none (by rw [pagesL_len]; omega)]; simp [zPV]
  have ht := (uh HTR).trans (hk.mono (uh HTR).size)
  have hka : Below w25.heap.size w25 (w25.alloc (.cells #[.slice (some ⟨Gp, 0, none⟩) 6 cP, .slice ro rn rc, .slice (some ⟨Gq, 0, none⟩) 6 cQ] 40)) := (Below.refl _ _).alloc (Nat.le_refl _) _
  have hp1 := ((uh HP1).below hk).arg.below hka
  have hp2 := ((uh HRA3).below ((uh HB).trans (hk.mono (uh HB).size))).below hka
  have hp3 := hPB2.arg.below hka
  have HIN := hide (three11 hp1 hp2 hp3 (uh HX1) (uh HRX) (uh HQX) (World.alloc_heap_new w25 _))
  have HT : Hid (Below w.heap.size w (w25.alloc (.cells #[.slice (some ⟨Gp, 0, none⟩) 6 cP, .slice ro rn rc, .slice (some ⟨Gq, 0, none⟩) 6 cQ] 40))) := ht.trans (hka.mono ht.size)
  clear hPB2 hk ht hka hp1 hp2 hp3 HP1 HL1 HX1 HB HTR HQX HRA3 HRX HRB HLN HSZ HBS HT3
  go_wp2_with fail
  have hgin : w25.heap.size < (w25.alloc (.cells #[.slice (some ⟨Gp, 0, none⟩) 6 cP, .slice ro rn rc, .slice (some ⟨Gq, 0, none⟩) 6 cQ] 40)).heap.size := by simp
  generalize w25.alloc (.cells #[.slice (some ⟨Gp, 0, none⟩) 6 cP, .slice ro rn rc, .slice (some ⟨Gq, 0, none⟩) 6 cQ] 40) = w7 at HIN HT hgin ⊢
  go_loopw [26] (fun i wq => ∃ (j : Nat), j ≤ 3 ∧ i = .int .i64 j ∧ Below w7.heap.size w7 wq) (fun i _ => 3 - (intOf i).toNat)
  case atStart => exact ⟨0, by omega, rfl, Below.refl _ _⟩
  case round =>
   obtain ⟨j, hj3, rfl, hB⟩ := hrel
   have HT7 := hide ((uh HT).trans (hB.mono (uh HT).size))
   by_cases hlt : j < 3
   ·have hj3i : (j : Int) < 3 := by omega
    obtain ⟨qo, qn, qc, qg, Q, hca, hqa, hql⟩ := uh HIN j hlt
    have HIC := hide (hca.below hB)
    have HQA := hide (hqa.below hB)
    have HQL := hide hql
    have HB7 := hide hB
    clear hB hca hqa hql
    obtain ⟨se1, at1, sl1, er1, hX1⟩ : ∃ a b l e, decF (s : Int) 2 Q (M : Int) = (⟨a, b, l⟩, e) := ⟨_, _, _, _, rfl⟩
    obtain ⟨se2, at2, sl2, er2, hX2⟩ : ∃ a b l e, decF 3 2 Q 1 = (⟨a, b, l⟩, e) := ⟨_, _, _, _, rfl⟩
    have HX1 := hide hX1
    have HX2 := hide hX2
    clear hX1 hX2
    go_wp2_with fail
    refine Code.wp_mono (Q := fun e a W => e = .normal ∧ ∃ n27 so26 sc26 ge26, a = { tmps := #[.slice ao n c, .slice bo bn bc, .int .i64 a2, .int .i64 a3, .int .u8 a4, .int .i64 a5, .int .i64 a6, .slice ro rn rc, undef, undef, undef, undef, undef, undef, undef, undef, u16, .int .i64 (ja : Int), .slice (some ⟨gB, 0, none⟩) 6 cB, .int .i64 0, .slice (some ⟨Gp, 0, none⟩) 6 cP, .int .i64 (k : Int), .slice (some ⟨g17, 0, none⟩) 48 c17, u23, u24, .slice (some ⟨w25.heap.size, 0, none⟩) 3 3, .int .i64 (j : Int), .pointer (some ⟨n27, 0, none⟩), .int .i64 er1, u29, u30, u31, u32, u33, u34, .bool true, .bool false, .slice ao n c, .int .i64 (n : Int), .bool (decide (8 < (n : Int))), .bool (decide (8 < (n : Int))), .slice ro rn rc, .int .i64 (rn : Int), .bool (decide (10 < (rn : Int))), .bool (decide (8 < (n : Int)) || decide (10 < (rn : Int))), .int .i64 (ja : Int), .slice ro rn rc, .int .i64 (rn : Int), .bool false, u49, u50, u51, u52, u53, u54, u55, u56, u57, .tuple #[.slice (some ⟨gB, 0, none⟩) 6 cB, .int .i64 0], .slice ao n c, .slice sa sn sc, .tuple #[.slice (some ⟨gB, 0, none⟩) 6 cB, .int .i64 0], .slice (some ⟨gB, 0, none⟩) 6 cB, .int .i64 0, .slice (some ⟨gB, 0, none⟩) 6 cB, .slice (some ⟨Gp, 0, none⟩) 6 cP, .int .i64 a2, .int .i64 (k : Int), .slice (some ⟨w5.heap.size, 0, none⟩) 0 0, .slice (some ⟨gB, 0, none⟩) 6 cB, .int .i64 (k : Int), .pointer (some ⟨gB, k, none⟩), .slice (A k) 48 (C k), .slice (some ⟨g17, 0, none⟩) 48 c17, .slice (some ⟨g17, 0, none⟩) 48 c17, .int .i64 a3, .int .i64 (q : Int), .pointer (some ⟨g17, q, none⟩), .int .u8 (y : Int), .int .u8 a4, .int .u8 (z : Int), .pointer (some ⟨g17, q, none⟩), .slice (some ⟨Gp, 0, none⟩) 6 cP, .int .i64 (k : Int), .slice (some ⟨g17, 0, none⟩) 48 c17, .pointer (some ⟨Gp, k * 2, none⟩), .pointer (some ⟨Gp, k * 2 + 1, none⟩), u87, u88, u89, u90, u91, u92, u93, u94, u95, u96, u97, u98, u99, u100, u101, u102, u103, u104, u105, u106, u107, u108, .slice (some ⟨Gp, 0, none⟩) 6 cP, .slice ro rn rc, .slice (some ⟨gB, 0, none⟩) 6 cB, .slice (some ⟨Gq, 0, none⟩) 6 cQ, .slice (some ⟨w25.heap.size, 0, none⟩) 3 3, .int .i64 (j : Int), .bool true, u116, u117, .tuple #[.agg #[.int .i64 se1, .int .i64 at1, .slice so26 sl1.length sc26], .int .i64 er1], .int .i64 a5, .int .i64 (s : Int), .slice (some ⟨w25.heap.size, 0, none⟩) 3 3, .int .i64 (j : Int), .pointer (some ⟨w25.heap.size, j, none⟩), .slice qo qn qc, .int .i64 a6, .int .i64 (M : Int), .tuple #[.agg #[.int .i64 se1, .int .i64 at1, .slice so26 sl1.length sc26], .int .i64 er1], .agg #[.int .i64 se1, .int .i64 at1, .slice so26 sl1.length sc26], .int .i64 er1, u130, u131, u132, u133, u134, u135, u136, u137, u138, u139, u140, u141, u142, u143, u144, u145, u146, u147, u148, u149, u150, u151, u152, u153, u154, u155, u156, u157, u158, u159, u160, u161, u162, u163, u164, u165, u166, u167, u168, u169, u170, u171, u172, u173, u174, u175, u176, u177], defers := [] } ∧ RwAt W n27 se1 at1 (.slice so26 sl1.length sc26) ∧ EArg W (.slice so26 sl1.length sc26) ge26 sl1 ∧ CAt W ⟨w25.heap.size, j, none⟩ (.slice qo qn qc) ∧ PgArg W (.slice qo qn qc) qg Q ∧ Below w7.heap.size w7 W ∧ Below w.heap.size w W) ?_ ?_
    rotate_left 1
    ·replace HIC := hide ((uh HIC).below (Below.refl _ _).drew)
     replace HQA := hide ((uh HQA).below (Below.refl _ _).drew)
     replace HB7 := hide ((uh HB7).drew)
     replace HT7 := hide ((uh HT7).drew)
     refine wp_region_noPanic ?_
     refine wp_region_held_drew (S := fun V => Below wr.drew.heap.size wr.drew V) (by kernel_rfl) (Below.refl _ _) (fun hHeld => ?_)
     have HH := hide hHeld
     clear hHeld
     generalize wr.drew = wc26 at HIC HQA HB7 HT7 HH ⊢
     refine tkL 0 (uh HH) ?_
     (try simp only [layB])
     refine tkL 2 (uh HH) ?_
     (try simp only [layB])
     refine tkL 3 (uh HH) ?_
     (try simp only [layB])
     refine tkL 4 (uh HH) ?_
     (try simp only [layB])
     refine takeL (i := 5) (v := .slice qo qn qc) rfl (by kernel_rfl) (by kernel_rfl) (by kernel_rfl) (fun _ _ _ h => h) (Or.inl ⟨by rfl, ?_⟩) (uh HH) ?_
     ·intro W hSW; have hcl : W.cell? ⟨w25.heap.size, j, none⟩ = some (.slice qo qn qc) := ((uh HIC).below hSW).c; clear hSW; go_simp; all_goals (with_reducible rfl)
     (try simp only [layB])
     refine tkL 6 (uh HH) ?_
     (try simp only [layB])
     refine wpAnyH_ready (rs := [1, 12]) (by kernel_rfl) (by simp) ?_
     refine consL rfl (fun K hK => ?_) (consL rfl (fun K hK => ?_) AllReadyH.nil)
     focus
      go_simp
      refine (uh HWs _).mono ?_
      rintro e wq ⟨rfl, hwq⟩
      rw [hwq]
      clear hwq wq
      have hS := uh HH
      refine hK.out _ _ hS (fun hHeld => ?_)
      clear hK K HH hS
      have HH := hide hHeld
      clear hHeld
      (try simp only [layB])
      refine wpAnyH_ready (rs := [7, 12]) (by kernel_rfl) (by simp) ?_
      refine consL rfl (fun K hK => ?_) (consL rfl (fun K hK => ?_) AllReadyH.nil)
      focus
       go_simp
       refine (uh HWM _).mono ?_
       rintro e wq ⟨rfl, hwq⟩
       rw [hwq]
       clear hwq wq
       have hS := uh HH
       refine hK.out _ _ hS (fun hHeld => ?_)
       clear hK K HH hS
       have HH := hide hHeld
       clear hHeld
       (try simp only [layB])
       refine wpAnyH_ready (rs := [8, 12]) (by kernel_rfl) (by simp) ?_
       refine consL rfl (fun K hK => ?_) (consL rfl (fun K hK => ?_) AllReadyH.nil)
       focus
        go_simp
        refine (dec11_any (s : Int) 2 qo qn qc qg Q (M : Int) (uh HQL) _ ((uh HQA).below (uh HH))).mono ?_
        rintro e w43 ⟨hk, v, hx, sv, ge26, hv, hEA, -⟩
        rw [uh HX1] at hx hv hEA
        obtain ⟨so26, sc26, hs, -⟩ := hEA.ex
        subst hs
        subst hv
        subst hx
        have hS : Below wc26.heap.size wc26 w43 := (uh HH).trans (hk.mono (uh HH).size)
        have HEA := hide hEA
        clear hk hEA
        dsimp only
        refine hK.out _ _ hS (fun hHeld => ?_)
        clear hK K HH hS
        have HH := hide hHeld
        clear hHeld
        (try simp only [layB])
        refine tkL 9 (uh HH) ?_
        (try simp only [layB])
        refine tkL 10 (uh HH) ?_
        (try simp only [layB])
        refine tkL 11 (uh HH) ?_
        (try simp only [layB])
        refine wpAnyH_ready (rs := [12]) (by kernel_rfl) (by simp) ?_
        refine consL rfl (fun K hK => ?_) AllReadyH.nil
        go_simp
        have hk : Below w43.heap.size w43 (w43.alloc (.cells #[.int .i64 0, .int .i64 0, .slice none 0 0] 37)) := (Below.refl _ _).alloc (Nat.le_refl _) _
        have hN : RwAt (w43.alloc (.cells #[.int .i64 0, .int .i64 0, .slice none 0 0] 37)) w43.heap.size 0 0 (.slice none 0 0) := ⟨World.alloc_heap_new w43 _⟩
        have hb0 : wc26.heap.size ≤ w43.heap.size := (uh HH).size
        have hS : Below wc26.heap.size wc26 (w43.alloc (.cells #[.int .i64 0, .int .i64 0, .slice none 0 0] 37)) := (uh HH).trans (hk.mono (uh HH).size)
        generalize w43.alloc (.cells #[.int .i64 0, .int .i64 0, .slice none 0 0] 37) = w44 at hk hN hS ⊢
        replace HEA := hide ((uh HEA).below hk)
        obtain ⟨n27, hn⟩ : ∃ b, w43.heap.size = b := ⟨_, rfl⟩
        have HG : Hid (wc26.heap.size ≤ n27) := by rw [← hn]; exact hb0
        rw [hn] at hN ⊢
        have HN := hide hN
        clear hk hN hb0 hn
        refine hK.out _ _ hS (fun hHeld => ?_)
        clear hK K HH hS
        have HH := hide hHeld
        clear hHeld
        (try simp only [layB])
        refine wpAnyH_ready (rs := [13]) (by kernel_rfl) (by simp) ?_
        refine consL rfl (fun K hK => ?_) AllReadyH.nil
        refine wp_store_row (P := Tryz.prog) 37 (.tmp 27) (.tmp 128) (by rfl) n27 #[.int .i64 se1, .int .i64 at1, .slice so26 sl1.length sc26] (by rfl) (by rfl) 37 #[.int .i64 0, .int .i64 0, .slice none 0 0] (uh HN).blk (by kernel_rfl) rfl (one_row11 _ _ _ _ _) ?_
        have hS : Below wc26.heap.size wc26 (w44.setRow n27 #[.int .i64 se1, .int .i64 at1, .slice so26 sl1.length sc26]) := below_setRow11 (uh HH) (uh HG) _
        have hN : RwAt (w44.setRow n27 #[.int .i64 se1, .int .i64 at1, .slice so26 sl1.length sc26]) n27 se1 at1 (.slice so26 sl1.length sc26) := ⟨setRow_heap _ _ _ _ _ _ (uh HN).blk⟩
        have hE := (uh HEA).setRow11 (uh HN).blk (by decide) #[.int .i64 se1, .int .i64 at1, .slice so26 sl1.length sc26]
        generalize w44.setRow n27 #[.int .i64 se1, .int .i64 at1, .slice so26 sl1.length sc26] = w45 at hS hN hE ⊢
        replace HN := hide hN
        replace HEA := hide hE
        clear hN hE
        refine hK.out _ _ hS (fun hHeld => ?_)
        clear hK K HH hS
        have HH := hide hHeld
        clear hHeld
        (try simp only [Act.put])
        refine tkL 14 (uh HH) ?_
        (try simp only [layB])
        refine wpAnyH_done (by kernel_rfl) ?_ _
        refine NoPanic.normal ?_
        exact ⟨rfl, _, _, _, _, rfl, uh HN, uh HEA, (uh HIC).below (uh HH), (uh HQA).below (uh HH), (uh HB7).trans ((uh HH).mono (uh HB7).size), (uh HT7).trans ((uh HH).mono (uh HT7).size)⟩
       focus
        go_simp
        have hk : Below wc26.heap.size wc26 (wc26.alloc (.cells #[.int .i64 0, .int .i64 0, .slice none 0 0] 37)) := (Below.refl _ _).alloc (Nat.le_refl _) _
        have hN : RwAt (wc26.alloc (.cells #[.int .i64 0, .int .i64 0, .slice none 0 0] 37)) wc26.heap.size 0 0 (.slice none 0 0) := ⟨World.alloc_heap_new wc26 _⟩
        have hb0 : wc26.heap.size ≤ wc26.heap.size := (uh HH).size
        have hS : Below wc26.heap.size wc26 (wc26.alloc (.cells #[.int .i64 0, .int .i64 0, .slice none 0 0] 37)) := (uh HH).trans (hk.mono (uh HH).size)
        generalize wc26.alloc (.cells #[.int .i64 0, .int .i64 0, .slice none 0 0] 37) = w43 at hk hN hS ⊢
        obtain ⟨n27, hn⟩ : ∃ b, wc26.heap.size = b := ⟨_, rfl⟩
        have HG : Hid (wc26.heap.size ≤ n27) := by rw [← hn]; exact hb0
        rw [hn] at hN ⊢
        have HN := hide hN
        clear hk hN hb0 hn
        refine hK.out _ _ hS (fun hHeld => ?_)
        clear hK K HH hS
        have HH := hide hHeld
        clear hHeld
        (try simp only [layB])
        refine wpAnyH_ready (rs := [8]) (by kernel_rfl) (by simp) ?_
        refine consL rfl (fun K hK => ?_) AllReadyH.nil
        go_simp
        refine (dec11_any (s : Int) 2 qo qn qc qg Q (M : Int) (uh HQL) _ ((uh HQA).below (uh HH))).mono ?_
        rintro e w44 ⟨hk, v, hx, sv, ge26, hv, hEA, -⟩
        rw [uh HX1] at hx hv hEA
        obtain ⟨so26, sc26, hs, -⟩ := hEA.ex
        subst hs
        subst hv
        subst hx
        have hS : Below wc26.heap.size wc26 w44 := (uh HH).trans (hk.mono (uh HH).size)
        have HEA := hide hEA
        replace HN := hide ((uh HN).below hk)
        clear hk hEA
        dsimp only
        refine hK.out _ _ hS (fun hHeld => ?_)
        clear hK K HH hS
        have HH := hide hHeld
        clear hHeld
        (try simp only [layB])
        refine tkL 9 (uh HH) ?_
        (try simp only [layB])
        refine tkL 10 (uh HH) ?_
        (try simp only [layB])
        refine tkL 11 (uh HH) ?_
        (try simp only [layB])
        refine wpAnyH_ready (rs := [13]) (by kernel_rfl) (by simp) ?_
        refine consL rfl (fun K hK => ?_) AllReadyH.nil
        refine wp_store_row (P := Tryz.prog) 37 (.tmp 27) (.tmp 128) (by rfl) n27 #[.int .i64 se1, .int .i64 at1, .slice so26 sl1.length sc26] (by rfl) (by rfl) 37 #[.int .i64 0, .int .i64 0, .slice none 0 0] (uh HN).blk (by kernel_rfl) rfl (one_row11 _ _ _ _ _) ?_
        have hS : Below wc26.heap.size wc26 (w44.setRow n27 #[.int .i64 se1, .int .i64 at1, .slice so26 sl1.length sc26]) := below_setRow11 (uh HH) (uh HG) _
        have hN : RwAt (w44.setRow n27 #[.int .i64 se1, .int .i64 at1, .slice so26 sl1.length sc26]) n27 se1 at1 (.slice so26 sl1.length sc26) := ⟨setRow_heap _ _ _ _ _ _ (uh HN).blk⟩
        have hE := (uh HEA).setRow11 (uh HN).blk (by decide) #[.int .i64 se1, .int .i64 at1, .slice so26 sl1.length sc26]
        generalize w44.setRow n27 #[.int .i64 se1, .int .i64 at1, .slice so26 sl1.length sc26] = w45 at hS hN hE ⊢
        replace HN := hide hN
        replace HEA := hide hE
        clear hN hE
        refine hK.out _ _ hS (fun hHeld => ?_)
        clear hK K HH hS
        have HH := hide hHeld
        clear hHeld
        (try simp only [Act.put])
        refine tkL 14 (uh HH) ?_
        (try simp only [layB])
        refine wpAnyH_done (by kernel_rfl) ?_ _
        refine NoPanic.normal ?_
        exact ⟨rfl, _, _, _, _, rfl, uh HN, uh HEA, (uh HIC).below (uh HH), (uh HQA).below (uh HH), (uh HB7).trans ((uh HH).mono (uh HB7).size), (uh HT7).trans ((uh HH).mono (uh HT7).size)⟩
      focus
       go_simp
       have hk : Below wc26.heap.size wc26 (wc26.alloc (.cells #[.int .i64 0, .int .i64 0, .slice none 0 0] 37)) := (Below.refl _ _).alloc (Nat.le_refl _) _
       have hN : RwAt (wc26.alloc (.cells #[.int .i64 0, .int .i64 0, .slice none 0 0] 37)) wc26.heap.size 0 0 (.slice none 0 0) := ⟨World.alloc_heap_new wc26 _⟩
       have hb0 : wc26.heap.size ≤ wc26.heap.size := (uh HH).size
       have hS : Below wc26.heap.size wc26 (wc26.alloc (.cells #[.int .i64 0, .int .i64 0, .slice none 0 0] 37)) := (uh HH).trans (hk.mono (uh HH).size)
       generalize wc26.alloc (.cells #[.int .i64 0, .int .i64 0, .slice none 0 0] 37) = w42 at hk hN hS ⊢
       obtain ⟨n27, hn⟩ : ∃ b, wc26.heap.size = b := ⟨_, rfl⟩
       have HG : Hid (wc26.heap.size ≤ n27) := by rw [← hn]; exact hb0
       rw [hn] at hN ⊢
       have HN := hide hN
       clear hk hN hb0 hn
       refine hK.out _ _ hS (fun hHeld => ?_)
       clear hK K HH hS
       have HH := hide hHeld
       clear hHeld
       (try simp only [layB])
       refine wpAnyH_ready (rs := [7]) (by kernel_rfl) (by simp) ?_
       refine consL rfl (fun K hK => ?_) AllReadyH.nil
       go_simp
       refine (uh HWM _).mono ?_
       rintro e wq ⟨rfl, hwq⟩
       rw [hwq]
       clear hwq wq
       have hS := uh HH
       refine hK.out _ _ hS (fun hHeld => ?_)
       clear hK K HH hS
       have HH := hide hHeld
       clear hHeld
       (try simp only [layB])
       refine wpAnyH_ready (rs := [8]) (by kernel_rfl) (by simp) ?_
       refine consL rfl (fun K hK => ?_) AllReadyH.nil
       go_simp
       refine (dec11_any (s : Int) 2 qo qn qc qg Q (M : Int) (uh HQL) _ ((uh HQA).below (uh HH))).mono ?_
       rintro e w44 ⟨hk, v, hx, sv, ge26, hv, hEA, -⟩
       rw [uh HX1] at hx hv hEA
       obtain ⟨so26, sc26, hs, -⟩ := hEA.ex
       subst hs
       subst hv
       subst hx
       have hS : Below wc26.heap.size wc26 w44 := (uh HH).trans (hk.mono (uh HH).size)
       have HEA := hide hEA
       replace HN := hide ((uh HN).below hk)
       clear hk hEA
       dsimp only
       refine hK.out _ _ hS (fun hHeld => ?_)
       clear hK K HH hS
       have HH := hide hHeld
       clear hHeld
       (try simp only [layB])
       refine tkL 9 (uh HH) ?_
       (try simp only [layB])
       refine tkL 10 (uh HH) ?_
       (try simp only [layB])
       refine tkL 11 (uh HH) ?_
       (try simp only [layB])
       refine wpAnyH_ready (rs := [13]) (by kernel_rfl) (by simp) ?_
       refine consL rfl (fun K hK => ?_) AllReadyH.nil
       refine wp_store_row (P := Tryz.prog) 37 (.tmp 27) (.tmp 128) (by rfl) n27 #[.int .i64 se1, .int .i64 at1, .slice so26 sl1.length sc26] (by rfl) (by rfl) 37 #[.int .i64 0, .int .i64 0, .slice none 0 0] (uh HN).blk (by kernel_rfl) rfl (one_row11 _ _ _ _ _) ?_
       have hS : Below wc26.heap.size wc26 (w44.setRow n27 #[.int .i64 se1, .int .i64 at1, .slice so26 sl1.length sc26]) := below_setRow11 (uh HH) (uh HG) _
       have hN : RwAt (w44.setRow n27 #[.int .i64 se1, .int .i64 at1, .slice so26 sl1.length sc26]) n27 se1 at1 (.slice so26 sl1.length sc26) := ⟨setRow_heap _ _ _ _ _ _ (uh HN).blk⟩
       have hE := (uh HEA).setRow11 (uh HN).blk (by decide) #[.int .i64 se1, .int .i64 at1, .slice so26 sl1.length sc26]
       generalize w44.setRow n27 #[.int .i64 se1, .int .i64 at1, .slice so26 sl1.length sc26] = w45 at hS hN hE ⊢
       replace HN := hide hN
       replace HEA := hide hE
       clear hN hE
       refine hK.out _ _ hS (fun hHeld => ?_)
       clear hK K HH hS
       have HH := hide hHeld
       clear hHeld
       (try simp only [Act.put])
       refine tkL 14 (uh HH) ?_
       (try simp only [layB])
       refine wpAnyH_done (by kernel_rfl) ?_ _
       refine NoPanic.normal ?_
       exact ⟨rfl, _, _, _, _, rfl, uh HN, uh HEA, (uh HIC).below (uh HH), (uh HQA).below (uh HH), (uh HB7).trans ((uh HH).mono (uh HB7).size), (uh HT7).trans ((uh HH).mono (uh HT7).size)⟩
     focus
      go_simp
      have hk : Below wc26.heap.size wc26 (wc26.alloc (.cells #[.int .i64 0, .int .i64 0, .slice none 0 0] 37)) := (Below.refl _ _).alloc (Nat.le_refl _) _
      have hN : RwAt (wc26.alloc (.cells #[.int .i64 0, .int .i64 0, .slice none 0 0] 37)) wc26.heap.size 0 0 (.slice none 0 0) := ⟨World.alloc_heap_new wc26 _⟩
      have hb0 : wc26.heap.size ≤ wc26.heap.size := (uh HH).size
      have hS : Below wc26.heap.size wc26 (wc26.alloc (.cells #[.int .i64 0, .int .i64 0, .slice none 0 0] 37)) := (uh HH).trans (hk.mono (uh HH).size)
      generalize wc26.alloc (.cells #[.int .i64 0, .int .i64 0, .slice none 0 0] 37) = w41 at hk hN hS ⊢
      obtain ⟨n27, hn⟩ : ∃ b, wc26.heap.size = b := ⟨_, rfl⟩
      have HG : Hid (wc26.heap.size ≤ n27) := by rw [← hn]; exact hb0
      rw [hn] at hN ⊢
      have HN := hide hN
      clear hk hN hb0 hn
      refine hK.out _ _ hS (fun hHeld => ?_)
      clear hK K HH hS
      have HH := hide hHeld
      clear hHeld
      (try simp only [layB])
      refine wpAnyH_ready (rs := [1]) (by kernel_rfl) (by simp) ?_
      refine consL rfl (fun K hK => ?_) AllReadyH.nil
      go_simp
      refine (uh HWs _).mono ?_
      rintro e wq ⟨rfl, hwq⟩
      rw [hwq]
      clear hwq wq
      have hS := uh HH
      refine hK.out _ _ hS (fun hHeld => ?_)
      clear hK K HH hS
      have HH := hide hHeld
      clear hHeld
      (try simp only [layB])
      refine wpAnyH_ready (rs := [7]) (by kernel_rfl) (by simp) ?_
      refine consL rfl (fun K hK => ?_) AllReadyH.nil
      go_simp
      refine (uh HWM _).mono ?_
      rintro e wq ⟨rfl, hwq⟩
      rw [hwq]
      clear hwq wq
      have hS := uh HH
      refine hK.out _ _ hS (fun hHeld => ?_)
      clear hK K HH hS
      have HH := hide hHeld
      clear hHeld
      (try simp only [layB])
      refine wpAnyH_ready (rs := [8]) (by kernel_rfl) (by simp) ?_
      refine consL rfl (fun K hK => ?_) AllReadyH.nil
      go_simp
      refine (dec11_any (s : Int) 2 qo qn qc qg Q (M : Int) (uh HQL) _ ((uh HQA).below (uh HH))).mono ?_
      rintro e w44 ⟨hk, v, hx, sv, ge26, hv, hEA, -⟩
      rw [uh HX1] at hx hv hEA
      obtain ⟨so26, sc26, hs, -⟩ := hEA.ex
      subst hs
      subst hv
      subst hx
      have hS : Below wc26.heap.size wc26 w44 := (uh HH).trans (hk.mono (uh HH).size)
      have HEA := hide hEA
      replace HN := hide ((uh HN).below hk)
      clear hk hEA
      dsimp only
      refine hK.out _ _ hS (fun hHeld => ?_)
      clear hK K HH hS
      have HH := hide hHeld
      clear hHeld
      (try simp only [layB])
      refine tkL 9 (uh HH) ?_
      (try simp only [layB])
      refine tkL 10 (uh HH) ?_
      (try simp only [layB])
      refine tkL 11 (uh HH) ?_
      (try simp only [layB])
      refine wpAnyH_ready (rs := [13]) (by kernel_rfl) (by simp) ?_
      refine consL rfl (fun K hK => ?_) AllReadyH.nil
      refine wp_store_row (P := Tryz.prog) 37 (.tmp 27) (.tmp 128) (by rfl) n27 #[.int .i64 se1, .int .i64 at1, .slice so26 sl1.length sc26] (by rfl) (by rfl) 37 #[.int .i64 0, .int .i64 0, .slice none 0 0] (uh HN).blk (by kernel_rfl) rfl (one_row11 _ _ _ _ _) ?_
      have hS : Below wc26.heap.size wc26 (w44.setRow n27 #[.int .i64 se1, .int .i64 at1, .slice so26 sl1.length sc26]) := below_setRow11 (uh HH) (uh HG) _
      have hN : RwAt (w44.setRow n27 #[.int .i64 se1, .int .i64 at1, .slice so26 sl1.length sc26]) n27 se1 at1 (.slice so26 sl1.length sc26) := ⟨setRow_heap _ _ _ _ _ _ (uh HN).blk⟩
      have hE := (uh HEA).setRow11 (uh HN).blk (by decide) #[.int .i64 se1, .int .i64 at1, .slice so26 sl1.length sc26]
      generalize w44.setRow n27 #[.int .i64 se1, .int .i64 at1, .slice so26 sl1.length sc26] = w45 at hS hN hE ⊢
      replace HN := hide hN
      replace HEA := hide hE
      clear hN hE
      refine hK.out _ _ hS (fun hHeld => ?_)
      clear hK K HH hS
      have HH := hide hHeld
      clear hHeld
      (try simp only [Act.put])
      refine tkL 14 (uh HH) ?_
      (try simp only [layB])
      refine wpAnyH_done (by kernel_rfl) ?_ _
      refine NoPanic.normal ?_
      exact ⟨rfl, _, _, _, _, rfl, uh HN, uh HEA, (uh HIC).below (uh HH), (uh HQA).below (uh HH), (uh HB7).trans ((uh HH).mono (uh HB7).size), (uh HT7).trans ((uh HH).mono (uh HT7).size)⟩
    rintro e0 a0' W26 ⟨rfl, n27, so26, sc26, ge26, rfl, hr, he, k0, k1, k2, k3⟩
    clear HIC HQA HB7 HT7
    have HR27 := hide hr
    have HE27 := hide he
    have HIC := hide k0
    have HQA := hide k1
    have HB7 := hide k2
    have HT7 := hide k3
    clear hr he k0 k1 k2 k3
    go_wp2_with fail
    refine Code.wp_mono (Q := fun e a W => e = .normal ∧ ∃ n29 so27 sc27 ge27, a = { tmps := #[.slice ao n c, .slice bo bn bc, .int .i64 a2, .int .i64 a3, .int .u8 a4, .int .i64 a5, .int .i64 a6, .slice ro rn rc, undef, undef, undef, undef, undef, undef, undef, undef, u16, .int .i64 (ja : Int), .slice (some ⟨gB, 0, none⟩) 6 cB, .int .i64 0, .slice (some ⟨Gp, 0, none⟩) 6 cP, .int .i64 (k : Int), .slice (some ⟨g17, 0, none⟩) 48 c17, u23, u24, .slice (some ⟨w25.heap.size, 0, none⟩) 3 3, .int .i64 (j : Int), .pointer (some ⟨n27, 0, none⟩), .int .i64 er1, .pointer (some ⟨n29, 0, none⟩), .int .i64 er1, u31, u32, u33, u34, .bool true, .bool false, .slice ao n c, .int .i64 (n : Int), .bool (decide (8 < (n : Int))), .bool (decide (8 < (n : Int))), .slice ro rn rc, .int .i64 (rn : Int), .bool (decide (10 < (rn : Int))), .bool (decide (8 < (n : Int)) || decide (10 < (rn : Int))), .int .i64 (ja : Int), .slice ro rn rc, .int .i64 (rn : Int), .bool false, u49, u50, u51, u52, u53, u54, u55, u56, u57, .tuple #[.slice (some ⟨gB, 0, none⟩) 6 cB, .int .i64 0], .slice ao n c, .slice sa sn sc, .tuple #[.slice (some ⟨gB, 0, none⟩) 6 cB, .int .i64 0], .slice (some ⟨gB, 0, none⟩) 6 cB, .int .i64 0, .slice (some ⟨gB, 0, none⟩) 6 cB, .slice (some ⟨Gp, 0, none⟩) 6 cP, .int .i64 a2, .int .i64 (k : Int), .slice (some ⟨w5.heap.size, 0, none⟩) 0 0, .slice (some ⟨gB, 0, none⟩) 6 cB, .int .i64 (k : Int), .pointer (some ⟨gB, k, none⟩), .slice (A k) 48 (C k), .slice (some ⟨g17, 0, none⟩) 48 c17, .slice (some ⟨g17, 0, none⟩) 48 c17, .int .i64 a3, .int .i64 (q : Int), .pointer (some ⟨g17, q, none⟩), .int .u8 (y : Int), .int .u8 a4, .int .u8 (z : Int), .pointer (some ⟨g17, q, none⟩), .slice (some ⟨Gp, 0, none⟩) 6 cP, .int .i64 (k : Int), .slice (some ⟨g17, 0, none⟩) 48 c17, .pointer (some ⟨Gp, k * 2, none⟩), .pointer (some ⟨Gp, k * 2 + 1, none⟩), u87, u88, u89, u90, u91, u92, u93, u94, u95, u96, u97, u98, u99, u100, u101, u102, u103, u104, u105, u106, u107, u108, .slice (some ⟨Gp, 0, none⟩) 6 cP, .slice ro rn rc, .slice (some ⟨gB, 0, none⟩) 6 cB, .slice (some ⟨Gq, 0, none⟩) 6 cQ, .slice (some ⟨w25.heap.size, 0, none⟩) 3 3, .int .i64 (j : Int), .bool true, u116, u117, .tuple #[.agg #[.int .i64 se1, .int .i64 at1, .slice so26 sl1.length sc26], .int .i64 er1], .int .i64 a5, .int .i64 (s : Int), .slice (some ⟨w25.heap.size, 0, none⟩) 3 3, .int .i64 (j : Int), .pointer (some ⟨w25.heap.size, j, none⟩), .slice qo qn qc, .int .i64 a6, .int .i64 (M : Int), .tuple #[.agg #[.int .i64 se1, .int .i64 at1, .slice so26 sl1.length sc26], .int .i64 er1], .agg #[.int .i64 se1, .int .i64 at1, .slice so26 sl1.length sc26], .int .i64 er1, .tuple #[.agg #[.int .i64 se1, .int .i64 at1, .slice so27 sl1.length sc27], .int .i64 er1], .int .i64 a5, .int .i64 (s : Int), .slice (some ⟨w25.heap.size, 0, none⟩) 3 3, .int .i64 (j : Int), .pointer (some ⟨w25.heap.size, j, none⟩), .slice qo qn qc, .int .i64 a6, .int .i64 (M : Int), .tuple #[.agg #[.int .i64 se1, .int .i64 at1, .slice so27 sl1.length sc27], .int .i64 er1], .agg #[.int .i64 se1, .int .i64 at1, .slice so27 sl1.length sc27], .int .i64 er1, u142, u143, u144, u145, u146, u147, u148, u149, u150, u151, u152, u153, u154, u155, u156, u157, u158, u159, u160, u161, u162, u163, u164, u165, u166, u167, u168, u169, u170, u171, u172, u173, u174, u175, u176, u177], defers := [] } ∧ RwAt W n29 se1 at1 (.slice so27 sl1.length sc27) ∧ EArg W (.slice so27 sl1.length sc27) ge27 sl1 ∧ CAt W ⟨w25.heap.size, j, none⟩ (.slice qo qn qc) ∧ PgArg W (.slice qo qn qc) qg Q ∧ Below w7.heap.size w7 W ∧ Below w.heap.size w W ∧ RwAt W n27 se1 at1 (.slice so26 sl1.length sc26) ∧ EArg W (.slice so26 sl1.length sc26) ge26 sl1) ?_ ?_
    rotate_left 1
    ·replace HIC := hide ((uh HIC).below (Below.refl _ _).drew)
     replace HQA := hide ((uh HQA).below (Below.refl _ _).drew)
     replace HB7 := hide ((uh HB7).drew)
     replace HT7 := hide ((uh HT7).drew)
     replace HR27 := hide ((uh HR27).below (Below.refl _ _).drew)
     replace HE27 := hide ((uh HE27).below (Below.refl _ _).drew)
     refine wp_region_noPanic ?_
     refine wp_region_held_drew (S := fun V => Below W26.drew.heap.size W26.drew V) (by kernel_rfl) (Below.refl _ _) (fun hHeld => ?_)
     have HH := hide hHeld
     clear hHeld
     generalize W26.drew = wc27 at HIC HQA HB7 HT7 HR27 HE27 HH ⊢
     refine tkL 0 (uh HH) ?_
     (try simp only [layB])
     refine tkL 2 (uh HH) ?_
     (try simp only [layB])
     refine tkL 3 (uh HH) ?_
     (try simp only [layB])
     refine tkL 4 (uh HH) ?_
     (try simp only [layB])
     refine takeL (i := 5) (v := .slice qo qn qc) rfl (by kernel_rfl) (by kernel_rfl) (by kernel_rfl) (fun _ _ _ h => h) (Or.inl ⟨by rfl, ?_⟩) (uh HH) ?_
     ·intro W hSW; have hcl : W.cell? ⟨w25.heap.size, j, none⟩ = some (.slice qo qn qc) := ((uh HIC).below hSW).c; clear hSW; go_simp; all_goals (with_reducible rfl)
     (try simp only [layB])
     refine tkL 6 (uh HH) ?_
     (try simp only [layB])
     refine wpAnyH_ready (rs := [1, 12]) (by kernel_rfl) (by simp) ?_
     refine consL rfl (fun K hK => ?_) (consL rfl (fun K hK => ?_) AllReadyH.nil)
     focus
      go_simp
      refine (uh HWs _).mono ?_
      rintro e wq ⟨rfl, hwq⟩
      rw [hwq]
      clear hwq wq
      have hS := uh HH
      refine hK.out _ _ hS (fun hHeld => ?_)
      clear hK K HH hS
      have HH := hide hHeld
      clear hHeld
      (try simp only [layB])
      refine wpAnyH_ready (rs := [7, 12]) (by kernel_rfl) (by simp) ?_
      refine consL rfl (fun K hK => ?_) (consL rfl (fun K hK => ?_) AllReadyH.nil)
      focus
       go_simp
       refine (uh HWM _).mono ?_
       rintro e wq ⟨rfl, hwq⟩
       rw [hwq]
       clear hwq wq
       have hS := uh HH
       refine hK.out _ _ hS (fun hHeld => ?_)
       clear hK K HH hS
       have HH := hide hHeld
       clear hHeld
       (try simp only [layB])
       refine wpAnyH_ready (rs := [8, 12]) (by kernel_rfl) (by simp) ?_
       refine consL rfl (fun K hK => ?_) (consL rfl (fun K hK => ?_) AllReadyH.nil)
       focus
        go_simp
        refine (rdec11_any (s : Int) 2 qo qn qc qg Q (M : Int) (uh HQL) _ ((uh HQA).below (uh HH))).mono ?_
        rintro e w63 ⟨hk, v, hx, sv, ge27, hv, hEA, -⟩
        rw [uh HX1] at hx hv hEA
        obtain ⟨so27, sc27, hs, -⟩ := hEA.ex
        subst hs
        subst hv
        subst hx
        have hS : Below wc27.heap.size wc27 w63 := (uh HH).trans (hk.mono (uh HH).size)
        have HEA := hide hEA
        clear hk hEA
        dsimp only
        refine hK.out _ _ hS (fun hHeld => ?_)
        clear hK K HH hS
        have HH := hide hHeld
        clear hHeld
        (try simp only [layB])
        refine tkL 9 (uh HH) ?_
        (try simp only [layB])
        refine tkL 10 (uh HH) ?_
        (try simp only [layB])
        refine tkL 11 (uh HH) ?_
        (try simp only [layB])
        refine wpAnyH_ready (rs := [12]) (by kernel_rfl) (by simp) ?_
        refine consL rfl (fun K hK => ?_) AllReadyH.nil
        go_simp
        have hk : Below w63.heap.size w63 (w63.alloc (.cells #[.int .i64 0, .int .i64 0, .slice none 0 0] 37)) := (Below.refl _ _).alloc (Nat.le_refl _) _
        have hN : RwAt (w63.alloc (.cells #[.int .i64 0, .int .i64 0, .slice none 0 0] 37)) w63.heap.size 0 0 (.slice none 0 0) := ⟨World.alloc_heap_new w63 _⟩
        have hb0 : wc27.heap.size ≤ w63.heap.size := (uh HH).size
        have hS : Below wc27.heap.size wc27 (w63.alloc (.cells #[.int .i64 0, .int .i64 0, .slice none 0 0] 37)) := (uh HH).trans (hk.mono (uh HH).size)
        generalize w63.alloc (.cells #[.int .i64 0, .int .i64 0, .slice none 0 0] 37) = w64 at hk hN hS ⊢
        replace HEA := hide ((uh HEA).below hk)
        obtain ⟨n29, hn⟩ : ∃ b, w63.heap.size = b := ⟨_, rfl⟩
        have HG : Hid (wc27.heap.size ≤ n29) := by rw [← hn]; exact hb0
        rw [hn] at hN ⊢
        have HN := hide hN
        clear hk hN hb0 hn
        refine hK.out _ _ hS (fun hHeld => ?_)
        clear hK K HH hS
        have HH := hide hHeld
        clear hHeld
        (try simp only [layB])
        refine wpAnyH_ready (rs := [13]) (by kernel_rfl) (by simp) ?_
        refine consL rfl (fun K hK => ?_) AllReadyH.nil
        refine wp_store_row (P := Tryz.prog) 37 (.tmp 29) (.tmp 140) (by rfl) n29 #[.int .i64 se1, .int .i64 at1, .slice so27 sl1.length sc27] (by rfl) (by rfl) 37 #[.int .i64 0, .int .i64 0, .slice none 0 0] (uh HN).blk (by kernel_rfl) rfl (one_row11 _ _ _ _ _) ?_
        have hS : Below wc27.heap.size wc27 (w64.setRow n29 #[.int .i64 se1, .int .i64 at1, .slice so27 sl1.length sc27]) := below_setRow11 (uh HH) (uh HG) _
        have hN : RwAt (w64.setRow n29 #[.int .i64 se1, .int .i64 at1, .slice so27 sl1.length sc27]) n29 se1 at1 (.slice so27 sl1.length sc27) := ⟨setRow_heap _ _ _ _ _ _ (uh HN).blk⟩
        have hE := (uh HEA).setRow11 (uh HN).blk (by decide) #[.int .i64 se1, .int .i64 at1, .slice so27 sl1.length sc27]
        generalize w64.setRow n29 #[.int .i64 se1, .int .i64 at1, .slice so27 sl1.length sc27] = w65 at hS hN hE ⊢
        replace HN := hide hN
        replace HEA := hide hE
        clear hN hE
        refine hK.out _ _ hS (fun hHeld => ?_)
        clear hK K HH hS
        have HH := hide hHeld
        clear hHeld
        (try simp only [Act.put])
        refine tkL 14 (uh HH) ?_
        (try simp only [layB])
        refine wpAnyH_done (by kernel_rfl) ?_ _
        refine NoPanic.normal ?_
        exact ⟨rfl, _, _, _, _, rfl, uh HN, uh HEA, (uh HIC).below (uh HH), (uh HQA).below (uh HH), (uh HB7).trans ((uh HH).mono (uh HB7).size), (uh HT7).trans ((uh HH).mono (uh HT7).size), (uh HR27).below (uh HH), (uh HE27).below (uh HH)⟩
       focus
        go_simp
        have hk : Below wc27.heap.size wc27 (wc27.alloc (.cells #[.int .i64 0, .int .i64 0, .slice none 0 0] 37)) := (Below.refl _ _).alloc (Nat.le_refl _) _
        have hN : RwAt (wc27.alloc (.cells #[.int .i64 0, .int .i64 0, .slice none 0 0] 37)) wc27.heap.size 0 0 (.slice none 0 0) := ⟨World.alloc_heap_new wc27 _⟩
        have hb0 : wc27.heap.size ≤ wc27.heap.size := (uh HH).size
        have hS : Below wc27.heap.size wc27 (wc27.alloc (.cells #[.int .i64 0, .int .i64 0, .slice none 0 0] 37)) := (uh HH).trans (hk.mono (uh HH).size)
        generalize wc27.alloc (.cells #[.int .i64 0, .int .i64 0, .slice none 0 0] 37) = w63 at hk hN hS ⊢
        obtain ⟨n29, hn⟩ : ∃ b, wc27.heap.size = b := ⟨_, rfl⟩
        have HG : Hid (wc27.heap.size ≤ n29) := by rw [← hn]; exact hb0
        rw [hn] at hN ⊢
        have HN := hide hN
        clear hk hN hb0 hn
        refine hK.out _ _ hS (fun hHeld => ?_)
        clear hK K HH hS
        have HH := hide hHeld
        clear hHeld
        (try simp only [layB])
        refine wpAnyH_ready (rs := [8]) (by kernel_rfl) (by simp) ?_
        refine consL rfl (fun K hK => ?_) AllReadyH.nil
        go_simp
        refine (rdec11_any (s : Int) 2 qo qn qc qg Q (M : Int) (uh HQL) _ ((uh HQA).below (uh HH))).mono ?_
        rintro e w64 ⟨hk, v, hx, sv, ge27, hv, hEA, -⟩
        rw [uh HX1] at hx hv hEA
        obtain ⟨so27, sc27, hs, -⟩ := hEA.ex
        subst hs
        subst hv
        subst hx
        have hS : Below wc27.heap.size wc27 w64 := (uh HH).trans (hk.mono (uh HH).size)
        have HEA := hide hEA
        replace HN := hide ((uh HN).below hk)
        clear hk hEA
        dsimp only
        refine hK.out _ _ hS (fun hHeld => ?_)
        clear hK K HH hS
        have HH := hide hHeld
        clear hHeld
        (try simp only [layB])
        refine tkL 9 (uh HH) ?_
        (try simp only [layB])
        refine tkL 10 (uh HH) ?_
        (try simp only [layB])
        refine tkL 11 (uh HH) ?_
        (try simp only [layB])
        refine wpAnyH_ready (rs := [13]) (by kernel_rfl) (by simp) ?_
        refine consL rfl (fun K hK => ?_) AllReadyH.nil
        refine wp_store_row (P := Tryz.prog) 37 (.tmp 29) (.tmp 140) (by rfl) n29 #[.int .i64 se1, .int .i64 at1, .slice so27 sl1.length sc27] (by rfl) (by rfl) 37 #[.int .i64 0, .int .i64 0, .slice none 0 0] (uh HN).blk (by kernel_rfl) rfl (one_row11 _ _ _ _ _) ?_
        have hS : Below wc27.heap.size wc27 (w64.setRow n29 #[.int .i64 se1, .int .i64 at1, .slice so27 sl1.length sc27]) := below_setRow11 (uh HH) (uh HG) _
        have hN : RwAt (w64.setRow n29 #[.int .i64 se1, .int .i64 at1, .slice so27 sl1.length sc27]) n29 se1 at1 (.slice so27 sl1.length sc27) := ⟨setRow_heap _ _ _ _ _ _ (uh HN).blk⟩
        have hE := (uh HEA).setRow11 (uh HN).blk (by decide) #[.int .i64 se1, .int .i64 at1, .slice so27 sl1.length sc27]
        generalize w64.setRow n29 #[.int .i64 se1, .int .i64 at1, .slice so27 sl1.length sc27] = w65 at hS hN hE ⊢
        replace HN := hide hN
        replace HEA := hide hE
        clear hN hE
        refine hK.out _ _ hS (fun hHeld => ?_)
        clear hK K HH hS
        have HH := hide hHeld
        clear hHeld
        (try simp only [Act.put])
        refine tkL 14 (uh HH) ?_
        (try simp only [layB])
        refine wpAnyH_done (by kernel_rfl) ?_ _
        refine NoPanic.normal ?_
        exact ⟨rfl, _, _, _, _, rfl, uh HN, uh HEA, (uh HIC).below (uh HH), (uh HQA).below (uh HH), (uh HB7).trans ((uh HH).mono (uh HB7).size), (uh HT7).trans ((uh HH).mono (uh HT7).size), (uh HR27).below (uh HH), (uh HE27).below (uh HH)⟩
      focus
       go_simp
       have hk : Below wc27.heap.size wc27 (wc27.alloc (.cells #[.int .i64 0, .int .i64 0, .slice none 0 0] 37)) := (Below.refl _ _).alloc (Nat.le_refl _) _
       have hN : RwAt (wc27.alloc (.cells #[.int .i64 0, .int .i64 0, .slice none 0 0] 37)) wc27.heap.size 0 0 (.slice none 0 0) := ⟨World.alloc_heap_new wc27 _⟩
       have hb0 : wc27.heap.size ≤ wc27.heap.size := (uh HH).size
       have hS : Below wc27.heap.size wc27 (wc27.alloc (.cells #[.int .i64 0, .int .i64 0, .slice none 0 0] 37)) := (uh HH).trans (hk.mono (uh HH).size)
       generalize wc27.alloc (.cells #[.int .i64 0, .int .i64 0, .slice none 0 0] 37) = w62 at hk hN hS ⊢
       obtain ⟨n29, hn⟩ : ∃ b, wc27.heap.size = b := ⟨_, rfl⟩
       have HG : Hid (wc27.heap.size ≤ n29) := by rw [← hn]; exact hb0
       rw [hn] at hN ⊢
       have HN := hide hN
       clear hk hN hb0 hn
       refine hK.out _ _ hS (fun hHeld => ?_)
       clear hK K HH hS
       have HH := hide hHeld
       clear hHeld
       (try simp only [layB])
       refine wpAnyH_ready (rs := [7]) (by kernel_rfl) (by simp) ?_
       refine consL rfl (fun K hK => ?_) AllReadyH.nil
       go_simp
       refine (uh HWM _).mono ?_
       rintro e wq ⟨rfl, hwq⟩
       rw [hwq]
       clear hwq wq
       have hS := uh HH
       refine hK.out _ _ hS (fun hHeld => ?_)
       clear hK K HH hS
       have HH := hide hHeld
       clear hHeld
       (try simp only [layB])
       refine wpAnyH_ready (rs := [8]) (by kernel_rfl) (by simp) ?_
       refine consL rfl (fun K hK => ?_) AllReadyH.nil
       go_simp
       refine (rdec11_any (s : Int) 2 qo qn qc qg Q (M : Int) (uh HQL) _ ((uh HQA).below (uh HH))).mono ?_
       rintro e w64 ⟨hk, v, hx, sv, ge27, hv, hEA, -⟩
       rw [uh HX1] at hx hv hEA
       obtain ⟨so27, sc27, hs, -⟩ := hEA.ex
       subst hs
       subst hv
       subst hx
       have hS : Below wc27.heap.size wc27 w64 := (uh HH).trans (hk.mono (uh HH).size)
       have HEA := hide hEA
       replace HN := hide ((uh HN).below hk)
       clear hk hEA
       dsimp only
       refine hK.out _ _ hS (fun hHeld => ?_)
       clear hK K HH hS
       have HH := hide hHeld
       clear hHeld
       (try simp only [layB])
       refine tkL 9 (uh HH) ?_
       (try simp only [layB])
       refine tkL 10 (uh HH) ?_
       (try simp only [layB])
       refine tkL 11 (uh HH) ?_
       (try simp only [layB])
       refine wpAnyH_ready (rs := [13]) (by kernel_rfl) (by simp) ?_
       refine consL rfl (fun K hK => ?_) AllReadyH.nil
       refine wp_store_row (P := Tryz.prog) 37 (.tmp 29) (.tmp 140) (by rfl) n29 #[.int .i64 se1, .int .i64 at1, .slice so27 sl1.length sc27] (by rfl) (by rfl) 37 #[.int .i64 0, .int .i64 0, .slice none 0 0] (uh HN).blk (by kernel_rfl) rfl (one_row11 _ _ _ _ _) ?_
       have hS : Below wc27.heap.size wc27 (w64.setRow n29 #[.int .i64 se1, .int .i64 at1, .slice so27 sl1.length sc27]) := below_setRow11 (uh HH) (uh HG) _
       have hN : RwAt (w64.setRow n29 #[.int .i64 se1, .int .i64 at1, .slice so27 sl1.length sc27]) n29 se1 at1 (.slice so27 sl1.length sc27) := ⟨setRow_heap _ _ _ _ _ _ (uh HN).blk⟩
       have hE := (uh HEA).setRow11 (uh HN).blk (by decide) #[.int .i64 se1, .int .i64 at1, .slice so27 sl1.length sc27]
       generalize w64.setRow n29 #[.int .i64 se1, .int .i64 at1, .slice so27 sl1.length sc27] = w65 at hS hN hE ⊢
       replace HN := hide hN
       replace HEA := hide hE
       clear hN hE
       refine hK.out _ _ hS (fun hHeld => ?_)
       clear hK K HH hS
       have HH := hide hHeld
       clear hHeld
       (try simp only [Act.put])
       refine tkL 14 (uh HH) ?_
       (try simp only [layB])
       refine wpAnyH_done (by kernel_rfl) ?_ _
       refine NoPanic.normal ?_
       exact ⟨rfl, _, _, _, _, rfl, uh HN, uh HEA, (uh HIC).below (uh HH), (uh HQA).below (uh HH), (uh HB7).trans ((uh HH).mono (uh HB7).size), (uh HT7).trans ((uh HH).mono (uh HT7).size), (uh HR27).below (uh HH), (uh HE27).below (uh HH)⟩
     focus
      go_simp
      have hk : Below wc27.heap.size wc27 (wc27.alloc (.cells #[.int .i64 0, .int .i64 0, .slice none 0 0] 37)) := (Below.refl _ _).alloc (Nat.le_refl _) _
      have hN : RwAt (wc27.alloc (.cells #[.int .i64 0, .int .i64 0, .slice none 0 0] 37)) wc27.heap.size 0 0 (.slice none 0 0) := ⟨World.alloc_heap_new wc27 _⟩
      have hb0 : wc27.heap.size ≤ wc27.heap.size := (uh HH).size
      have hS : Below wc27.heap.size wc27 (wc27.alloc (.cells #[.int .i64 0, .int .i64 0, .slice none 0 0] 37)) := (uh HH).trans (hk.mono (uh HH).size)
      generalize wc27.alloc (.cells #[.int .i64 0, .int .i64 0, .slice none 0 0] 37) = w61 at hk hN hS ⊢
      obtain ⟨n29, hn⟩ : ∃ b, wc27.heap.size = b := ⟨_, rfl⟩
      have HG : Hid (wc27.heap.size ≤ n29) := by rw [← hn]; exact hb0
      rw [hn] at hN ⊢
      have HN := hide hN
      clear hk hN hb0 hn
      refine hK.out _ _ hS (fun hHeld => ?_)
      clear hK K HH hS
      have HH := hide hHeld
      clear hHeld
      (try simp only [layB])
      refine wpAnyH_ready (rs := [1]) (by kernel_rfl) (by simp) ?_
      refine consL rfl (fun K hK => ?_) AllReadyH.nil
      go_simp
      refine (uh HWs _).mono ?_
      rintro e wq ⟨rfl, hwq⟩
      rw [hwq]
      clear hwq wq
      have hS := uh HH
      refine hK.out _ _ hS (fun hHeld => ?_)
      clear hK K HH hS
      have HH := hide hHeld
      clear hHeld
      (try simp only [layB])
      refine wpAnyH_ready (rs := [7]) (by kernel_rfl) (by simp) ?_
      refine consL rfl (fun K hK => ?_) AllReadyH.nil
      go_simp
      refine (uh HWM _).mono ?_
      rintro e wq ⟨rfl, hwq⟩
      rw [hwq]
      clear hwq wq
      have hS := uh HH
      refine hK.out _ _ hS (fun hHeld => ?_)
      clear hK K HH hS
      have HH := hide hHeld
      clear hHeld
      (try simp only [layB])
      refine wpAnyH_ready (rs := [8]) (by kernel_rfl) (by simp) ?_
      refine consL rfl (fun K hK => ?_) AllReadyH.nil
      go_simp
      refine (rdec11_any (s : Int) 2 qo qn qc qg Q (M : Int) (uh HQL) _ ((uh HQA).below (uh HH))).mono ?_
      rintro e w64 ⟨hk, v, hx, sv, ge27, hv, hEA, -⟩
      rw [uh HX1] at hx hv hEA
      obtain ⟨so27, sc27, hs, -⟩ := hEA.ex
      subst hs
      subst hv
      subst hx
      have hS : Below wc27.heap.size wc27 w64 := (uh HH).trans (hk.mono (uh HH).size)
      have HEA := hide hEA
      replace HN := hide ((uh HN).below hk)
      clear hk hEA
      dsimp only
      refine hK.out _ _ hS (fun hHeld => ?_)
      clear hK K HH hS
      have HH := hide hHeld
      clear hHeld
      (try simp only [layB])
      refine tkL 9 (uh HH) ?_
      (try simp only [layB])
      refine tkL 10 (uh HH) ?_
      (try simp only [layB])
      refine tkL 11 (uh HH) ?_
      (try simp only [layB])
      refine wpAnyH_ready (rs := [13]) (by kernel_rfl) (by simp) ?_
      refine consL rfl (fun K hK => ?_) AllReadyH.nil
      refine wp_store_row (P := Tryz.prog) 37 (.tmp 29) (.tmp 140) (by rfl) n29 #[.int .i64 se1, .int .i64 at1, .slice so27 sl1.length sc27] (by rfl) (by rfl) 37 #[.int .i64 0, .int .i64 0, .slice none 0 0] (uh HN).blk (by kernel_rfl) rfl (one_row11 _ _ _ _ _) ?_
      have hS : Below wc27.heap.size wc27 (w64.setRow n29 #[.int .i64 se1, .int .i64 at1, .slice so27 sl1.length sc27]) := below_setRow11 (uh HH) (uh HG) _
      have hN : RwAt (w64.setRow n29 #[.int .i64 se1, .int .i64 at1, .slice so27 sl1.length sc27]) n29 se1 at1 (.slice so27 sl1.length sc27) := ⟨setRow_heap _ _ _ _ _ _ (uh HN).blk⟩
      have hE := (uh HEA).setRow11 (uh HN).blk (by decide) #[.int .i64 se1, .int .i64 at1, .slice so27 sl1.length sc27]
      generalize w64.setRow n29 #[.int .i64 se1, .int .i64 at1, .slice so27 sl1.length sc27] = w65 at hS hN hE ⊢
      replace HN := hide hN
      replace HEA := hide hE
      clear hN hE
      refine hK.out _ _ hS (fun hHeld => ?_)
      clear hK K HH hS
      have HH := hide hHeld
      clear hHeld
      (try simp only [Act.put])
      refine tkL 14 (uh HH) ?_
      (try simp only [layB])
      refine wpAnyH_done (by kernel_rfl) ?_ _
      refine NoPanic.normal ?_
      exact ⟨rfl, _, _, _, _, rfl, uh HN, uh HEA, (uh HIC).below (uh HH), (uh HQA).below (uh HH), (uh HB7).trans ((uh HH).mono (uh HB7).size), (uh HT7).trans ((uh HH).mono (uh HT7).size), (uh HR27).below (uh HH), (uh HE27).below (uh HH)⟩
    rintro e0 a0' W29 ⟨rfl, n29, so27, sc27, ge27, rfl, hr, he, k0, k1, k2, k3, k4, k5⟩
    clear HIC HQA HB7 HT7 HR27 HE27
    have HR29 := hide hr
    have HE29 := hide he
    have HIC := hide k0
    have HQA := hide k1
    have HB7 := hide k2
    have HT7 := hide k3
    have HR27 := hide k4
    have HE27 := hide k5
    clear hr he k0 k1 k2 k3 k4 k5
    have hic := (uh HIC).c
    go_wp2_with fail
    clear hic
    refine (dec11_any 3 2 qo qn qc qg Q 1 (uh HQL) _ (uh HQA)).mono ?_
    rintro e w28 ⟨hk, v, hx, sv, ge28, hv, hEA, -⟩
    rw [uh HX2] at hx hv hEA
    obtain ⟨so28, sc28, hs, -⟩ := hEA.ex
    subst hs
    subst hv
    subst hx
    have HE31 := hide hEA
    replace HIC := hide ((uh HIC).below hk)
    replace HQA := hide ((uh HQA).below hk)
    replace HR27 := hide ((uh HR27).below hk)
    replace HE27 := hide ((uh HE27).below hk)
    replace HR29 := hide ((uh HR29).below hk)
    replace HE29 := hide ((uh HE29).below hk)
    replace HB7 := hide ((uh HB7).trans (hk.mono (uh HB7).size))
    replace HT7 := hide ((uh HT7).trans (hk.mono (uh HT7).size))
    clear hk hEA
    dsimp only
    have hk : Below w28.heap.size w28 (w28.alloc (.cells #[.int .i64 se2, .int .i64 at2, .slice so28 sl2.length sc28] 37)) := (Below.refl _ w28).alloc (Nat.le_refl _) _
    have HR31 : Hid (RwAt (w28.alloc (.cells #[.int .i64 se2, .int .i64 at2, .slice so28 sl2.length sc28] 37)) w28.heap.size se2 at2 (.slice so28 sl2.length sc28)) := ⟨World.alloc_heap_new w28 _⟩
    replace HIC := hide ((uh HIC).below hk)
    replace HQA := hide ((uh HQA).below hk)
    replace HR27 := hide ((uh HR27).below hk)
    replace HE27 := hide ((uh HE27).below hk)
    replace HR29 := hide ((uh HR29).below hk)
    replace HE29 := hide ((uh HE29).below hk)
    replace HE31 := hide ((uh HE31).below hk)
    replace HB7 := hide ((uh HB7).trans (hk.mono (uh HB7).size))
    replace HT7 := hide ((uh HT7).trans (hk.mono (uh HT7).size))
    have hic := (uh HIC).c
    clear hk
    go_wp2_with fail
    clear hic
    generalize (w28.alloc (.cells #[.int .i64 se2, .int .i64 at2, .slice so28 sl2.length sc28] 37)) = wb28 at HIC HQA HR27 HE27 HR29 HE29 HE31 HR31 HB7 HT7 ⊢
    refine (rdec11_any 3 2 qo qn qc qg Q 1 (uh HQL) _ (uh HQA)).mono ?_
    rintro e w29 ⟨hk, v, hx, sv, ge29, hv, hEA, -⟩
    rw [uh HX2] at hx hv hEA
    obtain ⟨so29, sc29, hs, -⟩ := hEA.ex
    subst hs
    subst hv
    subst hx
    have HE33 := hide hEA
    replace HIC := hide ((uh HIC).below hk)
    replace HQA := hide ((uh HQA).below hk)
    replace HR27 := hide ((uh HR27).below hk)
    replace HE27 := hide ((uh HE27).below hk)
    replace HR29 := hide ((uh HR29).below hk)
    replace HE29 := hide ((uh HE29).below hk)
    replace HE31 := hide ((uh HE31).below hk)
    replace HR31 := hide ((uh HR31).below hk)
    replace HB7 := hide ((uh HB7).trans (hk.mono (uh HB7).size))
    replace HT7 := hide ((uh HT7).trans (hk.mono (uh HT7).size))
    clear hk hEA
    dsimp only
    have hk : Below w29.heap.size w29 (w29.alloc (.cells #[.int .i64 se2, .int .i64 at2, .slice so29 sl2.length sc29] 37)) := (Below.refl _ w29).alloc (Nat.le_refl _) _
    have HR33 : Hid (RwAt (w29.alloc (.cells #[.int .i64 se2, .int .i64 at2, .slice so29 sl2.length sc29] 37)) w29.heap.size se2 at2 (.slice so29 sl2.length sc29)) := ⟨World.alloc_heap_new w29 _⟩
    replace HIC := hide ((uh HIC).below hk)
    replace HQA := hide ((uh HQA).below hk)
    replace HR27 := hide ((uh HR27).below hk)
    replace HE27 := hide ((uh HE27).below hk)
    replace HR29 := hide ((uh HR29).below hk)
    replace HE29 := hide ((uh HE29).below hk)
    replace HE31 := hide ((uh HE31).below hk)
    replace HR31 := hide ((uh HR31).below hk)
    replace HE33 := hide ((uh HE33).below hk)
    replace HB7 := hide ((uh HB7).trans (hk.mono (uh HB7).size))
    replace HT7 := hide ((uh HT7).trans (hk.mono (uh HT7).size))
    clear hk
    obtain ⟨p0, p1, p2⟩ := (uh HR27).cells
    obtain ⟨q0, q1, q2⟩ := (uh HR29).cells
    go_wp2_with fail
    refine (samerow_any ⟨se1, at1, sl1⟩ ⟨se1, at1, sl1⟩ _ _ _ _ _ _ _ _ _ (uh HE27) (uh HE29) true ⟨fun _ => ⟨rfl, rfl, rfl⟩, fun _ => rfl⟩).mono ?_
    rintro e w30 ⟨rfl, hk⟩
    clear p0 p1 p2 q0 q1 q2
    obtain ⟨p0, p1, p2⟩ := ((uh HR31).below hk).cells
    obtain ⟨q0, q1, q2⟩ := ((uh HR33).below hk).cells
    have he2 := (uh HE31).below hk
    have he3 := (uh HE33).below hk
    replace HB7 := hide ((uh HB7).trans (hk.mono (uh HB7).size))
    replace HT7 := hide ((uh HT7).trans (hk.mono (uh HT7).size))
    have HE2 := hide he2
    have HE3 := hide he3
    have hne1 : (er1 != er1) = false := by simp
    have hne2 : (er2 != er2) = false := by simp
    clear hk he2 he3 HE27 HE29 HE31 HE33 HR27 HR29 HR31 HR33 HIC HQA
    go_wp2_with fail
    refine (samerow_any ⟨se2, at2, sl2⟩ ⟨se2, at2, sl2⟩ _ _ _ _ _ _ _ _ _ (uh HE2) (uh HE3) true ⟨fun _ => ⟨rfl, rfl, rfl⟩, fun _ => rfl⟩).mono ?_
    rintro e w31 ⟨rfl, hk⟩
    replace HB7 := hide ((uh HB7).trans (hk.mono (uh HB7).size))
    replace HT7 := hide ((uh HT7).trans (hk.mono (uh HT7).size))
    clear hk p0 p1 p2 q0 q1 q2
    go_wp2_with fail
    go_roundw
    case rel => exact ⟨j + 1, by omega, by go_num, uh HB7⟩
    case measure => simp [intOf]; omega
   have hj3i : 3 ≤ (j : Int) := by omega
   go_wp2_with fail
   go_ret
   exact ⟨rfl, uh HT7⟩
end Go.Proofs.YtjdikhelabibnaaGreat
