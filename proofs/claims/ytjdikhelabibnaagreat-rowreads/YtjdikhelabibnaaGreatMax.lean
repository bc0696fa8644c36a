/-
  
-/
import Derived.Test.YtjdikhelabibnaaGreatMaw
import Derived.Test.YtjdikhelabibnaaGreatMar
namespace Go.Proofs.YtjdikhelabibnaaGreat
open Go.RowKit Go.Shelf
def XS (w : World) (X g : Nat) (ao : Option Addr) (cap : Nat) (zs : List Int) (ks : List Nat) : Prop :=
 ∃ P, Xd w X g ao cap zs P (rdS ks (zs, 0)).2 ∧ rest zs P (rdS ks (zs, 0)).2 = (rdS ks (zs, 0)).1
theorem XS.keep {S : List Nat} {w w' : World} {X g : Nat} {ao : Option Addr} {cap : Nat} {zs : List Int} {ks : List Nat} (hr : XS w X g ao cap zs ks) (h : Kp S w w') (h1 : X ∉ S) (h2 : zs = [] ∨ g ∉ S) : XS w' X g ao cap zs ks := by
 obtain ⟨P, hx, hz⟩ := hr
 exact ⟨P, hx.keep h h1 h2, hz⟩
theorem xi_any (X g : Nat) (ao : Option Addr) (cap : Nat) (zs : List Int) (ks : List Nat) (w : World) (hb : Byt zs) (hx : XS w X g ao cap zs ks) :
  Calls Tryz.prog 42 #[.pointer (some ⟨X, 0, none⟩)] w fun x w' => x = .returned (.int .i64 (rdV 8 (rdS ks (zs, 0)).1)) ∧ XS w' X g ao cap zs (ks ++ [8]) ∧ Kp [X] w w' := by
 obtain ⟨P, hx, hz⟩ := hx
 refine (xint_any X g ao cap zs P _ w hb hx).mono ?_
 rintro x w' ⟨h1, ⟨P', h2, h3⟩, hk⟩
 rw [hz] at h1 h2 h3
 refine ⟨h1, ⟨P', ?_, ?_⟩, hk⟩
 ·rw [rdS_app]; exact h2
 rw [rdS_app]; exact h3
theorem xb_any (X g : Nat) (ao : Option Addr) (cap : Nat) (zs : List Int) (ks : List Nat) (w : World) (hb : Byt zs) (hx : XS w X g ao cap zs ks) :
  Calls Tryz.prog 43 #[.pointer (some ⟨X, 0, none⟩)] w fun x w' => x = .returned (.int .i64 (rdV 1 (rdS ks (zs, 0)).1)) ∧ XS w' X g ao cap zs (ks ++ [1]) ∧ Kp [X] w w' := by
 obtain ⟨P, hx, hz⟩ := hx
 refine (xbyte_any X g ao cap zs P _ w hb hx).mono ?_
 rintro x w' ⟨h1, ⟨P', h2, h3⟩, hk⟩
 rw [hz] at h1 h2 h3
 refine ⟨h1, ⟨P', ?_, ?_⟩, hk⟩
 ·rw [rdS_app]; exact h2
 rw [rdS_app]; exact h3
def szD : List Nat := [8, 1, 1, 1, 1, 8, 8]
def szN : List Nat := szD ++ List.replicate 16 1
theorem szN_st (zs : List Int) : rdS szN (zs, 0) = st2 zs := by
 unfold szN st2 st1 szE szD szH
 rw [rdS_app, rdS_app]
 rfl
theorem szA_st (zs : List Int) : rdS (szN ++ List.replicate 4 1) (zs, 0) = st3 zs := by rw [rdS_app, szN_st]; rfl
theorem pD_st (zs : List Int) : nat10 (rdL (List.replicate 16 1) (rdS szD (zs, 0))) = pD zs := by
 unfold pD pE szE
 rw [rdL_app]
 rfl
theorem pT_st (zs : List Int) : rdL (List.replicate 4 1) (rdS szN (zs, 0)) = pT zs := by rw [szN_st]; rfl
theorem all_zero (l : List Int) (h : l.length = 4) : l.all (· == 0) = true ↔ l = [0, 0, 0, 0] := by
 match l, h with
 | [a, b, c, d], _ => simp
theorem wpList_load_want11 {P : Program} {ops : Array Oper} {rest : List Oper} {o : Oper} {a : Act} {w : World} {Q : Exit → Act → World → Prop} (ty : TypeId) (x : Operand) (ho : o.op = .load ty x) (hw : Region.wanted o (yielded ops a.tmps) = true)
  (g : Nat) (hx : a.eval x = .pointer (some ⟨g, 0, none⟩)) (t : TypeId) (cs : Array Value) (fr : Nat × Nat) (d : TypeDesc) (hg : w.heap[g]? = some (.cells cs t fr))
  (hu : P.underlying ty = some d) (hd : (match d with | .struct _ | .array _ _ => true | _ => false) = true) (hi : (P.info? ty).map (·.size) = some cs.size)
  (h : wpList P ops Q rest (a.put o.dst (.agg cs)) w) : wpList P ops Q (o :: rest) a w :=
 wpList_load_want10 hw ty x ho g hx t cs fr d hg hu hd hi h
theorem p_get (zs : List Int) : (pH zs).getD 0 0 = rdV 8 (rdS [] (zs, 0)).1 ∧ (pH zs).getD 1 0 = rdV 1 (rdS [8] (zs, 0)).1 ∧ (pH zs).getD 2 0 = rdV 1 (rdS [8, 1] (zs, 0)).1 ∧ (pH zs).getD 3 0 = rdV 1 (rdS [8, 1, 1] (zs, 0)).1 ∧
  (pE zs).getD 0 0 = rdV 1 (rdS [8, 1, 1, 1] (zs, 0)).1 ∧ (pE zs).getD 1 0 = rdV 8 (rdS [8, 1, 1, 1, 1] (zs, 0)).1 ∧ (pE zs).getD 2 0 = rdV 8 (rdS [8, 1, 1, 1, 1, 8] (zs, 0)).1 := by
 have e : pE zs = rdL [1, 8, 8] (st1 zs) ++ rdL (List.replicate 16 1) (rdS [1, 8, 8] (st1 zs)) := by unfold pE szE; rw [rdL_app]
 rw [e]
 unfold pH szH st1 szH
 simp only [rdL, rdS, List.cons_append, List.nil_append, List.getD_cons_zero, List.getD_cons_succ, and_self]
theorem ent_cells (k l s : Int) (v : List Int) (h : v.length = 16) (hp : ∀ z ∈ v, 0 ≤ z) : csets (entA k l s zer16) 3 (v.map (Value.int .u8)) = entA k l s (nat10 v) := by
 rw [csets_full _ (entA k l s zer16) [Value.int .i64 k, Value.int .i64 l, Value.int .i64 s] (datL zer16) 3 rfl rfl (by rw [datL_len, zer16_len, List.length_map, h])]
 unfold entA
 rw [ints_drop10 v hp]
 rfl
set_option maxRecDepth 100000 in
set_option maxHeartbeats 16000000 in
theorem rparse_any (ao : Option Addr) (g n c : Nat) (zs : List Int) (w : World) (hn : n ≤ 1000000) (hl : zs.length = n) (hnc : n ≤ c) (hgw : zs = [] ∨ g < w.heap.size) (hby : Byt zs) (hr : Row w ao g zs) : Calls Tryz.prog 21 #[.slice ao n c] w fun e w' => ParR e zs ∧ Below w.heap.size w w' := by
 subst hl
 obtain ⟨w1, hw1⟩ : ∃ w1, (w.alloc (.cells #[.int .i64 0, .int .i64 0, .int .i64 0, .int .i64 0] 57)).alloc (.cells #[.int .i64 0, .int .i64 0, .int .i64 0, .int .u8 0, .int .u8 0, .int .u8 0, .int .u8 0, .int .u8 0, .int .u8 0, .int .u8 0, .int .u8 0, .int .u8 0, .int .u8 0, .int .u8 0, .int .u8 0, .int .u8 0, .int .u8 0, .int .u8 0, .int .u8 0] 44) = w1 := ⟨_, rfl⟩
 have HT : Hid (Kp [] w w1) := by rw [← hw1]; exact ((Kp.refl [] w).alloc _).alloc _
 have HA0 : Hid (AtB w1 w.heap.size #[.int .i64 0, .int .i64 0, .int .i64 0, .int .i64 0] 57) := ⟨by rw [← hw1]; exact (Below.heap_alloc _ _ _ (by simp)).trans (World.alloc_heap_new w _)⟩
 have HA1 : Hid (AtB w1 (w.heap.size + 1) #[.int .i64 0, .int .i64 0, .int .i64 0, .int .u8 0, .int .u8 0, .int .u8 0, .int .u8 0, .int .u8 0, .int .u8 0, .int .u8 0, .int .u8 0, .int .u8 0, .int .u8 0, .int .u8 0, .int .u8 0, .int .u8 0, .int .u8 0, .int .u8 0, .int .u8 0] 44) := ⟨by
  rw [← hw1]
  have := World.alloc_heap_new (w.alloc (.cells #[.int .i64 0, .int .i64 0, .int .i64 0, .int .i64 0] 57)) (.cells #[.int .i64 0, .int .i64 0, .int .i64 0, .int .u8 0, .int .u8 0, .int .u8 0, .int .u8 0, .int .u8 0, .int .u8 0, .int .u8 0, .int .u8 0, .int .u8 0, .int .u8 0, .int .u8 0, .int .u8 0, .int .u8 0, .int .u8 0, .int .u8 0, .int .u8 0] 44)
  rwa [World.size_alloc] at this⟩
 have hz1 : w1.heap.size = w.heap.size + 2 := by rw [← hw1]; simp
 have HW := hide hw1
 have HY := hide hby
 have HR0 := hide hr
 have HGW := hide hgw
 have HNC := hide hnc
 have HNL := hide hn
 clear hw1 hby hr hgw hnc hn
 go_enter Tryz.func21, Tryz.ntmps21
 go_wp2_with fail
 rw [uh HW]
 refine (xnew_any ao g c zs _ (uh HNL) (uh HNC) ((uh HR0).keep (uh HT) (by simp))).mono ?_
 rintro e w2 ⟨rfl, hx, hk⟩
 have hX2 : w1.heap.size < w2.heap.size := by obtain ⟨h, _⟩ := hx; exact lt_of_block h
 replace HT := hide ((uh HT).trans hk (by simp))
 replace HA0 := hide ((uh HA0).kp hk (by simp))
 replace HA1 := hide ((uh HA1).kp hk (by simp))
 have HX : Hid (XS w2 w1.heap.size g ao c zs []) := ⟨0, hx, rfl⟩
 obtain ⟨X, hX⟩ : ∃ X, w1.heap.size = X := ⟨_, rfl⟩
 rw [hX] at HX hX2 ⊢
 clear hx hk HR0 HNC HNL HW
 obtain ⟨BH, hBH⟩ : ∃ b, w2.heap.size = b := ⟨_, rfl⟩
 obtain ⟨w3, hw3⟩ : ∃ w3, (w2.alloc (.cells #[.int .i64 0, .int .i64 0, .int .i64 0, .int .i64 0] 57)).alloc (.cells #[.int .i64 0, .int .i64 0, .int .i64 0, .int .u8 0, .int .u8 0, .int .u8 0, .int .u8 0, .int .u8 0, .int .u8 0, .int .u8 0, .int .u8 0, .int .u8 0, .int .u8 0, .int .u8 0, .int .u8 0, .int .u8 0, .int .u8 0, .int .u8 0, .int .u8 0] 44) = w3 := ⟨_, rfl⟩
 have HCH : Hid (AtB w3 BH (headA 0 0 0 0) 57) := ⟨by rw [← hw3, ← hBH]; exact (Below.heap_alloc _ _ _ (by simp)).trans (World.alloc_heap_new w2 _)⟩
 have HCE : Hid (AtB w3 (BH + 1) (entA 0 0 0 zer16) 44) := ⟨by
  rw [← hw3, ← hBH]
  have := World.alloc_heap_new (w2.alloc (.cells #[.int .i64 0, .int .i64 0, .int .i64 0, .int .i64 0] 57)) (.cells #[.int .i64 0, .int .i64 0, .int .i64 0, .int .u8 0, .int .u8 0, .int .u8 0, .int .u8 0, .int .u8 0, .int .u8 0, .int .u8 0, .int .u8 0, .int .u8 0, .int .u8 0, .int .u8 0, .int .u8 0, .int .u8 0, .int .u8 0, .int .u8 0, .int .u8 0] 44)
  rwa [World.size_alloc] at this⟩
 have hk3 : Kp [] w2 w3 := by rw [← hw3]; exact ((Kp.refl [] w2).alloc _).alloc _
 have h3a : w3.setRow BH #[.int .i64 0, .int .i64 0, .int .i64 0, .int .i64 0] = w3 := setRow_self w3 BH _ _ _ (uh HCH).blk
 have h3b : w3.setRow (BH + 1) #[.int .i64 0, .int .i64 0, .int .i64 0, .int .u8 0, .int .u8 0, .int .u8 0, .int .u8 0, .int .u8 0, .int .u8 0, .int .u8 0, .int .u8 0, .int .u8 0, .int .u8 0, .int .u8 0, .int .u8 0, .int .u8 0, .int .u8 0, .int .u8 0, .int .u8 0] = w3 := setRow_self w3 (BH + 1) _ _ _ (uh HCE).blk
 replace HT := hide ((uh HT).trans hk3 (by simp))
 replace HA0 := hide ((uh HA0).kp hk3 (by simp))
 replace HA1 := hide ((uh HA1).kp hk3 (by simp))
 replace HX := hide ((uh HX).keep hk3 (by simp) (.inr (by simp)))
 have HGX : Hid (zs = [] ∨ (g ≠ X ∧ g ≠ BH ∧ g ≠ BH + 1)) := by
  rcases uh HGW with h | h
  ·exact .inl h
  exact .inr ⟨by omega, by omega, by omega⟩
 have HS : Hid (X ≠ w.heap.size ∧ X ≠ w.heap.size + 1 ∧ X ≠ BH ∧ X ≠ BH + 1 ∧ w.heap.size ≠ BH ∧ w.heap.size ≠ BH + 1 ∧ w.heap.size + 1 ≠ BH ∧ w.heap.size + 1 ≠ BH + 1 ∧ w.heap.size ≤ X ∧ w.heap.size ≤ BH ∧ X < BH) := ⟨by omega, by omega, by omega, by omega, by omega, by omega, by omega, by omega, by omega, by omega, by omega⟩
 have HH3a := hide h3a
 have HH3b := hide h3b
 clear hk3 HGW h3a h3b hX hX2 hz1
 go_wp2_with (first | (refine wpList_store_row rfl 57 _ _ rfl BH #[.int .i64 0, .int .i64 0, .int .i64 0, .int .i64 0] rfl rfl 57 #[.int .i64 0, .int .i64 0, .int .i64 0, .int .i64 0] (uh HCH).blk (by rw [sizeTH]; rfl) rfl (one_head 0 0 0 0) ?_; rw [uh HH3a]) | (refine wpList_store_row rfl 44 _ _ rfl (BH + 1) #[.int .i64 0, .int .i64 0, .int .i64 0, .int .u8 0, .int .u8 0, .int .u8 0, .int .u8 0, .int .u8 0, .int .u8 0, .int .u8 0, .int .u8 0, .int .u8 0, .int .u8 0, .int .u8 0, .int .u8 0, .int .u8 0, .int .u8 0, .int .u8 0, .int .u8 0] rfl rfl 44 #[.int .i64 0, .int .i64 0, .int .i64 0, .int .u8 0, .int .u8 0, .int .u8 0, .int .u8 0, .int .u8 0, .int .u8 0, .int .u8 0, .int .u8 0, .int .u8 0, .int .u8 0, .int .u8 0, .int .u8 0, .int .u8 0, .int .u8 0, .int .u8 0, .int .u8 0] (uh HCE).blk (by rw [sizeTE]; rfl) rfl (entA_one 0 0 0 zer16) ?_; rw [uh HH3b]))
 clear HH3a HH3b hw3 hBH
 generalize (Value.agg #[.int .i64 0, .int .i64 0, .int .i64 0, .int .u8 0, .int .u8 0, .int .u8 0, .int .u8 0, .int .u8 0, .int .u8 0, .int .u8 0, .int .u8 0, .int .u8 0, .int .u8 0, .int .u8 0, .int .u8 0, .int .u8 0, .int .u8 0, .int .u8 0, .int .u8 0]) = AE
 generalize (Value.agg #[.int .i64 0, .int .i64 0, .int .i64 0, .int .i64 0]) = AH
 obtain ⟨A0, hA0⟩ : ∃ A, w.heap.size = A := ⟨_, rfl⟩
 obtain ⟨A1, hA1⟩ : ∃ A, w.heap.size + 1 = A := ⟨_, rfl⟩
 obtain ⟨BE, hBE⟩ : ∃ b, BH + 1 = b := ⟨_, rfl⟩
 rw [hA1] at HA1 HS ⊢
 rw [hA0] at HA0 HS ⊢
 rw [hBE] at HS HCE HGX ⊢
 have hA0s : w.heap.size ≤ A0 := by omega
 have hA1s : w.heap.size ≤ A1 := by omega
 have hne : A0 ≠ A1 := by omega
 have HSX : Hid (w.heap.size ≤ X ∧ w.heap.size ≤ BH ∧ w.heap.size ≤ BE ∧ BH ≠ BE) := ⟨by have := uh HS; omega, by have := uh HS; omega, by have := uh HS; omega, by omega⟩
 have HSEP : Hid (BH ≠ A0 ∧ BH ≠ A1 ∧ BE ≠ A0 ∧ BE ≠ A1) := ⟨by have := uh HS; omega, by have := uh HS; omega, by have := uh HS; omega, by have := uh HS; omega⟩
 have HKX : Hid (A0 ≠ X ∧ A1 ≠ X ∧ BH ≠ X ∧ BE ≠ X) := ⟨by have := uh HS; omega, by have := uh HS; omega, by have := uh HS; omega, by have := uh HS; omega⟩
 clear hA0 hA1 hBE HS
 refine (xi_any X g ao c zs [] _ (uh HY) (uh HX)).mono ?_
 rintro e wr0 ⟨rfl, hx, hk⟩
 obtain ⟨v0, hv⟩ : ∃ v, rdV 8 (rdS [] (zs, 0)).1 = v := ⟨_, rfl⟩
 rw [hv]
 have HV0 := hide hv
 replace HT := hide ((uh HT).trans hk (fun x hx => .inr (by have := uh HSX; simp at hx; omega)))
 replace HA0 := hide ((uh HA0).kp hk (by have := uh HKX; simp; omega))
 replace HA1 := hide ((uh HA1).kp hk (by have := uh HKX; simp; omega))
 replace HCH := hide ((uh HCH).kp hk (by have := uh HKX; simp; omega))
 replace HCE := hide ((uh HCE).kp hk (by have := uh HKX; simp; omega))
 have hcl : wr0.cell? ⟨BH, 0, none⟩ = some (.int .i64 0) := cell_blk (uh HCH).blk rfl
 have hfr : wr0.frozen? ⟨BH, 0, none⟩ = false := free_blk (uh HCH).blk
 obtain ⟨ws0, hws⟩ : ∃ u, wr0.setCell ⟨BH, 0, none⟩ (.int .i64 v0) = u := ⟨_, rfl⟩
 have hk2 : Kp [BH] wr0 ws0 := by rw [← hws]; exact (Kp.refl _ _).setCell _ _ (.inl (by simp))
 replace HCH : Hid (AtB ws0 BH (headA v0 0 0 0) 57) := ⟨by rw [← hws]; exact heap_setCell_same _ _ _ _ _ _ (uh HCH).blk⟩
 replace HT := hide ((uh HT).trans hk2 (fun x hx => .inr (by have := uh HSX; simp at hx; omega)))
 replace HA0 := hide ((uh HA0).kp hk2 (by have := uh HSEP; simp; omega))
 replace HA1 := hide ((uh HA1).kp hk2 (by have := uh HSEP; simp; omega))
 replace HCE := hide ((uh HCE).kp hk2 (by have := uh HSX; simp; omega))
 replace HX : Hid (XS ws0 X g ao c zs [8]) := hide (XS.keep (ks := [8]) hx hk2 (by have := uh HKX; simp; omega) (by rcases uh HGX with h | h; exact .inl h; exact .inr (by simp; omega)))
 clear hv hx hk hk2
 go_wp2_with fail
 clear hws hcl hfr
 refine (xb_any X g ao c zs [8] _ (uh HY) (uh HX)).mono ?_
 rintro e wr1 ⟨rfl, hx, hk⟩
 obtain ⟨v1, hv⟩ : ∃ v, rdV 1 (rdS [8] (zs, 0)).1 = v := ⟨_, rfl⟩
 rw [hv]
 have HV1 := hide hv
 replace HT := hide ((uh HT).trans hk (fun x hx => .inr (by have := uh HSX; simp at hx; omega)))
 replace HA0 := hide ((uh HA0).kp hk (by have := uh HKX; simp; omega))
 replace HA1 := hide ((uh HA1).kp hk (by have := uh HKX; simp; omega))
 replace HCH := hide ((uh HCH).kp hk (by have := uh HKX; simp; omega))
 replace HCE := hide ((uh HCE).kp hk (by have := uh HKX; simp; omega))
 have hcl : wr1.cell? ⟨BH, 1, none⟩ = some (.int .i64 0) := cell_blk (uh HCH).blk rfl
 have hfr : wr1.frozen? ⟨BH, 1, none⟩ = false := free_blk (uh HCH).blk
 obtain ⟨ws1, hws⟩ : ∃ u, wr1.setCell ⟨BH, 1, none⟩ (.int .i64 v1) = u := ⟨_, rfl⟩
 have hk2 : Kp [BH] wr1 ws1 := by rw [← hws]; exact (Kp.refl _ _).setCell _ _ (.inl (by simp))
 replace HCH : Hid (AtB ws1 BH (headA v0 v1 0 0) 57) := ⟨by rw [← hws]; exact heap_setCell_same _ _ _ _ _ _ (uh HCH).blk⟩
 replace HT := hide ((uh HT).trans hk2 (fun x hx => .inr (by have := uh HSX; simp at hx; omega)))
 replace HA0 := hide ((uh HA0).kp hk2 (by have := uh HSEP; simp; omega))
 replace HA1 := hide ((uh HA1).kp hk2 (by have := uh HSEP; simp; omega))
 replace HCE := hide ((uh HCE).kp hk2 (by have := uh HSX; simp; omega))
 replace HX : Hid (XS ws1 X g ao c zs [8, 1]) := hide (XS.keep (ks := [8, 1]) hx hk2 (by have := uh HKX; simp; omega) (by rcases uh HGX with h | h; exact .inl h; exact .inr (by simp; omega)))
 clear hv hx hk hk2
 go_wp2_with fail
 clear hws hcl hfr
 refine (xb_any X g ao c zs [8, 1] _ (uh HY) (uh HX)).mono ?_
 rintro e wr2 ⟨rfl, hx, hk⟩
 obtain ⟨v2, hv⟩ : ∃ v, rdV 1 (rdS [8, 1] (zs, 0)).1 = v := ⟨_, rfl⟩
 rw [hv]
 have HV2 := hide hv
 replace HT := hide ((uh HT).trans hk (fun x hx => .inr (by have := uh HSX; simp at hx; omega)))
 replace HA0 := hide ((uh HA0).kp hk (by have := uh HKX; simp; omega))
 replace HA1 := hide ((uh HA1).kp hk (by have := uh HKX; simp; omega))
 replace HCH := hide ((uh HCH).kp hk (by have := uh HKX; simp; omega))
 replace HCE := hide ((uh HCE).kp hk (by have := uh HKX; simp; omega))
 have hcl : wr2.cell? ⟨BH, 2, none⟩ = some (.int .i64 0) := cell_blk (uh HCH).blk rfl
 have hfr : wr2.frozen? ⟨BH, 2, none⟩ = false := free_blk (uh HCH).blk
 obtain ⟨ws2, hws⟩ : ∃ u, wr2.setCell ⟨BH, 2, none⟩ (.int .i64 v2) = u := ⟨_, rfl⟩
 have hk2 : Kp [BH] wr2 ws2 := by rw [← hws]; exact (Kp.refl _ _).setCell _ _ (.inl (by simp))
 replace HCH : Hid (AtB ws2 BH (headA v0 v1 v2 0) 57) := ⟨by rw [← hws]; exact heap_setCell_same _ _ _ _ _ _ (uh HCH).blk⟩
 replace HT := hide ((uh HT).trans hk2 (fun x hx => .inr (by have := uh HSX; simp at hx; omega)))
 replace HA0 := hide ((uh HA0).kp hk2 (by have := uh HSEP; simp; omega))
 replace HA1 := hide ((uh HA1).kp hk2 (by have := uh HSEP; simp; omega))
 replace HCE := hide ((uh HCE).kp hk2 (by have := uh HSX; simp; omega))
 replace HX : Hid (XS ws2 X g ao c zs [8, 1, 1]) := hide (XS.keep (ks := [8, 1, 1]) hx hk2 (by have := uh HKX; simp; omega) (by rcases uh HGX with h | h; exact .inl h; exact .inr (by simp; omega)))
 clear hv hx hk hk2
 go_wp2_with fail
 clear hws hcl hfr
 refine (xb_any X g ao c zs [8, 1, 1] _ (uh HY) (uh HX)).mono ?_
 rintro e wr3 ⟨rfl, hx, hk⟩
 obtain ⟨v3, hv⟩ : ∃ v, rdV 1 (rdS [8, 1, 1] (zs, 0)).1 = v := ⟨_, rfl⟩
 rw [hv]
 have HV3 := hide hv
 replace HT := hide ((uh HT).trans hk (fun x hx => .inr (by have := uh HSX; simp at hx; omega)))
 replace HA0 := hide ((uh HA0).kp hk (by have := uh HKX; simp; omega))
 replace HA1 := hide ((uh HA1).kp hk (by have := uh HKX; simp; omega))
 replace HCH := hide ((uh HCH).kp hk (by have := uh HKX; simp; omega))
 replace HCE := hide ((uh HCE).kp hk (by have := uh HKX; simp; omega))
 have hcl : wr3.cell? ⟨BH, 3, none⟩ = some (.int .i64 0) := cell_blk (uh HCH).blk rfl
 have hfr : wr3.frozen? ⟨BH, 3, none⟩ = false := free_blk (uh HCH).blk
 obtain ⟨ws3, hws⟩ : ∃ u, wr3.setCell ⟨BH, 3, none⟩ (.int .i64 v3) = u := ⟨_, rfl⟩
 have hk2 : Kp [BH] wr3 ws3 := by rw [← hws]; exact (Kp.refl _ _).setCell _ _ (.inl (by simp))
 replace HCH : Hid (AtB ws3 BH (headA v0 v1 v2 v3) 57) := ⟨by rw [← hws]; exact heap_setCell_same _ _ _ _ _ _ (uh HCH).blk⟩
 replace HT := hide ((uh HT).trans hk2 (fun x hx => .inr (by have := uh HSX; simp at hx; omega)))
 replace HA0 := hide ((uh HA0).kp hk2 (by have := uh HSEP; simp; omega))
 replace HA1 := hide ((uh HA1).kp hk2 (by have := uh HSEP; simp; omega))
 replace HCE := hide ((uh HCE).kp hk2 (by have := uh HSX; simp; omega))
 replace HX : Hid (XS ws3 X g ao c zs [8, 1, 1, 1]) := hide (XS.keep (ks := [8, 1, 1, 1]) hx hk2 (by have := uh HKX; simp; omega) (by rcases uh HGX with h | h; exact .inl h; exact .inr (by simp; omega)))
 clear hv hx hk hk2
 go_wp2_with fail
 clear hws hcl hfr
 refine (xb_any X g ao c zs [8, 1, 1, 1] _ (uh HY) (uh HX)).mono ?_
 rintro e wr4 ⟨rfl, hx, hk⟩
 obtain ⟨v4, hv⟩ : ∃ v, rdV 1 (rdS [8, 1, 1, 1] (zs, 0)).1 = v := ⟨_, rfl⟩
 rw [hv]
 have HV4 := hide hv
 replace HT := hide ((uh HT).trans hk (fun x hx => .inr (by have := uh HSX; simp at hx; omega)))
 replace HA0 := hide ((uh HA0).kp hk (by have := uh HKX; simp; omega))
 replace HA1 := hide ((uh HA1).kp hk (by have := uh HKX; simp; omega))
 replace HCH := hide ((uh HCH).kp hk (by have := uh HKX; simp; omega))
 replace HCE := hide ((uh HCE).kp hk (by have := uh HKX; simp; omega))
 have hcl : wr4.cell? ⟨BE, 0, none⟩ = some (.int .i64 0) := cell_blk (uh HCE).blk rfl
 have hfr : wr4.frozen? ⟨BE, 0, none⟩ = false := free_blk (uh HCE).blk
 obtain ⟨ws4, hws⟩ : ∃ u, wr4.setCell ⟨BE, 0, none⟩ (.int .i64 v4) = u := ⟨_, rfl⟩
 have hk2 : Kp [BE] wr4 ws4 := by rw [← hws]; exact (Kp.refl _ _).setCell _ _ (.inl (by simp))
 replace HCE : Hid (AtB ws4 BE (entA v4 0 0 zer16) 44) := ⟨by rw [← hws]; exact heap_setCell_same _ _ _ _ _ _ (uh HCE).blk⟩
 replace HT := hide ((uh HT).trans hk2 (fun x hx => .inr (by have := uh HSX; simp at hx; omega)))
 replace HA0 := hide ((uh HA0).kp hk2 (by have := uh HSEP; simp; omega))
 replace HA1 := hide ((uh HA1).kp hk2 (by have := uh HSEP; simp; omega))
 replace HCH := hide ((uh HCH).kp hk2 (by have := uh HSX; simp; omega))
 replace HX : Hid (XS ws4 X g ao c zs [8, 1, 1, 1, 1]) := hide (XS.keep (ks := [8, 1, 1, 1, 1]) hx hk2 (by have := uh HKX; simp; omega) (by rcases uh HGX with h | h; exact .inl h; exact .inr (by simp; omega)))
 clear hv hx hk hk2
 go_wp2_with fail
 clear hws hcl hfr
 refine (xi_any X g ao c zs [8, 1, 1, 1, 1] _ (uh HY) (uh HX)).mono ?_
 rintro e wr5 ⟨rfl, hx, hk⟩
 obtain ⟨v5, hv⟩ : ∃ v, rdV 8 (rdS [8, 1, 1, 1, 1] (zs, 0)).1 = v := ⟨_, rfl⟩
 rw [hv]
 have HV5 := hide hv
 replace HT := hide ((uh HT).trans hk (fun x hx => .inr (by have := uh HSX; simp at hx; omega)))
 replace HA0 := hide ((uh HA0).kp hk (by have := uh HKX; simp; omega))
 replace HA1 := hide ((uh HA1).kp hk (by have := uh HKX; simp; omega))
 replace HCH := hide ((uh HCH).kp hk (by have := uh HKX; simp; omega))
 replace HCE := hide ((uh HCE).kp hk (by have := uh HKX; simp; omega))
 have hcl : wr5.cell? ⟨BE, 1, none⟩ = some (.int .i64 0) := cell_blk (uh HCE).blk rfl
 have hfr : wr5.frozen? ⟨BE, 1, none⟩ = false := free_blk (uh HCE).blk
 obtain ⟨ws5, hws⟩ : ∃ u, wr5.setCell ⟨BE, 1, none⟩ (.int .i64 v5) = u := ⟨_, rfl⟩
 have hk2 : Kp [BE] wr5 ws5 := by rw [← hws]; exact (Kp.refl _ _).setCell _ _ (.inl (by simp))
 replace HCE : Hid (AtB ws5 BE (entA v4 v5 0 zer16) 44) := ⟨by rw [← hws]; exact heap_setCell_same _ _ _ _ _ _ (uh HCE).blk⟩
 replace HT := hide ((uh HT).trans hk2 (fun x hx => .inr (by have := uh HSX; simp at hx; omega)))
 replace HA0 := hide ((uh HA0).kp hk2 (by have := uh HSEP; simp; omega))
 replace HA1 := hide ((uh HA1).kp hk2 (by have := uh HSEP; simp; omega))
 replace HCH := hide ((uh HCH).kp hk2 (by have := uh HSX; simp; omega))
 replace HX : Hid (XS ws5 X g ao c zs [8, 1, 1, 1, 1, 8]) := hide (XS.keep (ks := [8, 1, 1, 1, 1, 8]) hx hk2 (by have := uh HKX; simp; omega) (by rcases uh HGX with h | h; exact .inl h; exact .inr (by simp; omega)))
 clear hv hx hk hk2
 go_wp2_with fail
 clear hws hcl hfr
 refine (xi_any X g ao c zs [8, 1, 1, 1, 1, 8] _ (uh HY) (uh HX)).mono ?_
 rintro e wr6 ⟨rfl, hx, hk⟩
 obtain ⟨v6, hv⟩ : ∃ v, rdV 8 (rdS [8, 1, 1, 1, 1, 8] (zs, 0)).1 = v := ⟨_, rfl⟩
 rw [hv]
 have HV6 := hide hv
 replace HT := hide ((uh HT).trans hk (fun x hx => .inr (by have := uh HSX; simp at hx; omega)))
 replace HA0 := hide ((uh HA0).kp hk (by have := uh HKX; simp; omega))
 replace HA1 := hide ((uh HA1).kp hk (by have := uh HKX; simp; omega))
 replace HCH := hide ((uh HCH).kp hk (by have := uh HKX; simp; omega))
 replace HCE := hide ((uh HCE).kp hk (by have := uh HKX; simp; omega))
 have hcl : wr6.cell? ⟨BE, 2, none⟩ = some (.int .i64 0) := cell_blk (uh HCE).blk rfl
 have hfr : wr6.frozen? ⟨BE, 2, none⟩ = false := free_blk (uh HCE).blk
 obtain ⟨ws6, hws⟩ : ∃ u, wr6.setCell ⟨BE, 2, none⟩ (.int .i64 v6) = u := ⟨_, rfl⟩
 have hk2 : Kp [BE] wr6 ws6 := by rw [← hws]; exact (Kp.refl _ _).setCell _ _ (.inl (by simp))
 replace HCE : Hid (AtB ws6 BE (entA v4 v5 v6 zer16) 44) := ⟨by rw [← hws]; exact heap_setCell_same _ _ _ _ _ _ (uh HCE).blk⟩
 replace HT := hide ((uh HT).trans hk2 (fun x hx => .inr (by have := uh HSX; simp at hx; omega)))
 replace HA0 := hide ((uh HA0).kp hk2 (by have := uh HSEP; simp; omega))
 replace HA1 := hide ((uh HA1).kp hk2 (by have := uh HSEP; simp; omega))
 replace HCH := hide ((uh HCH).kp hk2 (by have := uh HSX; simp; omega))
 replace HX : Hid (XS ws6 X g ao c zs [8, 1, 1, 1, 1, 8, 8]) := hide (XS.keep (ks := [8, 1, 1, 1, 1, 8, 8]) hx hk2 (by have := uh HKX; simp; omega) (by rcases uh HGX with h | h; exact .inl h; exact .inr (by simp; omega)))
 clear hv hx hk hk2
 go_wp2_with fail
 clear hws hcl hfr
 have e7 : Hid (rdS [8, 1, 1, 1, 1, 8, 8] (zs, 0) = rdS szD (zs, 0)) := (rfl : rdS [8, 1, 1, 1, 1, 8, 8] (zs, 0) = rdS szD (zs, 0))
 obtain ⟨s7, hs7⟩ : ∃ s, rdS szD (zs, 0) = s := ⟨_, rfl⟩
 have HS7 := hide hs7
 clear hs7 e7
 have HSZ7 : Hid ((csets (entA v4 v5 v6 zer16) 3 []).size = 19) := entA_size zer16_len
 clear HSZ7
 go_loopw [8] (fun i wr => ∃ k : Nat, k ≤ 16 ∧ i = .int .i64 k ∧ Kp [] w wr ∧ AtB wr A0 #[.int .i64 0, .int .i64 0, .int .i64 0, .int .i64 0] 57 ∧ AtB wr A1 #[.int .i64 0, .int .i64 0, .int .i64 0, .int .u8 0, .int .u8 0, .int .u8 0, .int .u8 0, .int .u8 0, .int .u8 0, .int .u8 0, .int .u8 0, .int .u8 0, .int .u8 0, .int .u8 0, .int .u8 0, .int .u8 0, .int .u8 0, .int .u8 0, .int .u8 0] 44 ∧ AtB wr BH (headA v0 v1 v2 v3) 57 ∧ AtB wr BE (csets (entA v4 v5 v6 zer16) 3 ((rdL (List.replicate k 1) s7).map (Value.int .u8))) 44 ∧ XS wr X g ao c zs (szD ++ List.replicate k 1)) (fun i _ => 16 - (intOf i).toNat)
 case atStart => exact ⟨0, by omega, rfl, uh HT, uh HA0, uh HA1, uh HCH, uh HCE, uh HX⟩
 case round =>
  clear HT HA0 HA1 HCH HCE HX
  obtain ⟨k, hk, rfl, hT, hA0, hA1, hCH, hCE, hX⟩ := hrel
  have HT := hide hT
  have HA0 := hide hA0
  have HA1 := hide hA1
  have HCH := hide hCH
  have HCE := hide hCE
  have HX := hide hX
  clear hT hA0 hA1 hCH hCE hX
  by_cases hlt : k < 16
  ·have hl1 : Hid (((rdL (List.replicate k 1) s7).map (Value.int .u8)).length = k) := by unfold Hid; rw [List.length_map, rdL_len, List.length_replicate]
   have HX0 : Hid ((csets (entA v4 v5 v6 zer16) 3 ((rdL (List.replicate k 1) s7).map (Value.int .u8)))[3 + k]? = some (.int .u8 ((cf zer16 k : Nat) : Int))) := by
    unfold Hid
    rw [csets_beyond _ _ _ _ (by rw [uh hl1]; omega), entA_d, datL_get (by rw [zer16_len]; exact hlt)]
   have e8 : Hid (rdS (szD ++ List.replicate k 1) (zs, 0) = rdS (List.replicate k 1) s7) := by unfold Hid; rw [rdS_app, uh HS7]
   have hy1 : Byt (rdS (List.replicate k 1) s7).1 := by rw [← uh e8]; exact byt_rdS (uh HY)
   have hlt' : (k : Int) < 16 := by omega
   obtain ⟨-, hv1, hv2⟩ := rdV_one hy1
   obtain ⟨V, hV⟩ : ∃ V, rdV 1 (rdS (List.replicate k 1) s7).1 = V := ⟨_, rfl⟩
   rw [hV] at hv1 hv2
   have HV := hide hV
   clear hV hy1
   go_wp2_with fail
   refine (xb_any X g ao c zs (szD ++ List.replicate k 1) _ (uh HY) (uh HX)).mono ?_
   rintro e w2 ⟨rfl, hx, hk⟩
   rw [uh e8, uh HV]
   replace HT := hide ((uh HT).trans hk (fun x hx => .inr (by have := uh HSX; simp at hx; omega)))
   replace HA0 := hide ((uh HA0).kp hk (by have := uh HKX; simp; omega))
   replace HA1 := hide ((uh HA1).kp hk (by have := uh HKX; simp; omega))
   replace HCH := hide ((uh HCH).kp hk (by have := uh HKX; simp; omega))
   replace HCE := hide ((uh HCE).kp hk (by have := uh HKX; simp; omega))
   have hcl : w2.cell? ⟨BE, 3 + k, none⟩ = some (.int .u8 ((cf zer16 k : Nat) : Int)) := cell_blk (uh HCE).blk (uh HX0)
   have hfr : w2.frozen? ⟨BE, 3 + k, none⟩ = false := free_blk (uh HCE).blk
   obtain ⟨ws, hws⟩ : ∃ u, w2.setCell ⟨BE, 3 + k, none⟩ (.int .u8 V) = u := ⟨_, rfl⟩
   have hk2 : Kp [BE] w2 ws := by rw [← hws]; exact (Kp.refl _ _).setCell _ _ (.inl (by simp))
   replace HCE : Hid (AtB ws BE ((csets (entA v4 v5 v6 zer16) 3 ((rdL (List.replicate k 1) s7).map (Value.int .u8))).setIfInBounds (3 + k) (.int .u8 V)) 44) := ⟨by rw [← hws]; exact heap_setCell_same _ _ _ _ _ _ (uh HCE).blk⟩
   replace HT := hide ((uh HT).trans hk2 (fun x hx => .inr (by have := uh HSX; simp at hx; omega)))
   replace HA0 := hide ((uh HA0).kp hk2 (by have := uh HSEP; simp; omega))
   replace HA1 := hide ((uh HA1).kp hk2 (by have := uh HSEP; simp; omega))
   replace HCH := hide ((uh HCH).kp hk2 (by have := uh HSX; simp; omega))
   replace HX := hide (hx.keep hk2 (by have := uh HKX; simp; omega) (by rcases uh HGX with h | h; exact .inl h; exact .inr (by simp; omega)))
   clear hx hk hk2
   go_wp2
   go_roundw
   case rel =>
    refine ⟨k + 1, by omega, by go_num, uh HT, uh HA0, uh HA1, uh HCH, ?_, ?_⟩
    ·rw [List.replicate_succ', rdL_app, List.map_append]
     have e1 : (rdL [1] (rdS (List.replicate k 1) s7)).map (Value.int .u8) = [.int .u8 V] := by
      show [Value.int .u8 (rdV 1 (rdS (List.replicate k 1) s7).1)] = _
      rw [uh HV]
     rw [e1, csets_snoc, uh hl1]
     exact uh HCE
    rw [List.replicate_succ', ← List.append_assoc]
    exact uh HX
   case measure => simp [intOf] <;> omega
  have hk16 : k = 16 := by omega
  subst hk16
  rw [show ((16 : Nat) : Int) = 16 from rfl]
  clear hlt hk
  have hy7 : Byt s7.1 := by rw [← uh HS7]; exact byt_rdS (uh HY)
  replace HCE : Hid (AtB wr BE (entA v4 v5 v6 (nat10 (rdL (List.replicate 16 1) s7))) 44) := by
   have := uh HCE
   rwa [ent_cells _ _ _ _ (by rw [rdL_len, List.length_replicate]) (fun z hz => (rd_ones hy7 z hz).1)] at this
  replace HX : Hid (XS wr X g ao c zs szN) := uh HX
  have hD : nat10 (rdL (List.replicate 16 1) s7) = pD zs := by rw [← uh HS7]; exact pD_st zs
  rw [hD] at HCE
  clear hD hy7
  obtain ⟨s8, hs8⟩ : ∃ s, rdS szN (zs, 0) = s := ⟨_, rfl⟩
  have HS8 := hide hs8
  clear hs8
  go_wp2_with fail
  go_loopw [9, 10] (fun f i wr => ∃ k : Nat, k ≤ 4 ∧ i = .int .i64 k ∧ f = .bool ((rdL (List.replicate k 1) s8).all (· == 0)) ∧ Kp [] w wr ∧ AtB wr A0 #[.int .i64 0, .int .i64 0, .int .i64 0, .int .i64 0] 57 ∧ AtB wr A1 #[.int .i64 0, .int .i64 0, .int .i64 0, .int .u8 0, .int .u8 0, .int .u8 0, .int .u8 0, .int .u8 0, .int .u8 0, .int .u8 0, .int .u8 0, .int .u8 0, .int .u8 0, .int .u8 0, .int .u8 0, .int .u8 0, .int .u8 0, .int .u8 0, .int .u8 0] 44 ∧ AtB wr BH (headA v0 v1 v2 v3) 57 ∧ AtB wr BE (entA v4 v5 v6 (pD zs)) 44 ∧ XS wr X g ao c zs (szN ++ List.replicate k 1)) (fun _ i _ => 4 - (intOf i).toNat)
  case atStart => exact ⟨0, by omega, rfl, rfl, uh HT, uh HA0, uh HA1, uh HCH, uh HCE, uh HX⟩
  case round =>
   clear HT HA0 HA1 HCH HCE HX
   obtain ⟨k, hk, rfl, rfl, hT, hA0, hA1, hCH, hCE, hX⟩ := hrel
   have HT := hide hT
   have HA0 := hide hA0
   have HA1 := hide hA1
   have HCH := hide hCH
   have HCE := hide hCE
   have HX := hide hX
   clear hT hA0 hA1 hCH hCE hX
   obtain ⟨F, hF⟩ : ∃ F, (rdL (List.replicate k 1) s8).all (· == 0) = F := ⟨_, rfl⟩
   rw [hF]
   have HF := hide hF
   clear hF
   by_cases hlt : k < 4
   ·have hlt' : (k : Int) < 4 := by omega
    have e8 : Hid (rdS (szN ++ List.replicate k 1) (zs, 0) = rdS (List.replicate k 1) s8) := by unfold Hid; rw [rdS_app, uh HS8]
    obtain ⟨V, hV⟩ : ∃ V, rdV 1 (rdS (List.replicate k 1) s8).1 = V := ⟨_, rfl⟩
    have HV := hide hV
    clear hV
    have HF2 : Hid ((rdL (List.replicate (k + 1) 1) s8).all (· == 0) = (F && (V == 0))) := by
     unfold Hid
     rw [List.replicate_succ', rdL_app, List.all_append, uh HF]
     have e1 : rdL [1] (rdS (List.replicate k 1) s8) = [V] := by
      show [rdV 1 (rdS (List.replicate k 1) s8).1] = _
      rw [uh HV]
     rw [e1]
     simp
    go_wp2_with fail
    refine (xb_any X g ao c zs (szN ++ List.replicate k 1) _ (uh HY) (uh HX)).mono ?_
    rintro e w2 ⟨rfl, hx, hk⟩
    rw [uh e8, uh HV]
    replace HT := hide ((uh HT).trans hk (fun x hx => .inr (by have := uh HSX; simp at hx; omega)))
    replace HA0 := hide ((uh HA0).kp hk (by have := uh HKX; simp; omega))
    replace HA1 := hide ((uh HA1).kp hk (by have := uh HKX; simp; omega))
    replace HCH := hide ((uh HCH).kp hk (by have := uh HKX; simp; omega))
    replace HCE := hide ((uh HCE).kp hk (by have := uh HKX; simp; omega))
    replace HX := hide hx
    clear hx hk
    by_cases hv : V = 0
    ·subst hv
     go_wp2
     go_roundw
     case rel =>
      refine ⟨k + 1, by omega, by go_num, ?_, uh HT, uh HA0, uh HA1, uh HCH, uh HCE, ?_⟩
      ·rw [uh HF2]; simp
      rw [List.replicate_succ', ← List.append_assoc]; exact uh HX
     case measure => simp [intOf] <;> omega
    have q : (V == 0) = false := by rw [beq_eq_false_iff_ne]; exact hv
    rw [q] at HF2
    clear hv
    go_wp2
    go_roundw
    case rel =>
     refine ⟨k + 1, by omega, by go_num, ?_, uh HT, uh HA0, uh HA1, uh HCH, uh HCE, ?_⟩
     ·rw [uh HF2]; simp
     rw [List.replicate_succ', ← List.append_assoc]; exact uh HX
    case measure => simp [intOf] <;> omega
   have hk4 : k = 4 := by omega
   subst hk4
   clear hlt hk
   have HXE := hide (show XS wr X g ao c zs (szN ++ List.replicate 4 1) from uh HX)
   obtain ⟨P, hx, hz⟩ := uh HXE
   rw [szA_st] at hx hz
   have HXD := hide hx
   have HZ := hide hz
   clear hx hz HXE HX
   have HFT : Hid (F = true ↔ pT zs = [0, 0, 0, 0]) := by
    unfold Hid
    rw [← uh HF, all_zero _ (by rw [rdL_len, List.length_replicate]), ← uh HS8, pT_st]
   go_wp2_with fail
   refine (xend_any X g ao c zs P _ _ (uh HXD)).mono ?_
   rintro e w9 ⟨rfl, hk⟩
   rw [uh HZ, show (if (st3 zs).2 = 0 ∧ (st3 zs).1 ≠ [] then (4 : Int) else (st3 zs).2) = cod zs from rfl]
   replace HT := hide ((uh HT).trans hk (by simp))
   replace HA0 := hide ((uh HA0).kp hk (by simp))
   replace HA1 := hide ((uh HA1).kp hk (by simp))
   replace HCH := hide ((uh HCH).kp hk (by simp))
   replace HCE := hide ((uh HCE).kp hk (by simp))
   clear hk HXD HZ
   have HPV : Hid ((pH zs).getD 0 0 = v0 ∧ (pH zs).getD 1 0 = v1 ∧ (pH zs).getD 2 0 = v2 ∧ (pH zs).getD 3 0 = v3 ∧ (pE zs).getD 0 0 = v4 ∧ (pE zs).getD 1 0 = v5 ∧ (pE zs).getD 2 0 = v6) := by
    obtain ⟨p0, p1, p2, p3, p4, p5, p6⟩ := p_get zs
    exact ⟨p0.trans (uh HV0), p1.trans (uh HV1), p2.trans (uh HV2), p3.trans (uh HV3), p4.trans (uh HV4), p5.trans (uh HV5), p6.trans (uh HV6)⟩
   clear HV0 HV1 HV2 HV3 HV4 HV5 HV6 HF HS8 HS7 HGX HKX HSX
   have hcc : Hid (w9.cell? ⟨BH, 0, none⟩ = some (.int .i64 v0)) := cell_blk (uh HCH).blk rfl
   have hDl := pD_len zs
   have HP : Hid (badP zs ↔ (pT zs ≠ [0, 0, 0, 0] ∨ ¬ (1 ≤ v0 ∧ v0 ≤ 1099511627776) ∨ ¬ okE v4 v5 v6 (pD zs))) := by
    obtain ⟨p0, _, _, _, p4, p5, p6⟩ := uh HPV
    unfold Hid badP
    rw [p0, p4, p5, p6]
   have HOKR : Hid (∀ e, parE zs = 0 → e = .returned (.tuple #[.agg (headA v0 v1 v2 v3), .agg (entA v4 v5 v6 (pD zs)), .int .i64 0]) → ParR e zs) := by
    intro e h1 h2
    obtain ⟨p0, p1, p2, p3, p4, p5, p6⟩ := uh HPV
    exact parR_ok h1 (by rw [p0, p1, p2, p3, p4, p5, p6]; exact h2)
   obtain ⟨D, hD⟩ : ∃ D, pD zs = D := ⟨_, rfl⟩
   rw [hD] at HCE hDl HP HOKR
   obtain ⟨Z, hX⟩ : ∃ X, cod zs = X := ⟨_, rfl⟩
   rw [hX]
   have HX := hide hX
   clear hX hD HPV
   by_cases hx : Z ≠ 0
   ·obtain ⟨t1, t2, t3, t4, -, -⟩ := two_rows (uh HT) (uh HA0) (uh HA1) hA0s hA1s hne #[.int .i64 0, .int .i64 0, .int .i64 0, .int .i64 0] #[.int .i64 0, .int .i64 0, .int .i64 0, .int .u8 0, .int .u8 0, .int .u8 0, .int .u8 0, .int .u8 0, .int .u8 0, .int .u8 0, .int .u8 0, .int .u8 0, .int .u8 0, .int .u8 0, .int .u8 0, .int .u8 0, .int .u8 0, .int .u8 0, .int .u8 0]
    obtain ⟨w13, hw13⟩ : ∃ W, w9.setRow A0 #[.int .i64 0, .int .i64 0, .int .i64 0, .int .i64 0] = W := ⟨_, rfl⟩
    rw [hw13] at t1 t2 t3 t4
    obtain ⟨w14, hw14⟩ : ∃ W, w13.setRow A1 #[.int .i64 0, .int .i64 0, .int .i64 0, .int .u8 0, .int .u8 0, .int .u8 0, .int .u8 0, .int .u8 0, .int .u8 0, .int .u8 0, .int .u8 0, .int .u8 0, .int .u8 0, .int .u8 0, .int .u8 0, .int .u8 0, .int .u8 0, .int .u8 0, .int .u8 0] = W := ⟨_, rfl⟩
    rw [hw14] at t2 t3 t4
    have HT1 := hide t1
    have HT2 := hide t2
    have HT3 := hide t3
    have HT4 := hide t4
    have HW13 := hide hw13
    have HW14 := hide hw14
    clear t1 t2 t3 t4 hw13 hw14
    have q1 : (Z == 0) = false := by rw [beq_eq_false_iff_ne]; exact hx
    have q2 : (Z != 0) = true := by rw [bne_iff_ne]; exact hx
    go_wp2_with (first | (refine wpList_store_row rfl 57 _ _ rfl A0 #[.int .i64 0, .int .i64 0, .int .i64 0, .int .i64 0] rfl rfl 57 #[.int .i64 0, .int .i64 0, .int .i64 0, .int .i64 0] (uh HA0).blk (by rw [sizeTH]; rfl) rfl (one_head 0 0 0 0) ?_; rw [uh HW13]) | (refine wpList_store_row rfl 44 _ _ rfl A1 #[.int .i64 0, .int .i64 0, .int .i64 0, .int .u8 0, .int .u8 0, .int .u8 0, .int .u8 0, .int .u8 0, .int .u8 0, .int .u8 0, .int .u8 0, .int .u8 0, .int .u8 0, .int .u8 0, .int .u8 0, .int .u8 0, .int .u8 0, .int .u8 0, .int .u8 0] rfl rfl 44 #[.int .i64 0, .int .i64 0, .int .i64 0, .int .u8 0, .int .u8 0, .int .u8 0, .int .u8 0, .int .u8 0, .int .u8 0, .int .u8 0, .int .u8 0, .int .u8 0, .int .u8 0, .int .u8 0, .int .u8 0, .int .u8 0, .int .u8 0, .int .u8 0, .int .u8 0] (uh HT1).blk (by rw [sizeTE]; rfl) rfl (entA_one 0 0 0 zer16) ?_; rw [uh HW14]))
    refine bodyPost_ret (results_cct rfl _ _ ⟨A0, 0, none⟩ ⟨A1, 0, none⟩ _ _ rfl rfl (load_TH (uh HT2).blk rfl) (load_TE (uh HT3).blk rfl)) rfl ?_
    exact ⟨parR_bad ((parE_code (by rw [uh HX]; exact hx)).trans (uh HX)) hx rfl, (uh HT4).below⟩
   have hx0 : Z = 0 := Classical.not_not.1 hx
   subst hx0
   clear hx
   cases F
   ·have HBAD : Hid (badP zs) := (uh HP).2 (.inl (fun h => by have := (uh HFT).2 h; cases this))
    obtain ⟨t1, t2, t3, t4, -, -⟩ := two_rows (uh HT) (uh HA0) (uh HA1) hA0s hA1s hne #[.int .i64 0, .int .i64 0, .int .i64 0, .int .i64 0] #[.int .i64 0, .int .i64 0, .int .i64 0, .int .u8 0, .int .u8 0, .int .u8 0, .int .u8 0, .int .u8 0, .int .u8 0, .int .u8 0, .int .u8 0, .int .u8 0, .int .u8 0, .int .u8 0, .int .u8 0, .int .u8 0, .int .u8 0, .int .u8 0, .int .u8 0]
    obtain ⟨w13, hw13⟩ : ∃ W, w9.setRow A0 #[.int .i64 0, .int .i64 0, .int .i64 0, .int .i64 0] = W := ⟨_, rfl⟩
    rw [hw13] at t1 t2 t3 t4
    obtain ⟨w14, hw14⟩ : ∃ W, w13.setRow A1 #[.int .i64 0, .int .i64 0, .int .i64 0, .int .u8 0, .int .u8 0, .int .u8 0, .int .u8 0, .int .u8 0, .int .u8 0, .int .u8 0, .int .u8 0, .int .u8 0, .int .u8 0, .int .u8 0, .int .u8 0, .int .u8 0, .int .u8 0, .int .u8 0, .int .u8 0] = W := ⟨_, rfl⟩
    rw [hw14] at t2 t3 t4
    have HT1 := hide t1
    have HT2 := hide t2
    have HT3 := hide t3
    have HT4 := hide t4
    have HW13 := hide hw13
    have HW14 := hide hw14
    clear t1 t2 t3 t4 hw13 hw14
    go_wp2_with (first | (refine wpList_store_row rfl 57 _ _ rfl A0 #[.int .i64 0, .int .i64 0, .int .i64 0, .int .i64 0] rfl rfl 57 #[.int .i64 0, .int .i64 0, .int .i64 0, .int .i64 0] (uh HA0).blk (by rw [sizeTH]; rfl) rfl (one_head 0 0 0 0) ?_; rw [uh HW13]) | (refine wpList_store_row rfl 44 _ _ rfl A1 #[.int .i64 0, .int .i64 0, .int .i64 0, .int .u8 0, .int .u8 0, .int .u8 0, .int .u8 0, .int .u8 0, .int .u8 0, .int .u8 0, .int .u8 0, .int .u8 0, .int .u8 0, .int .u8 0, .int .u8 0, .int .u8 0, .int .u8 0, .int .u8 0, .int .u8 0] rfl rfl 44 #[.int .i64 0, .int .i64 0, .int .i64 0, .int .u8 0, .int .u8 0, .int .u8 0, .int .u8 0, .int .u8 0, .int .u8 0, .int .u8 0, .int .u8 0, .int .u8 0, .int .u8 0, .int .u8 0, .int .u8 0, .int .u8 0, .int .u8 0, .int .u8 0, .int .u8 0] (uh HT1).blk (by rw [sizeTE]; rfl) rfl (entA_one 0 0 0 zer16) ?_; rw [uh HW14]))
    refine bodyPost_ret (results_cct rfl _ _ ⟨A0, 0, none⟩ ⟨A1, 0, none⟩ _ _ rfl rfl (load_TH (uh HT2).blk rfl) (load_TE (uh HT3).blk rfl)) rfl ?_
    exact ⟨parR_bad (parE_bad (uh HX) (uh HBAD)) (by omega) rfl, (uh HT4).below⟩
   have hpt : Hid (pT zs = [0, 0, 0, 0]) := (uh HFT).1 rfl
   by_cases hin : 1 ≤ v0 ∧ v0 ≤ 1099511627776
   ·obtain ⟨hin1, hin2⟩ := hin
    have qa : decide (v0 < 1) = false := decide_eq_false (by omega)
    have qb : decide (1099511627776 < v0) = false := decide_eq_false (by omega)
    by_cases hok : okE v4 v5 v6 D
    ·have HCK := hide (chkE_ok hok)
     have HBAD : Hid (¬ badP zs) := fun h => by
      rcases (uh HP).1 h with h | h | h
      ·exact h (uh hpt)
      ·exact h ⟨hin1, hin2⟩
      exact h hok
     clear hok
     have hc0 := uh hcc
     go_wp2_with (refine wpList_load_want11 44 _ rfl (by rfl) BE rfl 44 (entA v4 v5 v6 D) _ _ (uh HCE).blk Tryz.underlying44 rfl (by rw [sizeTE, entA_size hDl]) ?_)
     refine (rcheckE_any v4 v5 v6 D hDl _).mono ?_
     rintro e w16 ⟨rfl, hk⟩
     rw [uh HCK]
     replace HA0 := hide ((uh HA0).below hk)
     replace HA1 := hide ((uh HA1).below hk)
     replace HCH := hide ((uh HCH).below hk)
     replace HCE := hide ((uh HCE).below hk)
     replace HT := hide ((uh HT).ofBelow hk)
     clear hk hc0
     go_wp2_with fail
     replace HT := hide ((uh HT).ofBelow (Below.refl _ _).drew)
     replace HA0 := hide ((uh HA0).below (Below.refl _ _).drew)
     replace HA1 := hide ((uh HA1).below (Below.refl _ _).drew)
     replace HCH := hide ((uh HCH).below (Below.refl _ _).drew)
     replace HCE := hide ((uh HCE).below (Below.refl _ _).drew)
     refine wp_region_noPanic ?_
     refine wp_region_held_drew (S := fun V => Kp [A0, A1] w16.drew V) (by kernel_rfl) (Kp.refl _ _) (fun hHeld => ?_)
     have HH := hide hHeld
     clear hHeld
     generalize w16.drew = w5 at HT HA0 HA1 HCH HCE HH ⊢
     obtain ⟨t1, t2, t3, t4, t5, t6⟩ := two_rows (uh HT) (uh HA0) (uh HA1) hA0s hA1s hne (headA v0 v1 v2 v3) (entA v4 v5 v6 D)
     obtain ⟨w13, hw13⟩ : ∃ W, w5.setRow A0 (headA v0 v1 v2 v3) = W := ⟨_, rfl⟩
     rw [hw13] at t1 t2 t3 t4 t5 t6
     obtain ⟨w14, hw14⟩ : ∃ W, w13.setRow A1 (entA v4 v5 v6 D) = W := ⟨_, rfl⟩
     rw [hw14] at t2 t3 t4 t6
     have HT1 := hide t1
     have HT2 := hide t2
     have HT3 := hide t3
     have HT4 := hide t4
     have HKK1 := hide t5
     have HKK2 := hide t6
     have HW13 := hide hw13
     have HW14 := hide hw14
     clear t1 t2 t3 t4 t5 t6 hw13 hw14
     refine takeL (i := 0) (v := .agg (headA v0 v1 v2 v3)) rfl (by kernel_rfl) (by kernel_rfl) (by kernel_rfl) (fun _ _ _ h => h) (Or.inl ⟨by rfl, fun W1 hSW => run_load_agg9 rfl rfl (load_TH (hSW.heap (uh HCH).blk (by have := uh HSEP; simp; omega)) rfl)⟩) (uh HH) ?_
     (try simp only [layB])
     refine takeL (i := 1) (v := .agg (entA v4 v5 v6 D)) rfl (by kernel_rfl) (by kernel_rfl) (by kernel_rfl) (fun _ _ _ h => h) (Or.inl ⟨by rfl, fun W1 hSW => run_load_agg9 rfl rfl (load_TE (hSW.heap (uh HCE).blk (by have := uh HSEP; simp; omega)) (entA_size hDl))⟩) (uh HH) ?_
     (try simp only [layB])
     refine wpAnyH_ready (rs := [2]) (by kernel_rfl) (by simp) ?_
     refine consL rfl (fun K hK => ?_) AllReadyH.nil
     refine wp_store_row (P := Tryz.prog) 57 (.tmp 2) (.tmp 85) (by rfl) A0 (headA v0 v1 v2 v3) (by rfl) (by rfl) 57 #[.int .i64 0, .int .i64 0, .int .i64 0, .int .i64 0] (uh HA0).blk (by rw [sizeTH]; rfl) (rfl) (one_head _ _ _ _) ?_
     rw [uh HW13]
     refine hK.out _ _ (uh HKK1) (fun hHeld => ?_)
     clear hK K HH
     have HH := hide hHeld
     clear hHeld
     (try simp only [Act.put])
     refine wpAnyH_ready (rs := [3]) (by kernel_rfl) (by simp) ?_
     refine consL rfl (fun K hK => ?_) AllReadyH.nil
     refine wp_store_row (P := Tryz.prog) 44 (.tmp 3) (.tmp 86) (by rfl) A1 (entA v4 v5 v6 D) (by rfl) (by rfl) 44 #[.int .i64 0, .int .i64 0, .int .i64 0, .int .u8 0, .int .u8 0, .int .u8 0, .int .u8 0, .int .u8 0, .int .u8 0, .int .u8 0, .int .u8 0, .int .u8 0, .int .u8 0, .int .u8 0, .int .u8 0, .int .u8 0, .int .u8 0, .int .u8 0, .int .u8 0] (uh HT1).blk (by rw [sizeTE, entA_size hDl]) (by rw [entA_size hDl]; rfl) (entA_one _ _ _ _) ?_
     rw [uh HW14]
     refine hK.out _ _ (uh HKK2) (fun hHeld => ?_)
     clear hK K HH
     have HH := hide hHeld
     clear hHeld
     (try simp only [Act.put])
     refine tkL 4 (uh HH) ?_
     (try simp only [layB])
     refine wpAnyH_done (by kernel_rfl) ?_ _
     refine NoPanic.normal ?_
     go_wp2_with fail
     refine bodyPost_ret (results_cct rfl _ _ ⟨A0, 0, none⟩ ⟨A1, 0, none⟩ _ _ rfl rfl (load_TH (uh HT2).blk rfl) (load_TE (uh HT3).blk (entA_size hDl))) rfl ?_
     exact ⟨uh HOKR _ (parE_ok (uh HX) (uh HBAD)) rfl, (uh HT4).below⟩
    have HCK := hide (chkE_not hok)
    have HBAD : Hid (badP zs) := (uh HP).2 (.inr (.inr hok))
    clear hok
    have hc0 := uh hcc
    go_wp2_with (refine wpList_load_want11 44 _ rfl (by rfl) BE rfl 44 (entA v4 v5 v6 D) _ _ (uh HCE).blk Tryz.underlying44 rfl (by rw [sizeTE, entA_size hDl]) ?_)
    refine (rcheckE_any v4 v5 v6 D hDl _).mono ?_
    rintro e w16 ⟨rfl, hk⟩
    rw [uh HCK]
    replace HA0 := hide ((uh HA0).below hk)
    replace HA1 := hide ((uh HA1).below hk)
    replace HCH := hide ((uh HCH).below hk)
    replace HCE := hide ((uh HCE).below hk)
    replace HT := hide ((uh HT).ofBelow hk)
    clear hk hc0
    obtain ⟨t1, t2, t3, t4, -, -⟩ := two_rows (uh HT) (uh HA0) (uh HA1) hA0s hA1s hne #[.int .i64 0, .int .i64 0, .int .i64 0, .int .i64 0] #[.int .i64 0, .int .i64 0, .int .i64 0, .int .u8 0, .int .u8 0, .int .u8 0, .int .u8 0, .int .u8 0, .int .u8 0, .int .u8 0, .int .u8 0, .int .u8 0, .int .u8 0, .int .u8 0, .int .u8 0, .int .u8 0, .int .u8 0, .int .u8 0, .int .u8 0]
    obtain ⟨w13, hw13⟩ : ∃ W, w16.setRow A0 #[.int .i64 0, .int .i64 0, .int .i64 0, .int .i64 0] = W := ⟨_, rfl⟩
    rw [hw13] at t1 t2 t3 t4
    obtain ⟨w14, hw14⟩ : ∃ W, w13.setRow A1 #[.int .i64 0, .int .i64 0, .int .i64 0, .int .u8 0, .int .u8 0, .int .u8 0, .int .u8 0, .int .u8 0, .int .u8 0, .int .u8 0, .int .u8 0, .int .u8 0, .int .u8 0, .int .u8 0, .int .u8 0, .int .u8 0, .int .u8 0, .int .u8 0, .int .u8 0] = W := ⟨_, rfl⟩
    rw [hw14] at t2 t3 t4
    have HT1 := hide t1
    have HT2 := hide t2
    have HT3 := hide t3
    have HT4 := hide t4
    have HW13 := hide hw13
    have HW14 := hide hw14
    clear t1 t2 t3 t4 hw13 hw14
    go_wp2_with (first | (refine wpList_store_row rfl 57 _ _ rfl A0 #[.int .i64 0, .int .i64 0, .int .i64 0, .int .i64 0] rfl rfl 57 #[.int .i64 0, .int .i64 0, .int .i64 0, .int .i64 0] (uh HA0).blk (by rw [sizeTH]; rfl) rfl (one_head 0 0 0 0) ?_; rw [uh HW13]) | (refine wpList_store_row rfl 44 _ _ rfl A1 #[.int .i64 0, .int .i64 0, .int .i64 0, .int .u8 0, .int .u8 0, .int .u8 0, .int .u8 0, .int .u8 0, .int .u8 0, .int .u8 0, .int .u8 0, .int .u8 0, .int .u8 0, .int .u8 0, .int .u8 0, .int .u8 0, .int .u8 0, .int .u8 0, .int .u8 0] rfl rfl 44 #[.int .i64 0, .int .i64 0, .int .i64 0, .int .u8 0, .int .u8 0, .int .u8 0, .int .u8 0, .int .u8 0, .int .u8 0, .int .u8 0, .int .u8 0, .int .u8 0, .int .u8 0, .int .u8 0, .int .u8 0, .int .u8 0, .int .u8 0, .int .u8 0, .int .u8 0] (uh HT1).blk (by rw [sizeTE]; rfl) rfl (entA_one 0 0 0 zer16) ?_; rw [uh HW14]))
    refine bodyPost_ret (results_cct rfl _ _ ⟨A0, 0, none⟩ ⟨A1, 0, none⟩ _ _ rfl rfl (load_TH (uh HT2).blk rfl) (load_TE (uh HT3).blk rfl)) rfl ?_
    exact ⟨parR_bad (parE_bad (uh HX) (uh HBAD)) (by omega) rfl, (uh HT4).below⟩
   have HBAD : Hid (badP zs) := (uh HP).2 (.inr (.inl hin))
   rcases (show v0 < 1 ∨ (1 ≤ v0 ∧ 1099511627776 < v0) by omega) with hin | ⟨hin, hin'⟩
   ·have qa : decide (v0 < 1) = true := decide_eq_true hin
    obtain ⟨t1, t2, t3, t4, -, -⟩ := two_rows (uh HT) (uh HA0) (uh HA1) hA0s hA1s hne #[.int .i64 0, .int .i64 0, .int .i64 0, .int .i64 0] #[.int .i64 0, .int .i64 0, .int .i64 0, .int .u8 0, .int .u8 0, .int .u8 0, .int .u8 0, .int .u8 0, .int .u8 0, .int .u8 0, .int .u8 0, .int .u8 0, .int .u8 0, .int .u8 0, .int .u8 0, .int .u8 0, .int .u8 0, .int .u8 0, .int .u8 0]
    obtain ⟨w13, hw13⟩ : ∃ W, w9.setRow A0 #[.int .i64 0, .int .i64 0, .int .i64 0, .int .i64 0] = W := ⟨_, rfl⟩
    rw [hw13] at t1 t2 t3 t4
    obtain ⟨w14, hw14⟩ : ∃ W, w13.setRow A1 #[.int .i64 0, .int .i64 0, .int .i64 0, .int .u8 0, .int .u8 0, .int .u8 0, .int .u8 0, .int .u8 0, .int .u8 0, .int .u8 0, .int .u8 0, .int .u8 0, .int .u8 0, .int .u8 0, .int .u8 0, .int .u8 0, .int .u8 0, .int .u8 0, .int .u8 0] = W := ⟨_, rfl⟩
    rw [hw14] at t2 t3 t4
    have HT1 := hide t1
    have HT2 := hide t2
    have HT3 := hide t3
    have HT4 := hide t4
    have HW13 := hide hw13
    have HW14 := hide hw14
    clear t1 t2 t3 t4 hw13 hw14
    have hc0 := uh hcc
    go_wp2_with (first | (refine wpList_store_row rfl 57 _ _ rfl A0 #[.int .i64 0, .int .i64 0, .int .i64 0, .int .i64 0] rfl rfl 57 #[.int .i64 0, .int .i64 0, .int .i64 0, .int .i64 0] (uh HA0).blk (by rw [sizeTH]; rfl) rfl (one_head 0 0 0 0) ?_; rw [uh HW13]) | (refine wpList_store_row rfl 44 _ _ rfl A1 #[.int .i64 0, .int .i64 0, .int .i64 0, .int .u8 0, .int .u8 0, .int .u8 0, .int .u8 0, .int .u8 0, .int .u8 0, .int .u8 0, .int .u8 0, .int .u8 0, .int .u8 0, .int .u8 0, .int .u8 0, .int .u8 0, .int .u8 0, .int .u8 0, .int .u8 0] rfl rfl 44 #[.int .i64 0, .int .i64 0, .int .i64 0, .int .u8 0, .int .u8 0, .int .u8 0, .int .u8 0, .int .u8 0, .int .u8 0, .int .u8 0, .int .u8 0, .int .u8 0, .int .u8 0, .int .u8 0, .int .u8 0, .int .u8 0, .int .u8 0, .int .u8 0, .int .u8 0] (uh HT1).blk (by rw [sizeTE]; rfl) rfl (entA_one 0 0 0 zer16) ?_; rw [uh HW14]))
    refine bodyPost_ret (results_cct rfl _ _ ⟨A0, 0, none⟩ ⟨A1, 0, none⟩ _ _ rfl rfl (load_TH (uh HT2).blk rfl) (load_TE (uh HT3).blk rfl)) rfl ?_
    exact ⟨parR_bad (parE_bad (uh HX) (uh HBAD)) (by omega) rfl, (uh HT4).below⟩
   have qa : decide (v0 < 1) = false := decide_eq_false (by omega)
   have qb : decide (1099511627776 < v0) = true := decide_eq_true hin'
   obtain ⟨t1, t2, t3, t4, -, -⟩ := two_rows (uh HT) (uh HA0) (uh HA1) hA0s hA1s hne #[.int .i64 0, .int .i64 0, .int .i64 0, .int .i64 0] #[.int .i64 0, .int .i64 0, .int .i64 0, .int .u8 0, .int .u8 0, .int .u8 0, .int .u8 0, .int .u8 0, .int .u8 0, .int .u8 0, .int .u8 0, .int .u8 0, .int .u8 0, .int .u8 0, .int .u8 0, .int .u8 0, .int .u8 0, .int .u8 0, .int .u8 0]
   obtain ⟨w13, hw13⟩ : ∃ W, w9.setRow A0 #[.int .i64 0, .int .i64 0, .int .i64 0, .int .i64 0] = W := ⟨_, rfl⟩
   rw [hw13] at t1 t2 t3 t4
   obtain ⟨w14, hw14⟩ : ∃ W, w13.setRow A1 #[.int .i64 0, .int .i64 0, .int .i64 0, .int .u8 0, .int .u8 0, .int .u8 0, .int .u8 0, .int .u8 0, .int .u8 0, .int .u8 0, .int .u8 0, .int .u8 0, .int .u8 0, .int .u8 0, .int .u8 0, .int .u8 0, .int .u8 0, .int .u8 0, .int .u8 0] = W := ⟨_, rfl⟩
   rw [hw14] at t2 t3 t4
   have HT1 := hide t1
   have HT2 := hide t2
   have HT3 := hide t3
   have HT4 := hide t4
   have HW13 := hide hw13
   have HW14 := hide hw14
   clear t1 t2 t3 t4 hw13 hw14
   have hc0 := uh hcc
   go_wp2_with (first | (refine wpList_store_row rfl 57 _ _ rfl A0 #[.int .i64 0, .int .i64 0, .int .i64 0, .int .i64 0] rfl rfl 57 #[.int .i64 0, .int .i64 0, .int .i64 0, .int .i64 0] (uh HA0).blk (by rw [sizeTH]; rfl) rfl (one_head 0 0 0 0) ?_; rw [uh HW13]) | (refine wpList_store_row rfl 44 _ _ rfl A1 #[.int .i64 0, .int .i64 0, .int .i64 0, .int .u8 0, .int .u8 0, .int .u8 0, .int .u8 0, .int .u8 0, .int .u8 0, .int .u8 0, .int .u8 0, .int .u8 0, .int .u8 0, .int .u8 0, .int .u8 0, .int .u8 0, .int .u8 0, .int .u8 0, .int .u8 0] rfl rfl 44 #[.int .i64 0, .int .i64 0, .int .i64 0, .int .u8 0, .int .u8 0, .int .u8 0, .int .u8 0, .int .u8 0, .int .u8 0, .int .u8 0, .int .u8 0, .int .u8 0, .int .u8 0, .int .u8 0, .int .u8 0, .int .u8 0, .int .u8 0, .int .u8 0, .int .u8 0] (uh HT1).blk (by rw [sizeTE]; rfl) rfl (entA_one 0 0 0 zer16) ?_; rw [uh HW14]))
   refine bodyPost_ret (results_cct rfl _ _ ⟨A0, 0, none⟩ ⟨A1, 0, none⟩ _ _ rfl rfl (load_TH (uh HT2).blk rfl) (load_TE (uh HT3).blk rfl)) rfl ?_
   exact ⟨parR_bad (parE_bad (uh HX) (uh HBAD)) (by omega) rfl, (uh HT4).below⟩
end Go.Proofs.YtjdikhelabibnaaGreat
