/-
  
-/
import Derived.Test.YtjdikhelabibnaaGreatMav
import Derived.Test.YtjdikhelabibnaaGreatMas
namespace Go.Proofs.YtjdikhelabibnaaGreat
open Go.RowKit Go.Shelf
theorem results_cct {P : Program} {fn : Func} {p q r : Tmp} {t u : TypeId} (h : fn.results = #[.cell p t, .cell q u, .tmp r]) (tmps : Array Value) (w : World) (a b : Addr) (x y : Value) (hp : tmps.getD p undef = .pointer (some a)) (hq : tmps.getD q undef = .pointer (some b)) (hx : (loadVar t a).run P w = .ok x w) (hy : (loadVar u b).run P w = .ok y w) :
  (results fn tmps).run P w = .ok (.tuple #[x, y, tmps.getD r undef]) w := by
 rw [Array.getD_eq_getD_getElem?] at hp hq
 simp only [results, h]
 simp [Result.andThen, hp, hq, asAddr, hx, hy]
theorem len4 {d : List Nat} (h : d.length = 4) : ∃ a0 a1 a2 a3, d = [a0, a1, a2, a3] := by
 match d, h with
 | [a0, a1, a2, a3], _ => exact ⟨a0, a1, a2, a3, rfl⟩
set_option maxRecDepth 100000 in
set_option maxHeartbeats 8000000 in
theorem eqTT_in (d d' : List Nat) (h : d.length = 4) (h' : d'.length = 4) (n : Nat) (w : World) : (Op.equalIn (n + 2) 101 (.agg (datL d).toArray) (.agg (datL d').toArray)).run Tryz.prog w = .ok (decide (d = d')) w := by
 obtain ⟨a0, a1, a2, a3, rfl⟩ := len4 h
 obtain ⟨b0, b1, b2, b3, rfl⟩ := len4 h'
 have u3 := Tryz.underlying5
 have a3 := Tryz.isAgg5
 have z3 := Tryz.sizeOf5
 simp only [datL, ints, List.map_cons, List.map_nil]
 rw [show n + 2 = (n + 1) + 1 from rfl, Op.equalIn]
 simp only [Sem.run_bind, run_underlying Tryz.underlying101, Result.andThen_ok]
 simp only [Std.Legacy.Range.forIn_eq_forIn_range', Std.Legacy.Range.size, Nat.sub_zero, Nat.add_sub_cancel, Nat.div_one, List.range'_succ, List.range'_zero, List.forIn_cons, List.forIn_nil]
 go_simp
 exact ifc10 (ifc10 (ifc10 ifc10'))
theorem neTT (d d' : List Nat) (h : d.length = 4) (h' : d'.length = 4) (r : Bool) (hr : (!decide (d = d')) = r) (w : World) : (binOp .neq 101 (.agg (tailA d)) (.agg (tailA d'))).run Tryz.prog w = .ok (.bool r) w := by
 unfold tailA
 simp [binOp, Op.equal, Op.maxDepth, eqTT_in d d' h h' 9998, hr]
theorem rd_there {T : TypeId} {w : World} {R g : Nat} {zs : List Int} {e : Int} (h : Rd T w R g zs e) (A : Nat) (hA : A < w.heap.size) (hAR : A ≠ R) : ∃ g', g' < w.heap.size ∧ Rd T w R g' zs e := by
 obtain ⟨hne, ao, cap, hb, hl, hm, hr⟩ := h
 by_cases hz : zs = []
 ·exact ⟨A, hA, hAR, ao, cap, hb, hl, hm, .inl hz⟩
 rcases hr with h0 | ⟨o, rfl, hc⟩
 ·exact absurd h0 hz
 have hp : 0 < zs.length := List.length_pos_iff.2 hz
 have := block_lt_of_cell (hc 0 hp)
 exact ⟨g, this, hne, _, cap, hb, hl, hm, .inr ⟨o, rfl, hc⟩⟩
theorem kp_new10 (w : World) (o : Obj) (cs : Array Value) : Kp [] w ((w.alloc o).setRow w.heap.size cs) :=
 ((Kp.refl [] w).alloc o).trans (S' := [w.heap.size]) ⟨rfl, rfl, rfl, by simp, fun k _ h => setRow_other _ _ k _ (by simpa using h)⟩ (fun x hx => .inr (by simp at hx; omega))
theorem blk_new10 (w : World) (old cs : Array Value) (ty : TypeId) : AtB ((w.alloc (.cells old ty)).setRow w.heap.size cs) w.heap.size cs ty := ⟨setRow_heap _ _ old cs ty _ (World.alloc_heap_new w _)⟩
theorem AtB.kp {S : List Nat} {w w' : World} {b : Nat} {cs : Array Value} {ty : TypeId} (h : AtB w b cs ty) (k : Kp S w w') (hn : b ∉ S) : AtB w' b cs ty := ⟨k.heap h.blk hn⟩
def ParR (e : Ending) (zs : List Int) : Prop := e = .returned (.tuple #[.agg (headA (parH zs 0) (parH zs 1) (parH zs 2) (parH zs 3)), .agg (entA (parN zs 0) (parN zs 1) (parN zs 2) (parD zs)), .int .i64 (parE zs)])
theorem parR_bad {zs : List Int} {e : Ending} {x : Int} (h : parE zs = x) (hx : x ≠ 0) (he : e = .returned (.tuple #[.agg (headA 0 0 0 0), .agg (entA 0 0 0 zer16), .int .i64 x])) : ParR e zs := by
 subst h
 unfold ParR parH parN parD
 rw [if_neg hx, if_neg hx, if_neg hx, if_neg hx, if_neg hx, if_neg hx, if_neg hx, if_neg hx, he]
theorem parR_ok {zs : List Int} {e : Ending} (h : parE zs = 0) (he : e = .returned (.tuple #[.agg (headA ((pH zs).getD 0 0) ((pH zs).getD 1 0) ((pH zs).getD 2 0) ((pH zs).getD 3 0)), .agg (entA ((pE zs).getD 0 0) ((pE zs).getD 1 0) ((pE zs).getD 2 0) (pD zs)), .int .i64 0])) : ParR e zs := by
 unfold ParR parH parN parD
 rw [if_pos h, if_pos h, if_pos h, if_pos h, if_pos h, if_pos h, if_pos h, if_pos h, h, he]
theorem parE_code {zs : List Int} (h : cod zs ≠ 0) : parE zs = cod zs := if_pos h
theorem parE_bad {zs : List Int} (h : cod zs = 0) (hb : badP zs) : parE zs = 5 := by unfold parE; rw [if_neg (by omega), if_pos hb]
theorem parE_ok {zs : List Int} (h : cod zs = 0) (hb : ¬ badP zs) : parE zs = 0 := by unfold parE; rw [if_neg (by omega), if_neg hb]
theorem one_head (a b c d : Int) : (headA a b c d).all (·.oneCell') = true := (one_list (l := [.int .i64 a, .int .i64 b, .int .i64 c, .int .i64 d]) (by simp [Value.oneCell'])).all
theorem two_rows {w W : World} {A0 A1 : Nat} {o0 o1 : Array Value} {t0 t1 : TypeId} (hT : Kp [] w W) (h0 : AtB W A0 o0 t0) (h1 : AtB W A1 o1 t1) (hA0 : w.heap.size ≤ A0) (hA1 : w.heap.size ≤ A1) (hne : A0 ≠ A1) (CH CE : Array Value) :
  AtB (W.setRow A0 CH) A1 o1 t1 ∧ AtB ((W.setRow A0 CH).setRow A1 CE) A0 CH t0 ∧ AtB ((W.setRow A0 CH).setRow A1 CE) A1 CE t1 ∧ Kp [] w ((W.setRow A0 CH).setRow A1 CE) ∧ Kp [A0, A1] W (W.setRow A0 CH) ∧ Kp [A0, A1] W ((W.setRow A0 CH).setRow A1 CE) := by
 have k1 : Kp [A0] W (W.setRow A0 CH) := ⟨rfl, rfl, rfl, by simp, fun k _ h => setRow_other _ _ k _ (by simpa using h)⟩
 have k2 : Kp [A1] (W.setRow A0 CH) ((W.setRow A0 CH).setRow A1 CE) := ⟨rfl, rfl, rfl, by simp, fun k _ h => setRow_other _ _ k _ (by simpa using h)⟩
 have b1 : AtB (W.setRow A0 CH) A1 o1 t1 := h1.kp k1 (by simpa using hne.symm)
 have b0 : AtB (W.setRow A0 CH) A0 CH t0 := ⟨setRow_heap _ _ _ _ _ _ h0.blk⟩
 refine ⟨b1, b0.kp k2 (by simpa using hne), ⟨setRow_heap _ _ _ _ _ _ b1.blk⟩, (hT.trans k1 (fun x hx => .inr (by simp at hx; omega))).trans k2 (fun x hx => .inr (by simp at hx; omega)), k1.mono (by simp), (k1.mono (S' := [A0, A1]) (by simp)).trans k2 (by simp)⟩
theorem pT_nat (zs : List Int) (h : Byt zs) : nat10 (pT zs) = [0, 0, 0, 0] ↔ pT zs = [0, 0, 0, 0] := by
 have hp : ∀ z ∈ pT zs, 0 ≤ z := fun z hz => (rd_ones (n := 4) (byt_rdS (byt_rdS (s := (zs, 0)) h)) z hz).1
 constructor
 ·intro e
  rw [← ints_nat10 hp, e]
  rfl
 intro e
 rw [e]
 rfl
theorem pT_nat_len (zs : List Int) : (nat10 (pT zs)).length = 4 := by unfold nat10; rw [List.length_map, pT_len]
set_option maxRecDepth 100000 in
set_option maxHeartbeats 16000000 in
theorem parse_any (ao : Option Addr) (g n c : Nat) (zs : List Int) (w : World) (hn : n ≤ 1000000) (hl : zs.length = n) (hby : Byt zs) (hr : Row w ao g zs) : Calls Tryz.prog 71 #[.slice ao n c] w fun e w' => ParR e zs ∧ Below w.heap.size w w' := by
 obtain ⟨w1, hw1⟩ : ∃ w1, (w.alloc (.cells #[.int .i64 0, .int .i64 0, .int .i64 0, .int .i64 0] 57)).alloc (.cells #[.int .i64 0, .int .i64 0, .int .i64 0, .int .u8 0, .int .u8 0, .int .u8 0, .int .u8 0, .int .u8 0, .int .u8 0, .int .u8 0, .int .u8 0, .int .u8 0, .int .u8 0, .int .u8 0, .int .u8 0, .int .u8 0, .int .u8 0, .int .u8 0, .int .u8 0] 44) = w1 := ⟨_, rfl⟩
 have HT : Hid (Kp [] w w1) := by rw [← hw1]; exact ((Kp.refl [] w).alloc _).alloc _
 have HA0 : Hid (AtB w1 w.heap.size #[.int .i64 0, .int .i64 0, .int .i64 0, .int .i64 0] 57) := ⟨by rw [← hw1]; exact (Below.heap_alloc _ _ _ (by simp)).trans (World.alloc_heap_new w _)⟩
 have HA1 : Hid (AtB w1 (w.heap.size + 1) #[.int .i64 0, .int .i64 0, .int .i64 0, .int .u8 0, .int .u8 0, .int .u8 0, .int .u8 0, .int .u8 0, .int .u8 0, .int .u8 0, .int .u8 0, .int .u8 0, .int .u8 0, .int .u8 0, .int .u8 0, .int .u8 0, .int .u8 0, .int .u8 0, .int .u8 0] 44) := ⟨by
  rw [← hw1]
  have := World.alloc_heap_new (w.alloc (.cells #[.int .i64 0, .int .i64 0, .int .i64 0, .int .i64 0] 57)) (.cells #[.int .i64 0, .int .i64 0, .int .i64 0, .int .u8 0, .int .u8 0, .int .u8 0, .int .u8 0, .int .u8 0, .int .u8 0, .int .u8 0, .int .u8 0, .int .u8 0, .int .u8 0, .int .u8 0, .int .u8 0, .int .u8 0, .int .u8 0, .int .u8 0, .int .u8 0] 44)
  rwa [World.size_alloc] at this⟩
 have hz1 : w1.heap.size = w.heap.size + 2 := by rw [← hw1]; simp
 have HW := hide hw1
 have HY := hide hby
 have HR0 := hide hr
 clear hw1 hby hr
 go_enter Tryz.func71, Tryz.ntmps71
 go_wp2_with fail
 rw [uh HW]
 refine (cnew_any ao g n c zs _ hn hl ((uh HR0).keep (uh HT) (by simp))).mono ?_
 rintro e w2 ⟨R, q, rfl, hRz, -, hrd, hk⟩
 have hsz1 := hk.size
 replace HT := hide ((uh HT).trans hk (by simp))
 replace HA0 := hide ((uh HA0).kp hk (by simp))
 replace HA1 := hide ((uh HA1).kp hk (by simp))
 obtain ⟨q', hq', hrd'⟩ := rd_there hrd w.heap.size (by omega) (by omega)
 have HRD := hide hrd'
 clear hrd hrd' hk HR0 q
 have hRl2 : R < w2.heap.size := by obtain ⟨_, _, _, h, _⟩ := uh HRD; exact lt_of_block h
 have HYH : Hid (Byt zs) := HY
 go_wp2_with fail
 refine (layH_any _).mono ?_
 rintro e w3 ⟨L, c, rfl, hly, hLz, hcz, hk⟩
 have hsz := hk.size
 have hkk : Kp [] w2 w3 := (Kp.refl _ _).ofBelow hk
 replace HT := hide ((uh HT).trans hkk (by simp))
 replace HA0 := hide ((uh HA0).kp hkk (by simp))
 replace HA1 := hide ((uh HA1).kp hkk (by simp))
 replace HRD := hide ((uh HRD).keep hkk (by simp) (by simp))
 have HLY := hide hly
 have hRlt : R < w2.heap.size := hRl2
 clear hly hkk hk
 go_wp2_with fail
 refine (readH_any L c R q' _ _ _ (by omega) (uh HYH) (uh HRD) (uh HLY) (by omega) (fun i hi => by have := hcz i hi; omega)).mono ?_
 rintro e w4 ⟨rfl, hrd, hk⟩
 have hszb := hk.size
 replace HT := hide ((uh HT).trans hk (fun x hx => .inr (by simp at hx; omega)))
 replace HA0 := hide ((uh HA0).kp hk (by simp; omega))
 replace HA1 := hide ((uh HA1).kp hk (by simp; omega))
 replace HRD := hide hrd
 clear hrd hk HLY
 obtain ⟨w5, hw5⟩ : ∃ W, (w4.alloc (.cells #[.int .i64 0, .int .i64 0, .int .i64 0, .int .i64 0] 57)).setRow w4.heap.size (ceH (zs, 0) 4) = W := ⟨_, rfl⟩
 have hk : Kp [] w4 w5 := by rw [← hw5]; exact kp_new10 _ _ _
 have hsz5 : w5.heap.size = w4.heap.size + 1 := by rw [← hw5]; simp
 replace HT := hide ((uh HT).trans hk (by simp))
 replace HA0 := hide ((uh HA0).kp hk (by simp))
 replace HA1 := hide ((uh HA1).kp hk (by simp))
 replace HRD := hide ((uh HRD).keep hk (by simp) (by simp))
 have HCH : Hid (AtB w5 w4.heap.size (ceH (zs, 0) 4) 57) := by rw [← hw5]; exact blk_new10 _ _ _ _
 have HWD := hide hw5
 clear hw5 hk
 go_wp2_with (first | (refine wpList_store_row rfl 57 _ _ rfl w4.heap.size (ceH (zs, 0) 4) rfl rfl 57 #[.int .i64 0, .int .i64 0, .int .i64 0, .int .i64 0] (World.alloc_heap_new w4 _) (by rw [sizeTH, ceH_size]) (by rw [ceH_size]; rfl) (ceH_one _ _).all ?_; rw [uh HWD]))
 have hRl5 : R < w5.heap.size := by omega
 obtain ⟨BH, hBH⟩ : ∃ b, w4.heap.size = b := ⟨_, rfl⟩
 rw [hBH] at HCH ⊢
 clear HWD
 have HYE : Hid (Byt (st1 zs).1) := byt_rdS (s := (zs, 0)) (uh HY)
 rw [show stp zH (zs, 0) 4 = st1 zs from rfl] at HRD
 obtain ⟨Z1, E1, hz1e⟩ : ∃ Z E, st1 zs = (Z, E) := ⟨_, _, rfl⟩
 have HZ1 := hide hz1e
 rw [hz1e] at HRD HYE
 clear hz1e
 dsimp only at HRD HYE
 go_wp2_with fail
 refine (layE_any _).mono ?_
 rintro e w6 ⟨L, c, rfl, hly, hLz, hcz, hk⟩
 have hsz := hk.size
 have hkk : Kp [] w5 w6 := (Kp.refl _ _).ofBelow hk
 replace HT := hide ((uh HT).trans hkk (by simp))
 replace HA0 := hide ((uh HA0).kp hkk (by simp))
 replace HA1 := hide ((uh HA1).kp hkk (by simp))
 replace HCH := hide ((uh HCH).kp hkk (by simp))
 replace HRD := hide ((uh HRD).keep hkk (by simp) (by simp))
 have HLY := hide hly
 have hRlt : R < w5.heap.size := hRl5
 clear hly hkk hk
 go_wp2_with fail
 refine (readE_any L c R q' _ _ _ (by omega) (uh HYE) (uh HRD) (uh HLY) (by omega) (fun i hi => by have := hcz i hi; omega)).mono ?_
 rintro e w7 ⟨rfl, hrd, hk⟩
 have hszb := hk.size
 replace HT := hide ((uh HT).trans hk (fun x hx => .inr (by simp at hx; omega)))
 replace HA0 := hide ((uh HA0).kp hk (by simp; omega))
 replace HA1 := hide ((uh HA1).kp hk (by simp; omega))
 replace HCH := hide ((uh HCH).kp hk (by simp; omega))
 replace HRD := hide hrd
 clear hrd hk HLY
 obtain ⟨w8, hw8⟩ : ∃ W, (w7.alloc (.cells #[.int .i64 0, .int .i64 0, .int .i64 0, .int .u8 0, .int .u8 0, .int .u8 0, .int .u8 0, .int .u8 0, .int .u8 0, .int .u8 0, .int .u8 0, .int .u8 0, .int .u8 0, .int .u8 0, .int .u8 0, .int .u8 0, .int .u8 0, .int .u8 0, .int .u8 0] 44)).setRow w7.heap.size (ceE (Z1, E1) 4) = W := ⟨_, rfl⟩
 have hk : Kp [] w7 w8 := by rw [← hw8]; exact kp_new10 _ _ _
 have hsz8 : w8.heap.size = w7.heap.size + 1 := by rw [← hw8]; simp
 replace HT := hide ((uh HT).trans hk (by simp))
 replace HA0 := hide ((uh HA0).kp hk (by simp))
 replace HA1 := hide ((uh HA1).kp hk (by simp))
 replace HCH := hide ((uh HCH).kp hk (by simp))
 replace HRD := hide ((uh HRD).keep hk (by simp) (by simp))
 have HCE : Hid (AtB w8 w7.heap.size (ceE (Z1, E1) 4) 44) := by rw [← hw8]; exact blk_new10 _ _ _ _
 have HWD := hide hw8
 clear hw8 hk
 go_wp2_with (first | (refine wpList_store_row rfl 44 _ _ rfl w7.heap.size (ceE (Z1, E1) 4) rfl rfl 44 #[.int .i64 0, .int .i64 0, .int .i64 0, .int .u8 0, .int .u8 0, .int .u8 0, .int .u8 0, .int .u8 0, .int .u8 0, .int .u8 0, .int .u8 0, .int .u8 0, .int .u8 0, .int .u8 0, .int .u8 0, .int .u8 0, .int .u8 0, .int .u8 0, .int .u8 0] (World.alloc_heap_new w7 _) (by rw [sizeTE, ceE_size]) (by rw [ceE_size]; rfl) (ceE_one _ _).all ?_; rw [uh HWD]))
 have hRl8 : R < w8.heap.size := by omega
 obtain ⟨BE, hBE⟩ : ∃ b, w7.heap.size = b := ⟨_, rfl⟩
 rw [hBE] at HCE ⊢
 clear HWD
 have HYT : Hid (Byt (st2 zs).1) := byt_rdS (byt_rdS (s := (zs, 0)) (uh HY))
 rw [show stp zE (Z1, E1) 4 = st2 zs from by rw [← uh HZ1]; rfl] at HRD
 obtain ⟨Z2, E2, hz2e⟩ : ∃ Z E, st2 zs = (Z, E) := ⟨_, _, rfl⟩
 have HZ2 := hide hz2e
 rw [hz2e] at HRD HYT
 clear hz2e
 dsimp only at HRD HYT
 go_wp2_with fail
 refine (layT_any _).mono ?_
 rintro e w9 ⟨L, c, rfl, hly, hLz, hcz, hk⟩
 have hsz := hk.size
 have hkk : Kp [] w8 w9 := (Kp.refl _ _).ofBelow hk
 replace HT := hide ((uh HT).trans hkk (by simp))
 replace HA0 := hide ((uh HA0).kp hkk (by simp))
 replace HA1 := hide ((uh HA1).kp hkk (by simp))
 replace HCH := hide ((uh HCH).kp hkk (by simp))
 replace HCE := hide ((uh HCE).kp hkk (by simp))
 replace HRD := hide ((uh HRD).keep hkk (by simp) (by simp))
 have HLY := hide hly
 have hRlt : R < w8.heap.size := hRl8
 clear hly hkk hk
 go_wp2_with fail
 refine (readT_any L c R q' _ _ _ (by omega) (uh HYT) (uh HRD) (uh HLY) (by omega) (fun i hi => by have := hcz i hi; omega)).mono ?_
 rintro e w10 ⟨rfl, hrd, hk⟩
 have hszb := hk.size
 replace HT := hide ((uh HT).trans hk (fun x hx => .inr (by simp at hx; omega)))
 replace HA0 := hide ((uh HA0).kp hk (by simp; omega))
 replace HA1 := hide ((uh HA1).kp hk (by simp; omega))
 replace HCH := hide ((uh HCH).kp hk (by simp; omega))
 replace HCE := hide ((uh HCE).kp hk (by simp; omega))
 replace HRD := hide hrd
 clear hrd hk HLY
 obtain ⟨w11, hw11⟩ : ∃ W, (w10.alloc (.cells #[.int .u8 0, .int .u8 0, .int .u8 0, .int .u8 0] 101)).setRow w10.heap.size (ceT (Z2, E2) 1) = W := ⟨_, rfl⟩
 have hk : Kp [] w10 w11 := by rw [← hw11]; exact kp_new10 _ _ _
 have hsz11 : w11.heap.size = w10.heap.size + 1 := by rw [← hw11]; simp
 replace HT := hide ((uh HT).trans hk (by simp))
 replace HA0 := hide ((uh HA0).kp hk (by simp))
 replace HA1 := hide ((uh HA1).kp hk (by simp))
 replace HCH := hide ((uh HCH).kp hk (by simp))
 replace HCE := hide ((uh HCE).kp hk (by simp))
 replace HRD := hide ((uh HRD).keep hk (by simp) (by simp))
 have HCT : Hid (AtB w11 w10.heap.size (ceT (Z2, E2) 1) 101) := by rw [← hw11]; exact blk_new10 _ _ _ _
 have HWD := hide hw11
 clear hw11 hk
 go_wp2_with (first | (refine wpList_store_row rfl 101 _ _ rfl w10.heap.size (ceT (Z2, E2) 1) rfl rfl 101 #[.int .u8 0, .int .u8 0, .int .u8 0, .int .u8 0] (World.alloc_heap_new w10 _) (by rw [sizeTT, ceT_size]) (by rw [ceT_size]; rfl) (ceT_one _ _).all ?_; rw [uh HWD]))
 have hRl11 : R < w11.heap.size := by omega
 obtain ⟨BT, hBT⟩ : ∃ b, w10.heap.size = b := ⟨_, rfl⟩
 rw [hBT] at HCT ⊢
 clear HWD
 rw [show stp zT (Z2, E2) 1 = st3 zs from by rw [← uh HZ2]; rfl] at HRD
 refine (end_any R q' _ _ _ (uh HRD)).mono ?_
 rintro e w12 ⟨rfl, hw12⟩
 subst hw12
 rw [show (if (st3 zs).2 = 0 ∧ (st3 zs).1 ≠ [] then (4 : Int) else (st3 zs).2) = cod zs from rfl]
 have hHs : w.heap.size ≤ BH := by omega
 rw [ceH_all, show rdL szH (zs, 0) = pH zs from rfl] at HCH
 have hEe : rdL szE (Z1, E1) = pE zs := by rw [← uh HZ1]; rfl
 have hTe : rdL szT (Z2, E2) = pT zs := by rw [← uh HZ2]; rfl
 rw [ceE_all _ (uh HYE), hEe, show nat10 ((pE zs).drop 3) = pD zs from rfl] at HCE
 rw [ceT_all _ (uh HYT), hTe] at HCT
 clear hEe hTe HZ1 HZ2 HYE HYT
 have HPT := hide (pT_nat zs (uh HY))
 have hTl := pT_nat_len zs
 have hDl := pD_len zs
 have hcc : Hid (w12.cell? ⟨BH, 0, none⟩ = some (.int .i64 ((pH zs).getD 0 0))) := cell_blk (uh HCH).blk rfl
 obtain ⟨X, hX⟩ : ∃ X, cod zs = X := ⟨_, rfl⟩
 rw [hX]
 have HX := hide hX
 clear hX
 obtain ⟨T, hT⟩ : ∃ T, nat10 (pT zs) = T := ⟨_, rfl⟩
 have HTT := hide hT
 rw [hT] at hTl HCT HPT
 clear hT
 have HP := hide (show badP zs ↔ (pT zs ≠ [0, 0, 0, 0] ∨ ¬ (1 ≤ (pH zs).getD 0 0 ∧ (pH zs).getD 0 0 ≤ 1099511627776) ∨ ¬ okE ((pE zs).getD 0 0) ((pE zs).getD 1 0) ((pE zs).getD 2 0) (pD zs)) from Iff.rfl)
 have HOKR := hide (fun e => @parR_ok zs e)
 obtain ⟨D, hD⟩ : ∃ D, pD zs = D := ⟨_, rfl⟩
 rw [hD] at HCE hDl HP HOKR
 obtain ⟨K, hK⟩ : ∃ x, (pE zs).getD 0 0 = x := ⟨_, rfl⟩
 obtain ⟨L, hL⟩ : ∃ x, (pE zs).getD 1 0 = x := ⟨_, rfl⟩
 obtain ⟨S, hS⟩ : ∃ x, (pE zs).getD 2 0 = x := ⟨_, rfl⟩
 obtain ⟨H0, hH0⟩ : ∃ x, (pH zs).getD 0 0 = x := ⟨_, rfl⟩
 obtain ⟨H1, hH1⟩ : ∃ x, (pH zs).getD 1 0 = x := ⟨_, rfl⟩
 obtain ⟨H2, hH2⟩ : ∃ x, (pH zs).getD 2 0 = x := ⟨_, rfl⟩
 obtain ⟨H3, hH3⟩ : ∃ x, (pH zs).getD 3 0 = x := ⟨_, rfl⟩
 rw [hK, hL, hS] at HCE HP HOKR
 rw [hH0] at HP hcc
 rw [hH0, hH1, hH2, hH3] at HCH HOKR
 clear hD hK hL hS hH0 hH1 hH2 hH3 HRD hRl2 hRl5 hRl8 hRl11
 obtain ⟨A0, hA0⟩ : ∃ A, w.heap.size = A := ⟨_, rfl⟩
 obtain ⟨A1, hA1⟩ : ∃ A, w.heap.size + 1 = A := ⟨_, rfl⟩
 rw [hA1] at HA1 ⊢
 rw [hA0] at HA0 ⊢
 have hne : A0 ≠ A1 := by omega
 have hA0s : w.heap.size ≤ A0 := by omega
 have hA1s : w.heap.size ≤ A1 := by omega
 have HSEP : Hid (BH ≠ A0 ∧ BH ≠ A1 ∧ BE ≠ A0 ∧ BE ≠ A1) := by have := (uh HT).size; exact ⟨by omega, by omega, by omega, by omega⟩
 have HQ : Hid (parE zs = X → X ≠ 0 → True) := fun _ _ => trivial
 clear HQ
 by_cases hx : X ≠ 0
 ·obtain ⟨t1, t2, t3, t4, -, -⟩ := two_rows (uh HT) (uh HA0) (uh HA1) hA0s hA1s hne #[.int .i64 0, .int .i64 0, .int .i64 0, .int .i64 0] #[.int .i64 0, .int .i64 0, .int .i64 0, .int .u8 0, .int .u8 0, .int .u8 0, .int .u8 0, .int .u8 0, .int .u8 0, .int .u8 0, .int .u8 0, .int .u8 0, .int .u8 0, .int .u8 0, .int .u8 0, .int .u8 0, .int .u8 0, .int .u8 0, .int .u8 0]
  obtain ⟨w13, hw13⟩ : ∃ W, w12.setRow A0 #[.int .i64 0, .int .i64 0, .int .i64 0, .int .i64 0] = W := ⟨_, rfl⟩
  rw [hw13] at t1 t2 t3 t4
  obtain ⟨w14, hw14⟩ : ∃ W, w13.setRow A1 #[.int .i64 0, .int .i64 0, .int .i64 0, .int .u8 0, .int .u8 0, .int .u8 0, .int .u8 0, .int .u8 0, .int .u8 0, .int .u8 0, .int .u8 0, .int .u8 0, .int .u8 0, .int .u8 0, .int .u8 0, .int .u8 0, .int .u8 0, .int .u8 0, .int .u8 0] = W := ⟨_, rfl⟩
  rw [hw14] at t2 t3 t4
  have HT1 := hide t1
  have HT2 := hide t2
  have HT3 := hide t3
  have HT4 := hide t4
  have HW13 := hide hw13
  have HW14 := hide hw14
  clear t1 t2 t3 t4 hw13 hw14
  have hq : (X != 0) = true := by rw [bne_iff_ne]; exact hx
  go_wp2_with (first | (refine wpList_store_row rfl 57 _ _ rfl A0 #[.int .i64 0, .int .i64 0, .int .i64 0, .int .i64 0] rfl rfl 57 #[.int .i64 0, .int .i64 0, .int .i64 0, .int .i64 0] (uh HA0).blk (by rw [sizeTH]; rfl) rfl (one_head 0 0 0 0) ?_; rw [uh HW13]) | (refine wpList_store_row rfl 44 _ _ rfl A1 #[.int .i64 0, .int .i64 0, .int .i64 0, .int .u8 0, .int .u8 0, .int .u8 0, .int .u8 0, .int .u8 0, .int .u8 0, .int .u8 0, .int .u8 0, .int .u8 0, .int .u8 0, .int .u8 0, .int .u8 0, .int .u8 0, .int .u8 0, .int .u8 0, .int .u8 0] rfl rfl 44 #[.int .i64 0, .int .i64 0, .int .i64 0, .int .u8 0, .int .u8 0, .int .u8 0, .int .u8 0, .int .u8 0, .int .u8 0, .int .u8 0, .int .u8 0, .int .u8 0, .int .u8 0, .int .u8 0, .int .u8 0, .int .u8 0, .int .u8 0, .int .u8 0, .int .u8 0] (uh HT1).blk (by rw [sizeTE]; rfl) rfl (entA_one 0 0 0 zer16) ?_; rw [uh HW14]))
  refine bodyPost_ret (results_cct rfl _ _ ⟨A0, 0, none⟩ ⟨A1, 0, none⟩ _ _ rfl rfl (load_TH (uh HT2).blk rfl) (load_TE (uh HT3).blk rfl)) rfl ?_
  exact ⟨parR_bad (parE_code (by rw [uh HX]; exact hx) |>.trans (uh HX)) hx rfl, (uh HT4).below⟩
 have hx0 : X = 0 := Classical.not_not.1 hx
 subst hx0
 clear hx
 by_cases htt : T ≠ [0, 0, 0, 0]
 ·have HBAD : Hid (badP zs) := (uh HP).2 (.inl (fun h => htt ((uh HPT).2 h)))
  obtain ⟨t1, t2, t3, t4, -, -⟩ := two_rows (uh HT) (uh HA0) (uh HA1) hA0s hA1s hne #[.int .i64 0, .int .i64 0, .int .i64 0, .int .i64 0] #[.int .i64 0, .int .i64 0, .int .i64 0, .int .u8 0, .int .u8 0, .int .u8 0, .int .u8 0, .int .u8 0, .int .u8 0, .int .u8 0, .int .u8 0, .int .u8 0, .int .u8 0, .int .u8 0, .int .u8 0, .int .u8 0, .int .u8 0, .int .u8 0, .int .u8 0]
  obtain ⟨w13, hw13⟩ : ∃ W, w12.setRow A0 #[.int .i64 0, .int .i64 0, .int .i64 0, .int .i64 0] = W := ⟨_, rfl⟩
  rw [hw13] at t1 t2 t3 t4
  obtain ⟨w14, hw14⟩ : ∃ W, w13.setRow A1 #[.int .i64 0, .int .i64 0, .int .i64 0, .int .u8 0, .int .u8 0, .int .u8 0, .int .u8 0, .int .u8 0, .int .u8 0, .int .u8 0, .int .u8 0, .int .u8 0, .int .u8 0, .int .u8 0, .int .u8 0, .int .u8 0, .int .u8 0, .int .u8 0, .int .u8 0] = W := ⟨_, rfl⟩
  rw [hw14] at t2 t3 t4
  have HT1 := hide t1
  have HT2 := hide t2
  have HT3 := hide t3
  have HT4 := hide t4
  have HW13 := hide hw13
  have HW14 := hide hw14
  clear t1 t2 t3 t4 hw13 hw14
  have hq : ∀ W, (binOp .neq 101 (.agg (tailA T)) (.agg #[.int .u8 0, .int .u8 0, .int .u8 0, .int .u8 0])).run Tryz.prog W = .ok (.bool true) W := fun W => neTT T [0, 0, 0, 0] hTl rfl true (by rw [decide_eq_false htt]; rfl) W
  clear htt
  go_wp2_with (first | (refine wpList_load_row rfl 101 _ rfl BT rfl 101 (tailA T) _ _ (uh HCT).blk Tryz.underlying101 rfl (by rw [sizeTT, tailA, List.size_toArray, datL_len, hTl]) ?_) | (refine wpList_store_row rfl 57 _ _ rfl A0 #[.int .i64 0, .int .i64 0, .int .i64 0, .int .i64 0] rfl rfl 57 #[.int .i64 0, .int .i64 0, .int .i64 0, .int .i64 0] (uh HA0).blk (by rw [sizeTH]; rfl) rfl (one_head 0 0 0 0) ?_; rw [uh HW13]) | (refine wpList_store_row rfl 44 _ _ rfl A1 #[.int .i64 0, .int .i64 0, .int .i64 0, .int .u8 0, .int .u8 0, .int .u8 0, .int .u8 0, .int .u8 0, .int .u8 0, .int .u8 0, .int .u8 0, .int .u8 0, .int .u8 0, .int .u8 0, .int .u8 0, .int .u8 0, .int .u8 0, .int .u8 0, .int .u8 0] rfl rfl 44 #[.int .i64 0, .int .i64 0, .int .i64 0, .int .u8 0, .int .u8 0, .int .u8 0, .int .u8 0, .int .u8 0, .int .u8 0, .int .u8 0, .int .u8 0, .int .u8 0, .int .u8 0, .int .u8 0, .int .u8 0, .int .u8 0, .int .u8 0, .int .u8 0, .int .u8 0] (uh HT1).blk (by rw [sizeTE]; rfl) rfl (entA_one 0 0 0 zer16) ?_; rw [uh HW14]))
  refine bodyPost_ret (results_cct rfl _ _ ⟨A0, 0, none⟩ ⟨A1, 0, none⟩ _ _ rfl rfl (load_TH (uh HT2).blk rfl) (load_TE (uh HT3).blk rfl)) rfl ?_
  exact ⟨parR_bad (parE_bad (uh HX) (uh HBAD)) (by omega) rfl, (uh HT4).below⟩
 have HTZ : Hid (T = [0, 0, 0, 0]) := Classical.not_not.1 htt
 clear htt
 by_cases hin : 1 ≤ H0 ∧ H0 ≤ 1099511627776
 ·have HIN := hide (decide_eq_true hin)
  by_cases hok : okE K L S D
  ·have HCK := hide (chkE_ok hok)
   have HBAD : Hid (¬ badP zs) := fun h => by
    rcases (uh HP).1 h with h | h | h
    ·exact h ((uh HPT).1 (uh HTZ))
    ·exact h hin
    exact h hok
   clear hin hok
   have hq : ∀ W, (binOp .neq 101 (.agg (tailA T)) (.agg #[.int .u8 0, .int .u8 0, .int .u8 0, .int .u8 0])).run Tryz.prog W = .ok (.bool false) W := fun W => neTT T [0, 0, 0, 0] hTl rfl false (by rw [decide_eq_true (uh HTZ)]; rfl) W
   have hc0 := uh hcc
   go_wp2_with (refine wpList_load_row rfl 101 _ rfl BT rfl 101 (tailA T) _ _ (uh HCT).blk Tryz.underlying101 rfl (by rw [sizeTT, tailA, List.size_toArray, datL_len, hTl]) ?_)
   refine (ewithin_any H0 1 1099511627776 _ true (uh HIN)).mono ?_
   rintro e w15 ⟨rfl, hw15⟩
   subst hw15
   go_wp2_with (refine wpList_load_want10 rfl 44 _ rfl BE rfl 44 (entA K L S D) _ _ (uh HCE).blk Tryz.underlying44 rfl (by rw [sizeTE, entA_size hDl]) ?_)
   refine (echeck_any K L S D hDl _).mono ?_
   rintro e w16 ⟨rfl, hk⟩
   rw [uh HCK]
   replace HA0 := hide ((uh HA0).below hk)
   replace HA1 := hide ((uh HA1).below hk)
   replace HCH := hide ((uh HCH).below hk)
   replace HCE := hide ((uh HCE).below hk)
   replace HT := hide ((uh HT).ofBelow hk)
   have hc0' : w16.cell? ⟨BH, 0, none⟩ = some (.int .i64 H0) := cell_blk (uh HCH).blk rfl
   clear hk hc0
   go_wp2_with fail
   replace HT := hide ((uh HT).ofBelow (Below.refl _ _).drew)
   replace HA0 := hide ((uh HA0).below (Below.refl _ _).drew)
   replace HA1 := hide ((uh HA1).below (Below.refl _ _).drew)
   replace HCH := hide ((uh HCH).below (Below.refl _ _).drew)
   replace HCE := hide ((uh HCE).below (Below.refl _ _).drew)
   refine wp_region_noPanic ?_
   refine wp_region_held_drew (S := fun V => Kp [A0, A1] w16.drew V) (by kernel_rfl) (Kp.refl _ _) (fun hHeld => ?_)
   have HH := hide hHeld
   clear hHeld hc0'
   generalize w16.drew = w5 at HT HA0 HA1 HCH HCE HH ⊢
   obtain ⟨t1, t2, t3, t4, t5, t6⟩ := two_rows (uh HT) (uh HA0) (uh HA1) hA0s hA1s hne (headA H0 H1 H2 H3) (entA K L S D)
   obtain ⟨w13, hw13⟩ : ∃ W, w5.setRow A0 (headA H0 H1 H2 H3) = W := ⟨_, rfl⟩
   rw [hw13] at t1 t2 t3 t4 t5 t6
   obtain ⟨w14, hw14⟩ : ∃ W, w13.setRow A1 (entA K L S D) = W := ⟨_, rfl⟩
   rw [hw14] at t2 t3 t4 t6
   have HT1 := hide t1
   have HT2 := hide t2
   have HT3 := hide t3
   have HT4 := hide t4
   have HKK1 := hide t5
   have HKK2 := hide t6
   have HW13 := hide hw13
   have HW14 := hide hw14
   clear t1 t2 t3 t4 t5 t6 hw13 hw14
   refine takeL (i := 0) (v := .agg (headA H0 H1 H2 H3)) rfl (by kernel_rfl) (by kernel_rfl) (by kernel_rfl) (fun _ _ _ h => h) (Or.inl ⟨by rfl, fun W1 hSW => run_load_agg9 rfl rfl (load_TH (hSW.heap (uh HCH).blk (by have := uh HSEP; simp; omega)) rfl)⟩) (uh HH) ?_
   (try simp only [layB])
   refine takeL (i := 1) (v := .agg (entA K L S D)) rfl (by kernel_rfl) (by kernel_rfl) (by kernel_rfl) (fun _ _ _ h => h) (Or.inl ⟨by rfl, fun W1 hSW => run_load_agg9 rfl rfl (load_TE (hSW.heap (uh HCE).blk (by have := uh HSEP; simp; omega)) (entA_size hDl))⟩) (uh HH) ?_
   (try simp only [layB])
   refine wpAnyH_ready (rs := [2]) (by kernel_rfl) (by simp) ?_
   refine consL rfl (fun K0 hK => ?_) AllReadyH.nil
   refine wp_store_row (P := Tryz.prog) 57 (.tmp 2) (.tmp 44) (by rfl) A0 (headA H0 H1 H2 H3) (by rfl) (by rfl) 57 #[.int .i64 0, .int .i64 0, .int .i64 0, .int .i64 0] (uh HA0).blk (by rw [sizeTH]; rfl) (rfl) (one_head _ _ _ _) ?_
   rw [uh HW13]
   refine hK.out _ _ (uh HKK1) (fun hHeld => ?_)
   clear hK K0 HH
   have HH := hide hHeld
   clear hHeld
   (try simp only [Act.put])
   refine wpAnyH_ready (rs := [3]) (by kernel_rfl) (by simp) ?_
   refine consL rfl (fun K0 hK => ?_) AllReadyH.nil
   refine wp_store_row (P := Tryz.prog) 44 (.tmp 3) (.tmp 45) (by rfl) A1 (entA K L S D) (by rfl) (by rfl) 44 #[.int .i64 0, .int .i64 0, .int .i64 0, .int .u8 0, .int .u8 0, .int .u8 0, .int .u8 0, .int .u8 0, .int .u8 0, .int .u8 0, .int .u8 0, .int .u8 0, .int .u8 0, .int .u8 0, .int .u8 0, .int .u8 0, .int .u8 0, .int .u8 0, .int .u8 0] (uh HT1).blk (by rw [sizeTE, entA_size hDl]) (by rw [entA_size hDl]; rfl) (entA_one _ _ _ _) ?_
   rw [uh HW14]
   refine hK.out _ _ (uh HKK2) (fun hHeld => ?_)
   clear hK K0 HH
   have HH := hide hHeld
   clear hHeld
   (try simp only [Act.put])
   refine tkL 4 (uh HH) ?_
   (try simp only [layB])
   refine wpAnyH_done (by kernel_rfl) ?_ _
   refine NoPanic.normal ?_
   go_wp2_with fail
   refine bodyPost_ret (results_cct rfl _ _ ⟨A0, 0, none⟩ ⟨A1, 0, none⟩ _ _ rfl rfl (load_TH (uh HT2).blk rfl) (load_TE (uh HT3).blk (entA_size hDl))) rfl ?_
   exact ⟨uh HOKR _ (parE_ok (uh HX) (uh HBAD)) rfl, (uh HT4).below⟩
  have HCK := hide (chkE_not hok)
  have HBAD : Hid (badP zs) := (uh HP).2 (.inr (.inr hok))
  clear hin hok
  have hq : ∀ W, (binOp .neq 101 (.agg (tailA T)) (.agg #[.int .u8 0, .int .u8 0, .int .u8 0, .int .u8 0])).run Tryz.prog W = .ok (.bool false) W := fun W => neTT T [0, 0, 0, 0] hTl rfl false (by rw [decide_eq_true (uh HTZ)]; rfl) W
  have hc0 := uh hcc
  go_wp2_with (refine wpList_load_row rfl 101 _ rfl BT rfl 101 (tailA T) _ _ (uh HCT).blk Tryz.underlying101 rfl (by rw [sizeTT, tailA, List.size_toArray, datL_len, hTl]) ?_)
  refine (ewithin_any H0 1 1099511627776 _ true (uh HIN)).mono ?_
  rintro e w15 ⟨rfl, hw15⟩
  subst hw15
  go_wp2_with (refine wpList_load_want10 rfl 44 _ rfl BE rfl 44 (entA K L S D) _ _ (uh HCE).blk Tryz.underlying44 rfl (by rw [sizeTE, entA_size hDl]) ?_)
  refine (echeck_any K L S D hDl _).mono ?_
  rintro e w16 ⟨rfl, hk⟩
  rw [uh HCK]
  replace HA0 := hide ((uh HA0).below hk)
  replace HA1 := hide ((uh HA1).below hk)
  replace HCH := hide ((uh HCH).below hk)
  replace HCE := hide ((uh HCE).below hk)
  replace HT := hide ((uh HT).ofBelow hk)
  have hc0' : w16.cell? ⟨BH, 0, none⟩ = some (.int .i64 H0) := cell_blk (uh HCH).blk rfl
  clear hk hc0
  obtain ⟨t1, t2, t3, t4, -, -⟩ := two_rows (uh HT) (uh HA0) (uh HA1) hA0s hA1s hne #[.int .i64 0, .int .i64 0, .int .i64 0, .int .i64 0] #[.int .i64 0, .int .i64 0, .int .i64 0, .int .u8 0, .int .u8 0, .int .u8 0, .int .u8 0, .int .u8 0, .int .u8 0, .int .u8 0, .int .u8 0, .int .u8 0, .int .u8 0, .int .u8 0, .int .u8 0, .int .u8 0, .int .u8 0, .int .u8 0, .int .u8 0]
  obtain ⟨w13, hw13⟩ : ∃ W, w16.setRow A0 #[.int .i64 0, .int .i64 0, .int .i64 0, .int .i64 0] = W := ⟨_, rfl⟩
  rw [hw13] at t1 t2 t3 t4
  obtain ⟨w14, hw14⟩ : ∃ W, w13.setRow A1 #[.int .i64 0, .int .i64 0, .int .i64 0, .int .u8 0, .int .u8 0, .int .u8 0, .int .u8 0, .int .u8 0, .int .u8 0, .int .u8 0, .int .u8 0, .int .u8 0, .int .u8 0, .int .u8 0, .int .u8 0, .int .u8 0, .int .u8 0, .int .u8 0, .int .u8 0] = W := ⟨_, rfl⟩
  rw [hw14] at t2 t3 t4
  have HT1 := hide t1
  have HT2 := hide t2
  have HT3 := hide t3
  have HT4 := hide t4
  have HW13 := hide hw13
  have HW14 := hide hw14
  clear t1 t2 t3 t4 hw13 hw14
  go_wp2_with (first | (refine wpList_store_row rfl 57 _ _ rfl A0 #[.int .i64 0, .int .i64 0, .int .i64 0, .int .i64 0] rfl rfl 57 #[.int .i64 0, .int .i64 0, .int .i64 0, .int .i64 0] (uh HA0).blk (by rw [sizeTH]; rfl) rfl (one_head 0 0 0 0) ?_; rw [uh HW13]) | (refine wpList_store_row rfl 44 _ _ rfl A1 #[.int .i64 0, .int .i64 0, .int .i64 0, .int .u8 0, .int .u8 0, .int .u8 0, .int .u8 0, .int .u8 0, .int .u8 0, .int .u8 0, .int .u8 0, .int .u8 0, .int .u8 0, .int .u8 0, .int .u8 0, .int .u8 0, .int .u8 0, .int .u8 0, .int .u8 0] rfl rfl 44 #[.int .i64 0, .int .i64 0, .int .i64 0, .int .u8 0, .int .u8 0, .int .u8 0, .int .u8 0, .int .u8 0, .int .u8 0, .int .u8 0, .int .u8 0, .int .u8 0, .int .u8 0, .int .u8 0, .int .u8 0, .int .u8 0, .int .u8 0, .int .u8 0, .int .u8 0] (uh HT1).blk (by rw [sizeTE]; rfl) rfl (entA_one 0 0 0 zer16) ?_; rw [uh HW14]))
  refine bodyPost_ret (results_cct rfl _ _ ⟨A0, 0, none⟩ ⟨A1, 0, none⟩ _ _ rfl rfl (load_TH (uh HT2).blk rfl) (load_TE (uh HT3).blk rfl)) rfl ?_
  exact ⟨parR_bad (parE_bad (uh HX) (uh HBAD)) (by omega) rfl, (uh HT4).below⟩
 have HIN := hide (decide_eq_false hin)
 have HBAD : Hid (badP zs) := (uh HP).2 (.inr (.inl hin))
 clear hin
 obtain ⟨t1, t2, t3, t4, -, -⟩ := two_rows (uh HT) (uh HA0) (uh HA1) hA0s hA1s hne #[.int .i64 0, .int .i64 0, .int .i64 0, .int .i64 0] #[.int .i64 0, .int .i64 0, .int .i64 0, .int .u8 0, .int .u8 0, .int .u8 0, .int .u8 0, .int .u8 0, .int .u8 0, .int .u8 0, .int .u8 0, .int .u8 0, .int .u8 0, .int .u8 0, .int .u8 0, .int .u8 0, .int .u8 0, .int .u8 0, .int .u8 0]
 obtain ⟨w13, hw13⟩ : ∃ W, w12.setRow A0 #[.int .i64 0, .int .i64 0, .int .i64 0, .int .i64 0] = W := ⟨_, rfl⟩
 rw [hw13] at t1 t2 t3 t4
 obtain ⟨w14, hw14⟩ : ∃ W, w13.setRow A1 #[.int .i64 0, .int .i64 0, .int .i64 0, .int .u8 0, .int .u8 0, .int .u8 0, .int .u8 0, .int .u8 0, .int .u8 0, .int .u8 0, .int .u8 0, .int .u8 0, .int .u8 0, .int .u8 0, .int .u8 0, .int .u8 0, .int .u8 0, .int .u8 0, .int .u8 0] = W := ⟨_, rfl⟩
 rw [hw14] at t2 t3 t4
 have HT1 := hide t1
 have HT2 := hide t2
 have HT3 := hide t3
 have HT4 := hide t4
 have HW13 := hide hw13
 have HW14 := hide hw14
 clear t1 t2 t3 t4 hw13 hw14
 have hq : ∀ W, (binOp .neq 101 (.agg (tailA T)) (.agg #[.int .u8 0, .int .u8 0, .int .u8 0, .int .u8 0])).run Tryz.prog W = .ok (.bool false) W := fun W => neTT T [0, 0, 0, 0] hTl rfl false (by rw [decide_eq_true (uh HTZ)]; rfl) W
 have hc0 := uh hcc
 go_wp2_with (refine wpList_load_row rfl 101 _ rfl BT rfl 101 (tailA T) _ _ (uh HCT).blk Tryz.underlying101 rfl (by rw [sizeTT, tailA, List.size_toArray, datL_len, hTl]) ?_)
 refine (ewithin_any H0 1 1099511627776 _ false (uh HIN)).mono ?_
 rintro e w15 ⟨rfl, hw15⟩
 subst hw15
 go_wp2_with (first | (refine wpList_store_row rfl 57 _ _ rfl A0 #[.int .i64 0, .int .i64 0, .int .i64 0, .int .i64 0] rfl rfl 57 #[.int .i64 0, .int .i64 0, .int .i64 0, .int .i64 0] (uh HA0).blk (by rw [sizeTH]; rfl) rfl (one_head 0 0 0 0) ?_; rw [uh HW13]) | (refine wpList_store_row rfl 44 _ _ rfl A1 #[.int .i64 0, .int .i64 0, .int .i64 0, .int .u8 0, .int .u8 0, .int .u8 0, .int .u8 0, .int .u8 0, .int .u8 0, .int .u8 0, .int .u8 0, .int .u8 0, .int .u8 0, .int .u8 0, .int .u8 0, .int .u8 0, .int .u8 0, .int .u8 0, .int .u8 0] rfl rfl 44 #[.int .i64 0, .int .i64 0, .int .i64 0, .int .u8 0, .int .u8 0, .int .u8 0, .int .u8 0, .int .u8 0, .int .u8 0, .int .u8 0, .int .u8 0, .int .u8 0, .int .u8 0, .int .u8 0, .int .u8 0, .int .u8 0, .int .u8 0, .int .u8 0, .int .u8 0] (uh HT1).blk (by rw [sizeTE]; rfl) rfl (entA_one 0 0 0 zer16) ?_; rw [uh HW14]))
 refine bodyPost_ret (results_cct rfl _ _ ⟨A0, 0, none⟩ ⟨A1, 0, none⟩ _ _ rfl rfl (load_TH (uh HT2).blk rfl) (load_TE (uh HT3).blk rfl)) rfl ?_
 exact ⟨parR_bad (parE_bad (uh HX) (uh HBAD)) (by omega) rfl, (uh HT4).below⟩
end Go.Proofs.YtjdikhelabibnaaGreat

namespace Go.Proofs.YtjdikhelabibnaaGreat
open Go.RowKit Go.Shelf
theorem two_new10 (w : World) (LH LE CH CE : Array Value) (t0 t1 : TypeId) : ∀ W, ((((w.alloc (.cells LH t0)).alloc (.cells LE t1)).setRow w.heap.size CH).setRow (w.heap.size + 1) CE) = W →
  AtB ((w.alloc (.cells LH t0)).alloc (.cells LE t1)) w.heap.size LH t0 ∧ AtB (((w.alloc (.cells LH t0)).alloc (.cells LE t1)).setRow w.heap.size CH) (w.heap.size + 1) LE t1 ∧ AtB W w.heap.size CH t0 ∧ AtB W (w.heap.size + 1) CE t1 ∧ Below w.heap.size w W := by
 rintro W rfl
 have h0 : AtB ((w.alloc (.cells LH t0)).alloc (.cells LE t1)) w.heap.size LH t0 := ⟨(Below.heap_alloc _ _ _ (by simp)).trans (World.alloc_heap_new w _)⟩
 have h1 : AtB ((w.alloc (.cells LH t0)).alloc (.cells LE t1)) (w.heap.size + 1) LE t1 := ⟨by
  have := World.alloc_heap_new (w.alloc (.cells LH t0)) (.cells LE t1)
  rwa [World.size_alloc] at this⟩
 obtain ⟨t1, t2, t3, t4, -, -⟩ := two_rows (((Kp.refl [] w).alloc _).alloc _) h0 h1 (Nat.le_refl _) (by omega) (by omega) CH CE
 exact ⟨h0, t1, t2, t3, t4.below⟩
end Go.Proofs.YtjdikhelabibnaaGreat

namespace Go.Proofs.YtjdikhelabibnaaGreat
open Go.RowKit Go.Shelf
theorem owns_below10 {w w' : World} {base n size : Nat} {e : TypeId} {v : Value} {xs : List Value} (h : w.ownsRow base e size v n xs) (k : Below w.heap.size w w') : w'.ownsRow base e size v n xs :=
 (Kp.ofBelow (Kp.refl [] w) k).owns h (by simp)
theorem World.ownsRow_mono10 {w : World} {b b' : Nat} {e : TypeId} {size : Nat} {v : Value} {n : Nat} {xs : List Value} (h : w.ownsRow b e size v n xs) (hb : b' ≤ b) : w.ownsRow b' e size v n xs := by
 refine ⟨h.1, ?_⟩
 rcases h.2 with hx | ⟨g, cap, cur, h1, h2, h3⟩
 ·exact .inl hx
 exact .inr ⟨g, cap, cur, h1, by omega, h3⟩
theorem ints_getD10 (d : List Nat) (j : Nat) : (ints d).getD j 0 = ((cf d j : Nat) : Int) := by
 unfold ints
 rw [List.getD_eq_getElem?_getD, List.getElem?_map]
 by_cases h : j < d.length
 ·rw [cf_get h]
  rfl
 rw [List.getElem?_eq_none (by omega), cf_ge (by omega)]
 rfl
theorem kp_below10 {w w' : World} {base : Nat} {e : TypeId} {v : Value} {n : Nat} {xs : List Value} (hk : Kp v.ownBlock.toList w w') (ho : w.ownsRow base e 1 v n xs) (hb : base ≤ w.heap.size) : Below base w w' := by
 refine ⟨hk.os, hk.tape, hk.output, hk.size, fun k h => hk.block k (by omega) (fun hm => ?_)⟩
 rcases ho.2 with ⟨rfl, _⟩ | ⟨g, cap, cur, rfl, hg, _⟩
 ·simp [Value.ownBlock] at hm
 simp [Value.ownBlock] at hm
 omega
set_option maxRecDepth 100000 in
set_option maxHeartbeats 8000000 in
theorem rbytes_any (x0 x1 x2 x3 k l s : Int) (d : List Nat) (hd : d.length = 16) (w : World) : Calls Tryz.prog 31 #[.agg (headA x0 x1 x2 x3), .agg (entA k l s d)] w fun e w' =>
  ∃ g c, e = .returned (.slice (some ⟨g, 0, none⟩) 48 c) ∧ w'.ownsRow w.heap.size 5 1 (.slice (some ⟨g, 0, none⟩) 48 c) 48 ((byT x0 x1 x2 x3 k l s d).map (Value.int .u8)) ∧ Below w.heap.size w w' := by
 obtain ⟨w1, hw1⟩ : ∃ w1, (w.alloc (.cells (headA x0 x1 x2 x3) 57)).alloc (.cells (entA k l s d) 44) = w1 := ⟨_, rfl⟩
 have HT : Hid (Below w.heap.size w w1) := by rw [← hw1]; exact ((Below.refl _ w).alloc (Nat.le_refl _) _).alloc (by simp) _
 obtain ⟨base, hbase⟩ : ∃ b, w1.heap.size = b := ⟨_, rfl⟩
 have hz : w1.heap.size = w.heap.size + 2 := by rw [← hw1]; simp
 have HBH : Hid (AtB w1 w.heap.size (headA x0 x1 x2 x3) 57) := ⟨by rw [← hw1]; exact (Below.heap_alloc _ _ _ (by simp)).trans (World.alloc_heap_new w _)⟩
 have HBE : Hid (AtB w1 (w.heap.size + 1) (entA k l s d) 44) := ⟨by
  rw [← hw1]
  have := World.alloc_heap_new (w.alloc (.cells (headA x0 x1 x2 x3) 57)) (.cells (entA k l s d) 44)
  rwa [World.size_alloc] at this⟩
 have HBS : Hid (w.heap.size ≤ base ∧ w.heap.size < base ∧ w.heap.size + 1 < base) := ⟨by omega, by omega, by omega⟩
 have HSZ : Hid (base ≤ w1.heap.size) := by unfold Hid; omega
 obtain ⟨i0, hi0, hz0, hzz1, hz2⟩ := info_parts infoE
 have HI0 := hide hi0
 clear hi0
 have c0 : w1.cell? ⟨w.heap.size, 0, none⟩ = some (.int .i64 x0) := cell_blk (uh HBH).blk rfl
 have HBA := hide hbase
 clear hbase hz
 go_enter Tryz.func31, Tryz.ntmps31
 go_wp2_with fail
 clear hw1
 refine (xwint (.slice none 0 0) 0 [] x0 base w1 (World.ownsRow_nil _ _ _ _) (by omega) (uh HSZ)).mono ?_
 rintro e w2 ⟨g2, c2, rfl, ho, hk, -⟩
 have hkb : Below base w1 w2 := kp_below10 (e := 5) hk (World.ownsRow_nil _ _ _ _) (uh HSZ)
 replace HT := hide ((uh HT).trans (hkb.mono (uh HBS).1))
 replace HBH := hide (AtB.mk ((hkb.block _ (uh HBS).2.1).trans (uh HBH).blk))
 replace HBE := hide (AtB.mk ((hkb.block _ (uh HBS).2.2).trans (uh HBE).blk))
 replace HSZ : Hid (base ≤ w2.heap.size) := Nat.le_trans (uh HSZ) hkb.size
 have HO := hide ho
 clear ho hk hkb c0
 go_wp2_with fail
 replace HT := hide ((uh HT).drew)
 replace HBH := hide ((uh HBH).below (Below.refl _ _).drew)
 replace HBE := hide ((uh HBE).below (Below.refl _ _).drew)
 have HO21 : Hid (w2.drew.ownsRow base 5 1 (.slice (some ⟨g2, 0, none⟩) 8 c2) 8 ((([] ++ by8 8 (IntKind.u64.wrap x0))).map (Value.int .u8))) := owns_below10 (uh HO) (Below.refl _ _).drew
 replace HSZ : Hid (base ≤ w2.drew.heap.size) := uh HSZ
 refine wp_region_noPanic ?_
 refine wp_region_held_drew (S := fun V => Below base w2.drew V) (by kernel_rfl) (Below.refl _ _) (fun hHeld => ?_)
 have HH := hide hHeld
 clear hHeld
 generalize w2.drew = w21 at HT HBH HBE HO21 HSZ HH ⊢
 have HSW := HSZ
 refine tkL 0 (uh HH) ?_
 (try simp only [layB])
 refine tkL 1 (uh HH) ?_
 (try simp only [layB])
 refine tkW 2 (v := ?_) ?_ (uh HH) ?_
 rotate_left 1
 ·intro V hSV; have hcl : V.cell? ⟨w.heap.size, 1, none⟩ = some (.int .i64 x1) := cell_blk ((hSV.block _ (uh HBS).2.1).trans (uh HBH).blk) rfl; clear hSV; go_simp; all_goals (with_reducible rfl)
 (try simp only [layB])
 refine tkL 4 (uh HH) ?_
 (try simp only [layB])
 refine tkW 5 (v := ?_) ?_ (uh HH) ?_
 rotate_left 1
 ·intro V hSV; have hcl : V.cell? ⟨w.heap.size, 2, none⟩ = some (.int .i64 x2) := cell_blk ((hSV.block _ (uh HBS).2.1).trans (uh HBH).blk) rfl; clear hSV; go_simp; all_goals (with_reducible rfl)
 (try simp only [layB])
 refine tkL 7 (uh HH) ?_
 (try simp only [layB])
 refine tkW 8 (v := ?_) ?_ (uh HH) ?_
 rotate_left 1
 ·intro V hSV; have hcl : V.cell? ⟨w.heap.size, 3, none⟩ = some (.int .i64 x3) := cell_blk ((hSV.block _ (uh HBS).2.1).trans (uh HBH).blk) rfl; clear hSV; go_simp; all_goals (with_reducible rfl)
 (try simp only [layB])
 refine tkL 10 (uh HH) ?_
 (try simp only [layB])
 refine tkW 11 (v := ?_) ?_ (uh HH) ?_
 rotate_left 1
 ·intro V hSV; have hcl : V.cell? ⟨w.heap.size + 1, 0, none⟩ = some (.int .i64 k) := cell_blk ((hSV.block _ (uh HBS).2.2).trans (uh HBE).blk) rfl; clear hSV; go_simp; all_goals (with_reducible rfl)
 (try simp only [layB])
 refine wpAnyH_ready (rs := [3]) (by kernel_rfl) (by simp) ?_
 refine consL rfl (fun K hK => ?_) AllReadyH.nil
 go_simp
 refine (xwbyte (.slice (some ⟨g2, 0, none⟩) 8 c2) 8 (([] ++ by8 8 (IntKind.u64.wrap x0))) x1 base _ (uh HO21) (by omega) (uh HSW)).mono ?_
 rintro e w22 ⟨g22, c22, rfl, ho, hk, -⟩
 have hS : Below base w21 w22 := (uh HH).trans (kp_below10 hk (uh HO21) (uh HSW))
 replace HSW : Hid (base ≤ w22.heap.size) := Nat.le_trans (uh HSW) hk.size
 have HO22 := hide ho
 clear ho hk
 refine hK.out _ _ hS (fun hHeld => ?_)
 clear hK K HH hS
 have HH := hide hHeld
 clear hHeld
 (try simp only [layB])
 refine wpAnyH_ready (rs := [6]) (by kernel_rfl) (by simp) ?_
 refine consL rfl (fun K hK => ?_) AllReadyH.nil
 go_simp
 refine (xwbyte (.slice (some ⟨g22, 0, none⟩) 9 c22) 9 ((([] ++ by8 8 (IntKind.u64.wrap x0)) ++ [x1 % 256])) x2 base _ (uh HO22) (by omega) (uh HSW)).mono ?_
 rintro e w23 ⟨g23, c23, rfl, ho, hk, -⟩
 have hS : Below base w21 w23 := (uh HH).trans (kp_below10 hk (uh HO22) (uh HSW))
 replace HSW : Hid (base ≤ w23.heap.size) := Nat.le_trans (uh HSW) hk.size
 have HO23 := hide ho
 clear ho hk
 refine hK.out _ _ hS (fun hHeld => ?_)
 clear hK K HH hS
 have HH := hide hHeld
 clear hHeld
 (try simp only [layB])
 refine wpAnyH_ready (rs := [9]) (by kernel_rfl) (by simp) ?_
 refine consL rfl (fun K hK => ?_) AllReadyH.nil
 go_simp
 refine (xwbyte (.slice (some ⟨g23, 0, none⟩) 10 c23) 10 (((([] ++ by8 8 (IntKind.u64.wrap x0)) ++ [x1 % 256]) ++ [x2 % 256])) x3 base _ (uh HO23) (by omega) (uh HSW)).mono ?_
 rintro e w24 ⟨g24, c24, rfl, ho, hk, -⟩
 have hS : Below base w21 w24 := (uh HH).trans (kp_below10 hk (uh HO23) (uh HSW))
 replace HSW : Hid (base ≤ w24.heap.size) := Nat.le_trans (uh HSW) hk.size
 have HO24 := hide ho
 clear ho hk
 refine hK.out _ _ hS (fun hHeld => ?_)
 clear hK K HH hS
 have HH := hide hHeld
 clear hHeld
 (try simp only [layB])
 refine wpAnyH_ready (rs := [12]) (by kernel_rfl) (by simp) ?_
 refine consL rfl (fun K hK => ?_) AllReadyH.nil
 go_simp
 refine (xwbyte (.slice (some ⟨g24, 0, none⟩) 11 c24) 11 ((((([] ++ by8 8 (IntKind.u64.wrap x0)) ++ [x1 % 256]) ++ [x2 % 256]) ++ [x3 % 256])) k base _ (uh HO24) (by omega) (uh HSW)).mono ?_
 rintro e w25 ⟨g25, c25, rfl, ho, hk, -⟩
 have hS : Below base w21 w25 := (uh HH).trans (kp_below10 hk (uh HO24) (uh HSW))
 replace HSW : Hid (base ≤ w25.heap.size) := Nat.le_trans (uh HSW) hk.size
 have HO25 := hide ho
 clear ho hk
 refine hK.out _ _ hS (fun hHeld => ?_)
 clear hK K HH hS
 have HH := hide hHeld
 clear hHeld
 (try simp only [layB])
 refine tkL 13 (uh HH) ?_
 (try simp only [layB])
 refine wpAnyH_done (by kernel_rfl) ?_ _
 refine NoPanic.normal ?_
 replace HT := hide ((uh HT).trans ((uh HH).mono (uh HBS).1))
 replace HBH := hide (AtB.mk (((uh HH).block _ (uh HBS).2.1).trans (uh HBH).blk))
 replace HBE := hide (AtB.mk (((uh HH).block _ (uh HBS).2.2).trans (uh HBE).blk))
 replace HSZ := HSW
 clear HSW HH
 go_wp2_with fail
 replace HT := hide ((uh HT).drew)
 replace HBH := hide ((uh HBH).below (Below.refl _ _).drew)
 replace HBE := hide ((uh HBE).below (Below.refl _ _).drew)
 have HO26 : Hid (w25.drew.ownsRow base 5 1 (.slice (some ⟨g25, 0, none⟩) 12 c25) 12 ((((((([] ++ by8 8 (IntKind.u64.wrap x0)) ++ [x1 % 256]) ++ [x2 % 256]) ++ [x3 % 256]) ++ [k % 256])).map (Value.int .u8))) := owns_below10 (uh HO25) (Below.refl _ _).drew
 replace HSZ : Hid (base ≤ w25.drew.heap.size) := uh HSZ
 refine wp_region_noPanic ?_
 refine wp_region_held_drew (S := fun V => Below base w25.drew V) (by kernel_rfl) (Below.refl _ _) (fun hHeld => ?_)
 have HH := hide hHeld
 clear hHeld
 generalize w25.drew = w26 at HT HBH HBE HO26 HSZ HH ⊢
 have HSW := HSZ
 refine tkL 0 (uh HH) ?_
 (try simp only [layB])
 refine tkL 1 (uh HH) ?_
 (try simp only [layB])
 refine tkW 2 (v := ?_) ?_ (uh HH) ?_
 rotate_left 1
 ·intro V hSV; have hcl : V.cell? ⟨w.heap.size + 1, 1, none⟩ = some (.int .i64 l) := cell_blk ((hSV.block _ (uh HBS).2.2).trans (uh HBE).blk) rfl; clear hSV; go_simp; all_goals (with_reducible rfl)
 (try simp only [layB])
 refine tkL 4 (uh HH) ?_
 (try simp only [layB])
 refine tkW 5 (v := ?_) ?_ (uh HH) ?_
 rotate_left 1
 ·intro V hSV; have hcl : V.cell? ⟨w.heap.size + 1, 2, none⟩ = some (.int .i64 s) := cell_blk ((hSV.block _ (uh HBS).2.2).trans (uh HBE).blk) rfl; clear hSV; go_simp; all_goals (with_reducible rfl)
 (try simp only [layB])
 refine tkL 7 (uh HH) ?_
 (try simp only [layB])
 refine tkL 8 (uh HH) ?_
 (try simp only [layB])
 refine wpAnyH_ready (rs := [3]) (by kernel_rfl) (by simp) ?_
 refine consL rfl (fun K hK => ?_) AllReadyH.nil
 go_simp
 refine (xwint (.slice (some ⟨g25, 0, none⟩) 12 c25) 12 (((((([] ++ by8 8 (IntKind.u64.wrap x0)) ++ [x1 % 256]) ++ [x2 % 256]) ++ [x3 % 256]) ++ [k % 256])) l base _ (uh HO26) (by omega) (uh HSW)).mono ?_
 rintro e w27 ⟨g27, c27, rfl, ho, hk, -⟩
 have hS : Below base w26 w27 := (uh HH).trans (kp_below10 hk (uh HO26) (uh HSW))
 replace HSW : Hid (base ≤ w27.heap.size) := Nat.le_trans (uh HSW) hk.size
 have HO27 := hide ho
 clear ho hk
 refine hK.out _ _ hS (fun hHeld => ?_)
 clear hK K HH hS
 have HH := hide hHeld
 clear hHeld
 (try simp only [layB])
 refine wpAnyH_ready (rs := [6]) (by kernel_rfl) (by simp) ?_
 refine consL rfl (fun K hK => ?_) AllReadyH.nil
 go_simp
 refine (xwint (.slice (some ⟨g27, 0, none⟩) 20 c27) 20 ((((((([] ++ by8 8 (IntKind.u64.wrap x0)) ++ [x1 % 256]) ++ [x2 % 256]) ++ [x3 % 256]) ++ [k % 256]) ++ by8 8 (IntKind.u64.wrap l))) s base _ (uh HO27) (by omega) (uh HSW)).mono ?_
 rintro e w28 ⟨g28, c28, rfl, ho, hk, -⟩
 have hS : Below base w26 w28 := (uh HH).trans (kp_below10 hk (uh HO27) (uh HSW))
 replace HSW : Hid (base ≤ w28.heap.size) := Nat.le_trans (uh HSW) hk.size
 have HO28 := hide ho
 clear ho hk
 refine hK.out _ _ hS (fun hHeld => ?_)
 clear hK K HH hS
 have HH := hide hHeld
 clear hHeld
 (try simp only [layB])
 refine wpAnyH_ready (rs := [9]) (by kernel_rfl) (by simp) ?_
 refine consL rfl (fun K hK => ?_) AllReadyH.nil
 refine wp_append_b (.tmp 28) (.tmp 30) (by rfl) base _ 28 _ (ints d) (by rfl) (uh HO28) _ (w.heap.size + 1) 16 _ (by rfl) (by rw [ints_len10]; exact hd) (.inr ⟨3, rfl, fun j hj => ?_⟩) (fun h => by cases h) (by omega) (uh HSW) ?_
 ·rw [ints_len10, hd] at hj
  have h1 := cell_blk (w := w28) (AtB.mk (((uh HH).block _ (uh HBS).2.2).trans (uh HBE).blk)).blk ((entA_d k l s d j).trans (datL_get (by omega)))
  rw [h1, ints_getD10]
 intro v29 w29 ho hg
 rw [← List.map_append] at ho
 obtain ⟨g29, c29, rfl⟩ := ownsRow_succ (k := 43) ho
 have hS : Below base w26 w29 := below_grown (uh HH) hg (uh HSW) (fun k hk => ((uh HO28).lt k hk).1)
 replace HSW : Hid (base ≤ w29.heap.size) := Nat.le_trans (uh HSW) hg.size
 have HO29 := hide ho
 clear ho hg
 refine hK.out _ _ hS (fun hHeld => ?_)
 clear hK K HH hS
 have HH := hide hHeld
 clear hHeld
 (try simp only [layB])
 refine tkL 10 (uh HH) ?_
 (try simp only [layB])
 refine wpAnyH_done (by kernel_rfl) ?_ _
 refine NoPanic.normal ?_
 replace HT := hide ((uh HT).trans ((uh HH).mono (uh HBS).1))
 replace HBH := hide (AtB.mk (((uh HH).block _ (uh HBS).2.1).trans (uh HBH).blk))
 replace HBE := hide (AtB.mk (((uh HH).block _ (uh HBS).2.2).trans (uh HBE).blk))
 replace HSZ := HSW
 clear HSW HH
 go_wp2_with (at_builtin; refine wpList_append_zeros _ rfl _ _ 47 3 rfl base 5 i0 Tryz.underlying47 Tryz.underlying3 (uh HI0) hz0 hzz1 hz2 g29 44 c29 ((((((((([] ++ by8 8 (IntKind.u64.wrap x0)) ++ [x1 % 256]) ++ [x2 % 256]) ++ [x3 % 256]) ++ [k % 256]) ++ by8 8 (IntKind.u64.wrap l)) ++ by8 8 (IntKind.u64.wrap s)) ++ ints d)) rfl (uh HO29) 4 rfl (by omega) (by omega) (uh HSZ) ?_)
 intro g9 c9 w9 ys hys ho hg
 have hl : ys = byT x0 x1 x2 x3 k l s d := by rw [← uh hys]; simp [byT, byW, ints]
 subst hl
 have hb9 : Below w.heap.size w w9 := below_grown (uh HT) hg (uh HT).size (fun k hk => by cases hk; have h1 := ((uh HO29).lt g29 rfl).1; have h2 := (uh HBS).1; omega)
 have HO9 := hide (World.ownsRow_mono10 ho (uh HBS).1)
 have HB9 := hide hb9
 clear ho hg hys hb9
 go_wp2
 go_ret
 exact ⟨g9, c9, rfl, uh HO9, uh HB9⟩
end Go.Proofs.YtjdikhelabibnaaGreat
