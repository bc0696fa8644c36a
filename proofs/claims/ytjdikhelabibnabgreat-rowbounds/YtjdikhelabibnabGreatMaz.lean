/-
  entry.Parse.
  The laws' own known (ramekinlaw10); whatever many bytes; two blocks that are stored at once; answers in parts.
-/
import Derived.Test.YtjdikhelabibnabGreatMay
namespace Go.Proofs.YtjdikhelabibnabGreat
open Go.RowKit Go.Shelf

theorem results_cct {P : Program} {fn : Func} {p q r : Tmp} {t u : TypeId} (h : fn.results = #[.cell p t, .cell q u, .tmp r]) (tmps : Array Value) (w : World) (a b : Addr) (x y : Value) (hp : tmps.getD p undef = .pointer (some a)) (hq : tmps.getD q undef = .pointer (some b)) (hx : (loadVar t a).run P w = .ok x w) (hy : (loadVar u b).run P w = .ok y w) :
    (results fn tmps).run P w = .ok (.tuple #[x, y, tmps.getD r undef]) w := by
  rw [Array.getD_eq_getD_getElem?] at hp hq
  simp only [results, h]
  simp [Result.andThen, hp, hq, asAddr, hx, hy]
theorem len4 {d : List Nat} (h : d.length = 4) : ∃ a0 a1 a2 a3, d = [a0, a1, a2, a3] := by
  match d, h with
  | [a0, a1, a2, a3], _ => exact ⟨a0, a1, a2, a3, rfl⟩
set_option maxRecDepth 100000 in
set_option maxHeartbeats 8000000 in
theorem eqTT_in (d d' : List Nat) (h : d.length = 4) (h' : d'.length = 4) (n : Nat) (w : World) : (Op.equalIn (n + 2) 103 (.agg (datL d).toArray) (.agg (datL d').toArray)).run Tryz.prog w = .ok (decide (d = d')) w := by
  obtain ⟨a0, a1, a2, a3, rfl⟩ := len4 h
  obtain ⟨b0, b1, b2, b3, rfl⟩ := len4 h'
  have u3 := Tryz.underlying5
  have a3 := Tryz.isAgg5
  have z3 := Tryz.sizeOf5
  simp only [datL, ints, List.map_cons, List.map_nil]
  rw [show n + 2 = (n + 1) + 1 from rfl, Op.equalIn]
  simp only [Sem.run_bind, run_underlying Tryz.underlying103, Result.andThen_ok]
  simp only [Std.Legacy.Range.forIn_eq_forIn_range', Std.Legacy.Range.size, Nat.sub_zero, Nat.add_sub_cancel, Nat.div_one, List.range'_succ, List.range'_zero, List.forIn_cons, List.forIn_nil]
  go_simp
  exact ifc10 (ifc10 (ifc10 ifc10'))
theorem neTT (d d' : List Nat) (h : d.length = 4) (h' : d'.length = 4) (r : Bool) (hr : (!decide (d = d')) = r) (w : World) : (binOp .neq 103 (.agg (tailA d)) (.agg (tailA d'))).run Tryz.prog w = .ok (.bool r) w := by
  unfold tailA
  simp [binOp, Op.equal, Op.maxDepth, eqTT_in d d' h h' 9998, hr]
/-- A reader's bytes lie in a block that is there. -/
theorem rd_there {T : TypeId} {w : World} {R g : Nat} {zs : List Int} {e : Int} (h : Rd T w R g zs e) (A : Nat) (hA : A < w.heap.size) (hAR : A ≠ R) : ∃ g', g' < w.heap.size ∧ Rd T w R g' zs e := by
  obtain ⟨hne, ao, cap, hb, hl, hm, hr⟩ := h
  by_cases hz : zs = []
  · exact ⟨A, hA, hAR, ao, cap, hb, hl, hm, .inl hz⟩
  · rcases hr with h0 | ⟨o, rfl, hc⟩
    · exact absurd h0 hz
    · have hp : 0 < zs.length := List.length_pos_iff.2 hz
      have := block_lt_of_cell (hc 0 hp)
      exact ⟨g, this, hne, _, cap, hb, hl, hm, .inr ⟨o, rfl, hc⟩⟩
/-- A new block that is stored whole at once. -/
theorem kp_new10 (w : World) (o : Obj) (cs : Array Value) : Kp [] w ((w.alloc o).setRow w.heap.size cs) :=
  ((Kp.refl [] w).alloc o).trans (S' := [w.heap.size]) ⟨rfl, rfl, rfl, by simp, fun k _ h => setRow_other _ _ k _ (by simpa using h)⟩ (fun x hx => .inr (by simp at hx; omega))
theorem blk_new10 (w : World) (old cs : Array Value) (ty : TypeId) : AtB ((w.alloc (.cells old ty)).setRow w.heap.size cs) w.heap.size cs ty := ⟨setRow_heap _ _ old cs ty _ (World.alloc_heap_new w _)⟩
theorem AtB.kp {S : List Nat} {w w' : World} {b : Nat} {cs : Array Value} {ty : TypeId} (h : AtB w b cs ty) (k : Kp S w w') (hn : b ∉ S) : AtB w' b cs ty := ⟨k.heap h.blk hn⟩
theorem AtB.lt {w : World} {b : Nat} {cs : Array Value} {ty : TypeId} (h : AtB w b cs ty) : b < w.heap.size := lt_of_block h.blk

/-- What Parse tells. -/
def ParR (e : Ending) (zs : List Int) : Prop := e = .returned (.tuple #[.agg (headA (parH zs 0) (parH zs 1) (parH zs 2) (parH zs 3)), .agg (entA (parN zs 0) (parN zs 1) (parN zs 2) (parD zs)), .int .i64 (parE zs)])
theorem parR_bad {zs : List Int} {e : Ending} {x : Int} (h : parE zs = x) (hx : x ≠ 0) (he : e = .returned (.tuple #[.agg (headA 0 0 0 0), .agg (entA 0 0 0 zer16), .int .i64 x])) : ParR e zs := by
  subst h
  unfold ParR parH parN parD
  rw [if_neg hx, if_neg hx, if_neg hx, if_neg hx, if_neg hx, if_neg hx, if_neg hx, if_neg hx, he]
theorem parR_ok {zs : List Int} {e : Ending} (h : parE zs = 0) (he : e = .returned (.tuple #[.agg (headA ((pH zs).getD 0 0) ((pH zs).getD 1 0) ((pH zs).getD 2 0) ((pH zs).getD 3 0)), .agg (entA ((pE zs).getD 0 0) ((pE zs).getD 1 0) ((pE zs).getD 2 0) (pD zs)), .int .i64 0])) : ParR e zs := by
  unfold ParR parH parN parD
  rw [if_pos h, if_pos h, if_pos h, if_pos h, if_pos h, if_pos h, if_pos h, if_pos h, h, he]
theorem parE_code {zs : List Int} (h : cod zs ≠ 0) : parE zs = cod zs := if_pos h
theorem parE_bad {zs : List Int} (h : cod zs = 0) (hb : badP zs) : parE zs = 5 := by unfold parE; rw [if_neg (by omega), if_pos hb]
theorem parE_ok {zs : List Int} (h : cod zs = 0) (hb : ¬ badP zs) : parE zs = 0 := by unfold parE; rw [if_neg (by omega), if_neg hb]

theorem one_head (a b c d : Int) : (headA a b c d).all (·.oneCell') = true := (one_list (l := [.int .i64 a, .int .i64 b, .int .i64 c, .int .i64 d]) (by simp [Value.oneCell'])).all
theorem two_rows {w W : World} {A0 A1 : Nat} {o0 o1 : Array Value} {t0 t1 : TypeId} (hT : Kp [] w W) (h0 : AtB W A0 o0 t0) (h1 : AtB W A1 o1 t1) (hA0 : w.heap.size ≤ A0) (hA1 : w.heap.size ≤ A1) (hne : A0 ≠ A1) (CH CE : Array Value) :
    AtB (W.setRow A0 CH) A1 o1 t1 ∧ AtB ((W.setRow A0 CH).setRow A1 CE) A0 CH t0 ∧ AtB ((W.setRow A0 CH).setRow A1 CE) A1 CE t1 ∧ Kp [] w ((W.setRow A0 CH).setRow A1 CE) ∧ Kp [A0, A1] W (W.setRow A0 CH) ∧ Kp [A0, A1] W ((W.setRow A0 CH).setRow A1 CE) := by
  have k1 : Kp [A0] W (W.setRow A0 CH) := ⟨rfl, rfl, rfl, by simp, fun k _ h => setRow_other _ _ k _ (by simpa using h)⟩
  have k2 : Kp [A1] (W.setRow A0 CH) ((W.setRow A0 CH).setRow A1 CE) := ⟨rfl, rfl, rfl, by simp, fun k _ h => setRow_other _ _ k _ (by simpa using h)⟩
  have b1 : AtB (W.setRow A0 CH) A1 o1 t1 := h1.kp k1 (by simpa using hne.symm)
  have b0 : AtB (W.setRow A0 CH) A0 CH t0 := ⟨setRow_heap _ _ _ _ _ _ h0.blk⟩
  refine ⟨b1, b0.kp k2 (by simpa using hne), ⟨setRow_heap _ _ _ _ _ _ b1.blk⟩, (hT.trans k1 (fun x hx => .inr (by simp at hx; omega))).trans k2 (fun x hx => .inr (by simp at hx; omega)), k1.mono (by simp), (k1.mono (S' := [A0, A1]) (by simp)).trans k2 (by simp)⟩
theorem pT_nat (zs : List Int) (h : Byt zs) : nat10 (pT zs) = [0, 0, 0, 0] ↔ pT zs = [0, 0, 0, 0] := by
  have hp : ∀ z ∈ pT zs, 0 ≤ z := fun z hz => (rd_ones (n := 4) (byt_rdS (byt_rdS (s := (zs, 0)) h)) z hz).1
  constructor
  · intro e
    rw [← ints_nat10 hp, e]
    rfl
  · intro e
    rw [e]
    rfl
theorem pT_nat_len (zs : List Int) : (nat10 (pT zs)).length = 4 := by unfold nat10; rw [List.length_map, pT_len]

set_option maxRecDepth 100000 in
set_option maxHeartbeats 16000000 in
theorem parse_any (ao : Option Addr) (g n c : Nat) (zs : List Int) (w : World) (hn : n ≤ 1000000) (hl : zs.length = n) (hby : Byt zs) (hr : Row w ao g zs) : Calls Tryz.prog 45 #[.slice ao n c] w fun e w' => ParR e zs ∧ Below w.heap.size w w' := by
  obtain ⟨w1, hw1⟩ : ∃ w1, (w.alloc (.cells #[.int .i64 0, .int .i64 0, .int .i64 0, .int .i64 0] 52)).alloc (.cells #[.int .i64 0, .int .i64 0, .int .i64 0, .int .u8 0, .int .u8 0, .int .u8 0, .int .u8 0, .int .u8 0, .int .u8 0, .int .u8 0, .int .u8 0, .int .u8 0, .int .u8 0, .int .u8 0, .int .u8 0, .int .u8 0, .int .u8 0, .int .u8 0, .int .u8 0] 46) = w1 := ⟨_, rfl⟩
  have HT : Hid (Kp [] w w1) := by rw [← hw1]; exact ((Kp.refl [] w).alloc _).alloc _
  have HA0 : Hid (AtB w1 w.heap.size #[.int .i64 0, .int .i64 0, .int .i64 0, .int .i64 0] 52) := ⟨by rw [← hw1]; exact (Below.heap_alloc _ _ _ (by simp)).trans (World.alloc_heap_new w _)⟩
  have HA1 : Hid (AtB w1 (w.heap.size + 1) #[.int .i64 0, .int .i64 0, .int .i64 0, .int .u8 0, .int .u8 0, .int .u8 0, .int .u8 0, .int .u8 0, .int .u8 0, .int .u8 0, .int .u8 0, .int .u8 0, .int .u8 0, .int .u8 0, .int .u8 0, .int .u8 0, .int .u8 0, .int .u8 0, .int .u8 0] 46) := ⟨by
    rw [← hw1]
    have := World.alloc_heap_new (w.alloc (.cells #[.int .i64 0, .int .i64 0, .int .i64 0, .int .i64 0] 52)) (.cells #[.int .i64 0, .int .i64 0, .int .i64 0, .int .u8 0, .int .u8 0, .int .u8 0, .int .u8 0, .int .u8 0, .int .u8 0, .int .u8 0, .int .u8 0, .int .u8 0, .int .u8 0, .int .u8 0, .int .u8 0, .int .u8 0, .int .u8 0, .int .u8 0, .int .u8 0] 46)
    rwa [World.size_alloc] at this⟩
  have hz1 : w1.heap.size = w.heap.size + 2 := by rw [← hw1]; simp
  have HW := hide hw1
  have HY := hide hby
  have HR0 := hide hr
  clear hw1 hby hr
  go_enter Tryz.func45, Tryz.ntmps45
  go_wp2_with fail
  rw [unhide HW]
  refine (cnew_any ao g n c zs _ hn hl ((unhide HR0).keep (unhide HT) (by simp))).mono ?_
  rintro e w2 ⟨R, q, rfl, hRz, -, hrd, hk⟩
  have hsz1 := hk.size
  replace HT := hide ((unhide HT).trans hk (by simp))
  replace HA0 := hide ((unhide HA0).kp hk (by simp))
  replace HA1 := hide ((unhide HA1).kp hk (by simp))
  obtain ⟨q', hq', hrd'⟩ := rd_there hrd w.heap.size (by omega) (by omega)
  have HRD := hide hrd'
  clear hrd hrd' hk HR0 q
  have hRl2 : R < w2.heap.size := by obtain ⟨_, _, _, h, _⟩ := unhide HRD; exact lt_of_block h
  have HYH : Hid (Byt zs) := HY
  go_wp2_with fail
  refine (layH_any _).mono ?_
  rintro e w3 ⟨L, c, rfl, hly, hLz, hcz, hk⟩
  have hsz := hk.size
  have hkk : Kp [] w2 w3 := (Kp.refl _ _).ofBelow hk
  replace HT := hide ((unhide HT).trans hkk (by simp))
  replace HA0 := hide ((unhide HA0).kp hkk (by simp))
  replace HA1 := hide ((unhide HA1).kp hkk (by simp))
  replace HRD := hide ((unhide HRD).keep hkk (by simp) (by simp))
  have HLY := hide hly
  have hRlt : R < w2.heap.size := hRl2
  clear hly hkk hk
  go_wp2_with fail
  refine (readH_any L c R q' _ _ _ (by omega) (unhide HYH) (unhide HRD) (unhide HLY) (by omega) (fun i hi => by have := hcz i hi; omega)).mono ?_
  rintro e w4 ⟨rfl, hrd, hk⟩
  have hszb := hk.size
  replace HT := hide ((unhide HT).trans hk (fun x hx => .inr (by simp at hx; omega)))
  replace HA0 := hide ((unhide HA0).kp hk (by simp; omega))
  replace HA1 := hide ((unhide HA1).kp hk (by simp; omega))
  replace HRD := hide hrd
  clear hrd hk HLY
  obtain ⟨w5, hw5⟩ : ∃ W, (w4.alloc (.cells #[.int .i64 0, .int .i64 0, .int .i64 0, .int .i64 0] 52)).setRow w4.heap.size (ceH (zs, 0) 4) = W := ⟨_, rfl⟩
  have hk : Kp [] w4 w5 := by rw [← hw5]; exact kp_new10 _ _ _
  have hsz5 : w5.heap.size = w4.heap.size + 1 := by rw [← hw5]; simp
  replace HT := hide ((unhide HT).trans hk (by simp))
  replace HA0 := hide ((unhide HA0).kp hk (by simp))
  replace HA1 := hide ((unhide HA1).kp hk (by simp))
  replace HRD := hide ((unhide HRD).keep hk (by simp) (by simp))
  have HCH : Hid (AtB w5 w4.heap.size (ceH (zs, 0) 4) 52) := by rw [← hw5]; exact blk_new10 _ _ _ _
  have HWD := hide hw5
  clear hw5 hk
  go_wp2_with (first | (refine wpList_store_row rfl 52 _ _ rfl w4.heap.size (ceH (zs, 0) 4) rfl rfl 52 #[.int .i64 0, .int .i64 0, .int .i64 0, .int .i64 0] (World.alloc_heap_new w4 _) (by rw [sizeTH, ceH_size]) (by rw [ceH_size]; rfl) (ceH_one _ _).all ?_; rw [unhide HWD]))
  have hRl5 : R < w5.heap.size := by omega
  obtain ⟨BH, hBH⟩ : ∃ b, w4.heap.size = b := ⟨_, rfl⟩
  rw [hBH] at HCH ⊢
  clear HWD
  have HYE : Hid (Byt (st1 zs).1) := byt_rdS (s := (zs, 0)) (unhide HY)
  rw [show stp zH (zs, 0) 4 = st1 zs from rfl] at HRD
  obtain ⟨Z1, E1, hz1e⟩ : ∃ Z E, st1 zs = (Z, E) := ⟨_, _, rfl⟩
  have HZ1 := hide hz1e
  rw [hz1e] at HRD HYE
  clear hz1e
  dsimp only at HRD HYE
  go_wp2_with fail
  refine (layE_any _).mono ?_
  rintro e w6 ⟨L, c, rfl, hly, hLz, hcz, hk⟩
  have hsz := hk.size
  have hkk : Kp [] w5 w6 := (Kp.refl _ _).ofBelow hk
  replace HT := hide ((unhide HT).trans hkk (by simp))
  replace HA0 := hide ((unhide HA0).kp hkk (by simp))
  replace HA1 := hide ((unhide HA1).kp hkk (by simp))
  replace HCH := hide ((unhide HCH).kp hkk (by simp))
  replace HRD := hide ((unhide HRD).keep hkk (by simp) (by simp))
  have HLY := hide hly
  have hRlt : R < w5.heap.size := hRl5
  clear hly hkk hk
  go_wp2_with fail
  refine (readE_any L c R q' _ _ _ (by omega) (unhide HYE) (unhide HRD) (unhide HLY) (by omega) (fun i hi => by have := hcz i hi; omega)).mono ?_
  rintro e w7 ⟨rfl, hrd, hk⟩
  have hszb := hk.size
  replace HT := hide ((unhide HT).trans hk (fun x hx => .inr (by simp at hx; omega)))
  replace HA0 := hide ((unhide HA0).kp hk (by simp; omega))
  replace HA1 := hide ((unhide HA1).kp hk (by simp; omega))
  replace HCH := hide ((unhide HCH).kp hk (by simp; omega))
  replace HRD := hide hrd
  clear hrd hk HLY
  obtain ⟨w8, hw8⟩ : ∃ W, (w7.alloc (.cells #[.int .i64 0, .int .i64 0, .int .i64 0, .int .u8 0, .int .u8 0, .int .u8 0, .int .u8 0, .int .u8 0, .int .u8 0, .int .u8 0, .int .u8 0, .int .u8 0, .int .u8 0, .int .u8 0, .int .u8 0, .int .u8 0, .int .u8 0, .int .u8 0, .int .u8 0] 46)).setRow w7.heap.size (ceE (Z1, E1) 4) = W := ⟨_, rfl⟩
  have hk : Kp [] w7 w8 := by rw [← hw8]; exact kp_new10 _ _ _
  have hsz8 : w8.heap.size = w7.heap.size + 1 := by rw [← hw8]; simp
  replace HT := hide ((unhide HT).trans hk (by simp))
  replace HA0 := hide ((unhide HA0).kp hk (by simp))
  replace HA1 := hide ((unhide HA1).kp hk (by simp))
  replace HCH := hide ((unhide HCH).kp hk (by simp))
  replace HRD := hide ((unhide HRD).keep hk (by simp) (by simp))
  have HCE : Hid (AtB w8 w7.heap.size (ceE (Z1, E1) 4) 46) := by rw [← hw8]; exact blk_new10 _ _ _ _
  have HWD := hide hw8
  clear hw8 hk
  go_wp2_with (first | (refine wpList_store_row rfl 46 _ _ rfl w7.heap.size (ceE (Z1, E1) 4) rfl rfl 46 #[.int .i64 0, .int .i64 0, .int .i64 0, .int .u8 0, .int .u8 0, .int .u8 0, .int .u8 0, .int .u8 0, .int .u8 0, .int .u8 0, .int .u8 0, .int .u8 0, .int .u8 0, .int .u8 0, .int .u8 0, .int .u8 0, .int .u8 0, .int .u8 0, .int .u8 0] (World.alloc_heap_new w7 _) (by rw [sizeTE, ceE_size]) (by rw [ceE_size]; rfl) (ceE_one _ _).all ?_; rw [unhide HWD]))
  have hRl8 : R < w8.heap.size := by omega
  obtain ⟨BE, hBE⟩ : ∃ b, w7.heap.size = b := ⟨_, rfl⟩
  rw [hBE] at HCE ⊢
  clear HWD
  have HYT : Hid (Byt (st2 zs).1) := byt_rdS (byt_rdS (s := (zs, 0)) (unhide HY))
  rw [show stp zE (Z1, E1) 4 = st2 zs from by rw [← unhide HZ1]; rfl] at HRD
  obtain ⟨Z2, E2, hz2e⟩ : ∃ Z E, st2 zs = (Z, E) := ⟨_, _, rfl⟩
  have HZ2 := hide hz2e
  rw [hz2e] at HRD HYT
  clear hz2e
  dsimp only at HRD HYT
  go_wp2_with fail
  refine (layT_any _).mono ?_
  rintro e w9 ⟨L, c, rfl, hly, hLz, hcz, hk⟩
  have hsz := hk.size
  have hkk : Kp [] w8 w9 := (Kp.refl _ _).ofBelow hk
  replace HT := hide ((unhide HT).trans hkk (by simp))
  replace HA0 := hide ((unhide HA0).kp hkk (by simp))
  replace HA1 := hide ((unhide HA1).kp hkk (by simp))
  replace HCH := hide ((unhide HCH).kp hkk (by simp))
  replace HCE := hide ((unhide HCE).kp hkk (by simp))
  replace HRD := hide ((unhide HRD).keep hkk (by simp) (by simp))
  have HLY := hide hly
  have hRlt : R < w8.heap.size := hRl8
  clear hly hkk hk
  go_wp2_with fail
  refine (readT_any L c R q' _ _ _ (by omega) (unhide HYT) (unhide HRD) (unhide HLY) (by omega) (fun i hi => by have := hcz i hi; omega)).mono ?_
  rintro e w10 ⟨rfl, hrd, hk⟩
  have hszb := hk.size
  replace HT := hide ((unhide HT).trans hk (fun x hx => .inr (by simp at hx; omega)))
  replace HA0 := hide ((unhide HA0).kp hk (by simp; omega))
  replace HA1 := hide ((unhide HA1).kp hk (by simp; omega))
  replace HCH := hide ((unhide HCH).kp hk (by simp; omega))
  replace HCE := hide ((unhide HCE).kp hk (by simp; omega))
  replace HRD := hide hrd
  clear hrd hk HLY
  obtain ⟨w11, hw11⟩ : ∃ W, (w10.alloc (.cells #[.int .u8 0, .int .u8 0, .int .u8 0, .int .u8 0] 103)).setRow w10.heap.size (ceT (Z2, E2) 1) = W := ⟨_, rfl⟩
  have hk : Kp [] w10 w11 := by rw [← hw11]; exact kp_new10 _ _ _
  have hsz11 : w11.heap.size = w10.heap.size + 1 := by rw [← hw11]; simp
  replace HT := hide ((unhide HT).trans hk (by simp))
  replace HA0 := hide ((unhide HA0).kp hk (by simp))
  replace HA1 := hide ((unhide HA1).kp hk (by simp))
  replace HCH := hide ((unhide HCH).kp hk (by simp))
  replace HCE := hide ((unhide HCE).kp hk (by simp))
  replace HRD := hide ((unhide HRD).keep hk (by simp) (by simp))
  have HCT : Hid (AtB w11 w10.heap.size (ceT (Z2, E2) 1) 103) := by rw [← hw11]; exact blk_new10 _ _ _ _
  have HWD := hide hw11
  clear hw11 hk
  go_wp2_with (first | (refine wpList_store_row rfl 103 _ _ rfl w10.heap.size (ceT (Z2, E2) 1) rfl rfl 103 #[.int .u8 0, .int .u8 0, .int .u8 0, .int .u8 0] (World.alloc_heap_new w10 _) (by rw [sizeTT, ceT_size]) (by rw [ceT_size]; rfl) (ceT_one _ _).all ?_; rw [unhide HWD]))
  have hRl11 : R < w11.heap.size := by omega
  obtain ⟨BT, hBT⟩ : ∃ b, w10.heap.size = b := ⟨_, rfl⟩
  rw [hBT] at HCT ⊢
  clear HWD
  rw [show stp zT (Z2, E2) 1 = st3 zs from by rw [← unhide HZ2]; rfl] at HRD
  refine (end_any R q' _ _ _ (unhide HRD)).mono ?_
  rintro e w12 ⟨rfl, hw12⟩
  subst hw12
  rw [show (if (st3 zs).2 = 0 ∧ (st3 zs).1 ≠ [] then (4 : Int) else (st3 zs).2) = cod zs from rfl]
  have hHs : w.heap.size ≤ BH := by omega
  rw [ceH_all, show rdL szH (zs, 0) = pH zs from rfl] at HCH
  have hEe : rdL szE (Z1, E1) = pE zs := by rw [← unhide HZ1]; rfl
  have hTe : rdL szT (Z2, E2) = pT zs := by rw [← unhide HZ2]; rfl
  rw [ceE_all _ (unhide HYE), hEe, show nat10 ((pE zs).drop 3) = pD zs from rfl] at HCE
  rw [ceT_all _ (unhide HYT), hTe] at HCT
  clear hEe hTe HZ1 HZ2 HYE HYT
  have HPT := hide (pT_nat zs (unhide HY))
  have hTl := pT_nat_len zs
  have hDl := pD_len zs
  have hcc : Hid (w12.cell? ⟨BH, 0, none⟩ = some (.int .i64 ((pH zs).getD 0 0))) := cell_blk (unhide HCH).blk rfl
  obtain ⟨X, hX⟩ : ∃ X, cod zs = X := ⟨_, rfl⟩
  rw [hX]
  have HX := hide hX
  clear hX
  obtain ⟨T, hT⟩ : ∃ T, nat10 (pT zs) = T := ⟨_, rfl⟩
  have HTT := hide hT
  rw [hT] at hTl HCT HPT
  clear hT
  have HP := hide (show badP zs ↔ (pT zs ≠ [0, 0, 0, 0] ∨ ¬ (1 ≤ (pH zs).getD 0 0 ∧ (pH zs).getD 0 0 ≤ 1099511627776) ∨ ¬ okE ((pE zs).getD 0 0) ((pE zs).getD 1 0) ((pE zs).getD 2 0) (pD zs)) from Iff.rfl)
  have HOKR := hide (fun e => @parR_ok zs e)
  obtain ⟨D, hD⟩ : ∃ D, pD zs = D := ⟨_, rfl⟩
  rw [hD] at HCE hDl HP HOKR
  obtain ⟨K, hK⟩ : ∃ x, (pE zs).getD 0 0 = x := ⟨_, rfl⟩
  obtain ⟨L, hL⟩ : ∃ x, (pE zs).getD 1 0 = x := ⟨_, rfl⟩
  obtain ⟨S, hS⟩ : ∃ x, (pE zs).getD 2 0 = x := ⟨_, rfl⟩
  obtain ⟨H0, hH0⟩ : ∃ x, (pH zs).getD 0 0 = x := ⟨_, rfl⟩
  obtain ⟨H1, hH1⟩ : ∃ x, (pH zs).getD 1 0 = x := ⟨_, rfl⟩
  obtain ⟨H2, hH2⟩ : ∃ x, (pH zs).getD 2 0 = x := ⟨_, rfl⟩
  obtain ⟨H3, hH3⟩ : ∃ x, (pH zs).getD 3 0 = x := ⟨_, rfl⟩
  rw [hK, hL, hS] at HCE HP HOKR
  rw [hH0] at HP hcc
  rw [hH0, hH1, hH2, hH3] at HCH HOKR
  clear hD hK hL hS hH0 hH1 hH2 hH3 HRD hRl2 hRl5 hRl8 hRl11
  obtain ⟨A0, hA0⟩ : ∃ A, w.heap.size = A := ⟨_, rfl⟩
  obtain ⟨A1, hA1⟩ : ∃ A, w.heap.size + 1 = A := ⟨_, rfl⟩
  rw [hA1] at HA1 ⊢
  rw [hA0] at HA0 ⊢
  have hne : A0 ≠ A1 := by omega
  have hA0s : w.heap.size ≤ A0 := by omega
  have hA1s : w.heap.size ≤ A1 := by omega
  have HSEP : Hid (BH ≠ A0 ∧ BH ≠ A1 ∧ BE ≠ A0 ∧ BE ≠ A1) := by have := (unhide HT).size; exact ⟨by omega, by omega, by omega, by omega⟩
  have HQ : Hid (parE zs = X → X ≠ 0 → True) := fun _ _ => trivial
  clear HQ
  by_cases hx : X ≠ 0
  · obtain ⟨t1, t2, t3, t4, -, -⟩ := two_rows (unhide HT) (unhide HA0) (unhide HA1) hA0s hA1s hne #[.int .i64 0, .int .i64 0, .int .i64 0, .int .i64 0] #[.int .i64 0, .int .i64 0, .int .i64 0, .int .u8 0, .int .u8 0, .int .u8 0, .int .u8 0, .int .u8 0, .int .u8 0, .int .u8 0, .int .u8 0, .int .u8 0, .int .u8 0, .int .u8 0, .int .u8 0, .int .u8 0, .int .u8 0, .int .u8 0, .int .u8 0]
    obtain ⟨w13, hw13⟩ : ∃ W, w12.setRow A0 #[.int .i64 0, .int .i64 0, .int .i64 0, .int .i64 0] = W := ⟨_, rfl⟩
    rw [hw13] at t1 t2 t3 t4
    obtain ⟨w14, hw14⟩ : ∃ W, w13.setRow A1 #[.int .i64 0, .int .i64 0, .int .i64 0, .int .u8 0, .int .u8 0, .int .u8 0, .int .u8 0, .int .u8 0, .int .u8 0, .int .u8 0, .int .u8 0, .int .u8 0, .int .u8 0, .int .u8 0, .int .u8 0, .int .u8 0, .int .u8 0, .int .u8 0, .int .u8 0] = W := ⟨_, rfl⟩
    rw [hw14] at t2 t3 t4
    have HT1 := hide t1
    have HT2 := hide t2
    have HT3 := hide t3
    have HT4 := hide t4
    have HW13 := hide hw13
    have HW14 := hide hw14
    clear t1 t2 t3 t4 hw13 hw14
    have hq : (X != 0) = true := by rw [bne_iff_ne]; exact hx
    go_wp2_with (first | (refine wpList_store_row rfl 52 _ _ rfl A0 #[.int .i64 0, .int .i64 0, .int .i64 0, .int .i64 0] rfl rfl 52 #[.int .i64 0, .int .i64 0, .int .i64 0, .int .i64 0] (unhide HA0).blk (by rw [sizeTH]; rfl) rfl (one_head 0 0 0 0) ?_; rw [unhide HW13]) | (refine wpList_store_row rfl 46 _ _ rfl A1 #[.int .i64 0, .int .i64 0, .int .i64 0, .int .u8 0, .int .u8 0, .int .u8 0, .int .u8 0, .int .u8 0, .int .u8 0, .int .u8 0, .int .u8 0, .int .u8 0, .int .u8 0, .int .u8 0, .int .u8 0, .int .u8 0, .int .u8 0, .int .u8 0, .int .u8 0] rfl rfl 46 #[.int .i64 0, .int .i64 0, .int .i64 0, .int .u8 0, .int .u8 0, .int .u8 0, .int .u8 0, .int .u8 0, .int .u8 0, .int .u8 0, .int .u8 0, .int .u8 0, .int .u8 0, .int .u8 0, .int .u8 0, .int .u8 0, .int .u8 0, .int .u8 0, .int .u8 0] (unhide HT1).blk (by rw [sizeTE]; rfl) rfl (entA_one 0 0 0 zer16) ?_; rw [unhide HW14]))
    refine bodyPost_ret (results_cct rfl _ _ ⟨A0, 0, none⟩ ⟨A1, 0, none⟩ _ _ rfl rfl (load_TH (unhide HT2).blk rfl) (load_TE (unhide HT3).blk rfl)) rfl ?_
    exact ⟨parR_bad (parE_code (by rw [unhide HX]; exact hx) |>.trans (unhide HX)) hx rfl, (unhide HT4).below⟩
  · have hx0 : X = 0 := Classical.not_not.1 hx
    subst hx0
    clear hx
    by_cases htt : T ≠ [0, 0, 0, 0]
    · have HBAD : Hid (badP zs) := (unhide HP).2 (.inl (fun h => htt ((unhide HPT).2 h)))
      obtain ⟨t1, t2, t3, t4, -, -⟩ := two_rows (unhide HT) (unhide HA0) (unhide HA1) hA0s hA1s hne #[.int .i64 0, .int .i64 0, .int .i64 0, .int .i64 0] #[.int .i64 0, .int .i64 0, .int .i64 0, .int .u8 0, .int .u8 0, .int .u8 0, .int .u8 0, .int .u8 0, .int .u8 0, .int .u8 0, .int .u8 0, .int .u8 0, .int .u8 0, .int .u8 0, .int .u8 0, .int .u8 0, .int .u8 0, .int .u8 0, .int .u8 0]
      obtain ⟨w13, hw13⟩ : ∃ W, w12.setRow A0 #[.int .i64 0, .int .i64 0, .int .i64 0, .int .i64 0] = W := ⟨_, rfl⟩
      rw [hw13] at t1 t2 t3 t4
      obtain ⟨w14, hw14⟩ : ∃ W, w13.setRow A1 #[.int .i64 0, .int .i64 0, .int .i64 0, .int .u8 0, .int .u8 0, .int .u8 0, .int .u8 0, .int .u8 0, .int .u8 0, .int .u8 0, .int .u8 0, .int .u8 0, .int .u8 0, .int .u8 0, .int .u8 0, .int .u8 0, .int .u8 0, .int .u8 0, .int .u8 0] = W := ⟨_, rfl⟩
      rw [hw14] at t2 t3 t4
      have HT1 := hide t1
      have HT2 := hide t2
      have HT3 := hide t3
      have HT4 := hide t4
      have HW13 := hide hw13
      have HW14 := hide hw14
      clear t1 t2 t3 t4 hw13 hw14
      have hq : ∀ W, (binOp .neq 103 (.agg (tailA T)) (.agg #[.int .u8 0, .int .u8 0, .int .u8 0, .int .u8 0])).run Tryz.prog W = .ok (.bool true) W := fun W => neTT T [0, 0, 0, 0] hTl rfl true (by rw [decide_eq_false htt]; rfl) W
      clear htt
      go_wp2_with (first | (refine wpList_load_row rfl 103 _ rfl BT rfl 103 (tailA T) _ _ (unhide HCT).blk Tryz.underlying103 rfl (by rw [sizeTT, tailA, List.size_toArray, datL_len, hTl]) ?_) | (refine wpList_store_row rfl 52 _ _ rfl A0 #[.int .i64 0, .int .i64 0, .int .i64 0, .int .i64 0] rfl rfl 52 #[.int .i64 0, .int .i64 0, .int .i64 0, .int .i64 0] (unhide HA0).blk (by rw [sizeTH]; rfl) rfl (one_head 0 0 0 0) ?_; rw [unhide HW13]) | (refine wpList_store_row rfl 46 _ _ rfl A1 #[.int .i64 0, .int .i64 0, .int .i64 0, .int .u8 0, .int .u8 0, .int .u8 0, .int .u8 0, .int .u8 0, .int .u8 0, .int .u8 0, .int .u8 0, .int .u8 0, .int .u8 0, .int .u8 0, .int .u8 0, .int .u8 0, .int .u8 0, .int .u8 0, .int .u8 0] rfl rfl 46 #[.int .i64 0, .int .i64 0, .int .i64 0, .int .u8 0, .int .u8 0, .int .u8 0, .int .u8 0, .int .u8 0, .int .u8 0, .int .u8 0, .int .u8 0, .int .u8 0, .int .u8 0, .int .u8 0, .int .u8 0, .int .u8 0, .int .u8 0, .int .u8 0, .int .u8 0] (unhide HT1).blk (by rw [sizeTE]; rfl) rfl (entA_one 0 0 0 zer16) ?_; rw [unhide HW14]))
      refine bodyPost_ret (results_cct rfl _ _ ⟨A0, 0, none⟩ ⟨A1, 0, none⟩ _ _ rfl rfl (load_TH (unhide HT2).blk rfl) (load_TE (unhide HT3).blk rfl)) rfl ?_
      exact ⟨parR_bad (parE_bad (unhide HX) (unhide HBAD)) (by omega) rfl, (unhide HT4).below⟩
    · have HTZ : Hid (T = [0, 0, 0, 0]) := Classical.not_not.1 htt
      clear htt
      by_cases hin : 1 ≤ H0 ∧ H0 ≤ 1099511627776
      · have HIN := hide (decide_eq_true hin)
        by_cases hok : okE K L S D
        · have HCK := hide (chkE_ok hok)
          have HBAD : Hid (¬ badP zs) := fun h => by
            rcases (unhide HP).1 h with h | h | h
            · exact h ((unhide HPT).1 (unhide HTZ))
            · exact h hin
            · exact h hok
          clear hin hok
          have hq : ∀ W, (binOp .neq 103 (.agg (tailA T)) (.agg #[.int .u8 0, .int .u8 0, .int .u8 0, .int .u8 0])).run Tryz.prog W = .ok (.bool false) W := fun W => neTT T [0, 0, 0, 0] hTl rfl false (by rw [decide_eq_true (unhide HTZ)]; rfl) W
          have hc0 := unhide hcc
          go_wp2_with (refine wpList_load_row rfl 103 _ rfl BT rfl 103 (tailA T) _ _ (unhide HCT).blk Tryz.underlying103 rfl (by rw [sizeTT, tailA, List.size_toArray, datL_len, hTl]) ?_)
          refine (ewithin_any H0 1 1099511627776 _ true (unhide HIN)).mono ?_
          rintro e w15 ⟨rfl, hw15⟩
          subst hw15
          go_wp2_with (refine wpList_load_want10 rfl 46 _ rfl BE rfl 46 (entA K L S D) _ _ (unhide HCE).blk Tryz.underlying46 rfl (by rw [sizeTE, entA_size hDl]) ?_)
          refine (echeck_any K L S D hDl _).mono ?_
          rintro e w16 ⟨rfl, hk⟩
          rw [unhide HCK]
          replace HA0 := hide ((unhide HA0).below hk)
          replace HA1 := hide ((unhide HA1).below hk)
          replace HCH := hide ((unhide HCH).below hk)
          replace HCE := hide ((unhide HCE).below hk)
          replace HT := hide ((unhide HT).ofBelow hk)
          have hc0' : w16.cell? ⟨BH, 0, none⟩ = some (.int .i64 H0) := cell_blk (unhide HCH).blk rfl
          clear hk hc0
          go_wp2_with fail
          replace HT := hide ((unhide HT).ofBelow (Below.refl _ _).drew)
          replace HA0 := hide ((unhide HA0).below (Below.refl _ _).drew)
          replace HA1 := hide ((unhide HA1).below (Below.refl _ _).drew)
          replace HCH := hide ((unhide HCH).below (Below.refl _ _).drew)
          replace HCE := hide ((unhide HCE).below (Below.refl _ _).drew)
          refine wp_region_noPanic ?_
          refine wp_region_held_drew (S := fun V => Kp [A0, A1] w16.drew V) (by kernel_rfl) (Kp.refl _ _) (fun hHeld => ?_)
          have HH := hide hHeld
          clear hHeld hc0'
          generalize w16.drew = w5 at HT HA0 HA1 HCH HCE HH ⊢
          obtain ⟨t1, t2, t3, t4, t5, t6⟩ := two_rows (unhide HT) (unhide HA0) (unhide HA1) hA0s hA1s hne (headA H0 H1 H2 H3) (entA K L S D)
          obtain ⟨w13, hw13⟩ : ∃ W, w5.setRow A0 (headA H0 H1 H2 H3) = W := ⟨_, rfl⟩
          rw [hw13] at t1 t2 t3 t4 t5 t6
          obtain ⟨w14, hw14⟩ : ∃ W, w13.setRow A1 (entA K L S D) = W := ⟨_, rfl⟩
          rw [hw14] at t2 t3 t4 t6
          have HT1 := hide t1
          have HT2 := hide t2
          have HT3 := hide t3
          have HT4 := hide t4
          have HKK1 := hide t5
          have HKK2 := hide t6
          have HW13 := hide hw13
          have HW14 := hide hw14
          clear t1 t2 t3 t4 t5 t6 hw13 hw14
          refine takeL (i := 0) (v := .agg (headA H0 H1 H2 H3)) rfl (by kernel_rfl) (by kernel_rfl) (by kernel_rfl) (fun _ _ _ h => h) (Or.inl ⟨by rfl, fun W1 hSW => run_load_agg9 rfl rfl (load_TH (hSW.heap (unhide HCH).blk (by have := unhide HSEP; simp; omega)) rfl)⟩) (unhide HH) ?_
          (try simp only [Act.put, List.setIfInBounds_toArray, List.set_cons_zero, List.set_cons_succ])
          refine takeL (i := 1) (v := .agg (entA K L S D)) rfl (by kernel_rfl) (by kernel_rfl) (by kernel_rfl) (fun _ _ _ h => h) (Or.inl ⟨by rfl, fun W1 hSW => run_load_agg9 rfl rfl (load_TE (hSW.heap (unhide HCE).blk (by have := unhide HSEP; simp; omega)) (entA_size hDl))⟩) (unhide HH) ?_
          (try simp only [Act.put, List.setIfInBounds_toArray, List.set_cons_zero, List.set_cons_succ])
          refine wpAnyH_ready (rs := [2]) (by kernel_rfl) (by simp) ?_
          refine consL rfl (fun K0 hK => ?_) AllReadyH.nil
          refine wp_store_row (P := Tryz.prog) 52 (.tmp 2) (.tmp 44) (by rfl) A0 (headA H0 H1 H2 H3) (by rfl) (by rfl) 52 #[.int .i64 0, .int .i64 0, .int .i64 0, .int .i64 0] (unhide HA0).blk (by rw [sizeTH]; rfl) (rfl) (one_head _ _ _ _) ?_
          rw [unhide HW13]
          refine hK.out _ _ (unhide HKK1) (fun hHeld => ?_)
          clear hK K0 HH
          have HH := hide hHeld
          clear hHeld
          (try simp only [Act.put])
          refine wpAnyH_ready (rs := [3]) (by kernel_rfl) (by simp) ?_
          refine consL rfl (fun K0 hK => ?_) AllReadyH.nil
          refine wp_store_row (P := Tryz.prog) 46 (.tmp 3) (.tmp 45) (by rfl) A1 (entA K L S D) (by rfl) (by rfl) 46 #[.int .i64 0, .int .i64 0, .int .i64 0, .int .u8 0, .int .u8 0, .int .u8 0, .int .u8 0, .int .u8 0, .int .u8 0, .int .u8 0, .int .u8 0, .int .u8 0, .int .u8 0, .int .u8 0, .int .u8 0, .int .u8 0, .int .u8 0, .int .u8 0, .int .u8 0] (unhide HT1).blk (by rw [sizeTE, entA_size hDl]) (by rw [entA_size hDl]; rfl) (entA_one _ _ _ _) ?_
          rw [unhide HW14]
          refine hK.out _ _ (unhide HKK2) (fun hHeld => ?_)
          clear hK K0 HH
          have HH := hide hHeld
          clear hHeld
          (try simp only [Act.put])
          refine takeL (i := 4) (v := ?_) rfl (by kernel_rfl) (by kernel_rfl) (by kernel_rfl) (fun _ _ _ h => h) (Or.inl ⟨by rfl, ?_⟩) (unhide HH) ?_
          rotate_left 1
          · intro W hSW; go_simp; all_goals (with_reducible rfl)
          (try simp only [Act.put, List.setIfInBounds_toArray, List.set_cons_zero, List.set_cons_succ])
          refine wpAnyH_done (by kernel_rfl) ?_ _
          refine NoPanic.normal ?_
          go_wp2_with fail
          refine bodyPost_ret (results_cct rfl _ _ ⟨A0, 0, none⟩ ⟨A1, 0, none⟩ _ _ rfl rfl (load_TH (unhide HT2).blk rfl) (load_TE (unhide HT3).blk (entA_size hDl))) rfl ?_
          exact ⟨unhide HOKR _ (parE_ok (unhide HX) (unhide HBAD)) rfl, (unhide HT4).below⟩
        · have HCK := hide (chkE_not hok)
          have HBAD : Hid (badP zs) := (unhide HP).2 (.inr (.inr hok))
          clear hin hok
          have hq : ∀ W, (binOp .neq 103 (.agg (tailA T)) (.agg #[.int .u8 0, .int .u8 0, .int .u8 0, .int .u8 0])).run Tryz.prog W = .ok (.bool false) W := fun W => neTT T [0, 0, 0, 0] hTl rfl false (by rw [decide_eq_true (unhide HTZ)]; rfl) W
          have hc0 := unhide hcc
          go_wp2_with (refine wpList_load_row rfl 103 _ rfl BT rfl 103 (tailA T) _ _ (unhide HCT).blk Tryz.underlying103 rfl (by rw [sizeTT, tailA, List.size_toArray, datL_len, hTl]) ?_)
          refine (ewithin_any H0 1 1099511627776 _ true (unhide HIN)).mono ?_
          rintro e w15 ⟨rfl, hw15⟩
          subst hw15
          go_wp2_with (refine wpList_load_want10 rfl 46 _ rfl BE rfl 46 (entA K L S D) _ _ (unhide HCE).blk Tryz.underlying46 rfl (by rw [sizeTE, entA_size hDl]) ?_)
          refine (echeck_any K L S D hDl _).mono ?_
          rintro e w16 ⟨rfl, hk⟩
          rw [unhide HCK]
          replace HA0 := hide ((unhide HA0).below hk)
          replace HA1 := hide ((unhide HA1).below hk)
          replace HCH := hide ((unhide HCH).below hk)
          replace HCE := hide ((unhide HCE).below hk)
          replace HT := hide ((unhide HT).ofBelow hk)
          have hc0' : w16.cell? ⟨BH, 0, none⟩ = some (.int .i64 H0) := cell_blk (unhide HCH).blk rfl
          clear hk hc0
          obtain ⟨t1, t2, t3, t4, -, -⟩ := two_rows (unhide HT) (unhide HA0) (unhide HA1) hA0s hA1s hne #[.int .i64 0, .int .i64 0, .int .i64 0, .int .i64 0] #[.int .i64 0, .int .i64 0, .int .i64 0, .int .u8 0, .int .u8 0, .int .u8 0, .int .u8 0, .int .u8 0, .int .u8 0, .int .u8 0, .int .u8 0, .int .u8 0, .int .u8 0, .int .u8 0, .int .u8 0, .int .u8 0, .int .u8 0, .int .u8 0, .int .u8 0]
          obtain ⟨w13, hw13⟩ : ∃ W, w16.setRow A0 #[.int .i64 0, .int .i64 0, .int .i64 0, .int .i64 0] = W := ⟨_, rfl⟩
          rw [hw13] at t1 t2 t3 t4
          obtain ⟨w14, hw14⟩ : ∃ W, w13.setRow A1 #[.int .i64 0, .int .i64 0, .int .i64 0, .int .u8 0, .int .u8 0, .int .u8 0, .int .u8 0, .int .u8 0, .int .u8 0, .int .u8 0, .int .u8 0, .int .u8 0, .int .u8 0, .int .u8 0, .int .u8 0, .int .u8 0, .int .u8 0, .int .u8 0, .int .u8 0] = W := ⟨_, rfl⟩
          rw [hw14] at t2 t3 t4
          have HT1 := hide t1
          have HT2 := hide t2
          have HT3 := hide t3
          have HT4 := hide t4
          have HW13 := hide hw13
          have HW14 := hide hw14
          clear t1 t2 t3 t4 hw13 hw14
          go_wp2_with (first | (refine wpList_store_row rfl 52 _ _ rfl A0 #[.int .i64 0, .int .i64 0, .int .i64 0, .int .i64 0] rfl rfl 52 #[.int .i64 0, .int .i64 0, .int .i64 0, .int .i64 0] (unhide HA0).blk (by rw [sizeTH]; rfl) rfl (one_head 0 0 0 0) ?_; rw [unhide HW13]) | (refine wpList_store_row rfl 46 _ _ rfl A1 #[.int .i64 0, .int .i64 0, .int .i64 0, .int .u8 0, .int .u8 0, .int .u8 0, .int .u8 0, .int .u8 0, .int .u8 0, .int .u8 0, .int .u8 0, .int .u8 0, .int .u8 0, .int .u8 0, .int .u8 0, .int .u8 0, .int .u8 0, .int .u8 0, .int .u8 0] rfl rfl 46 #[.int .i64 0, .int .i64 0, .int .i64 0, .int .u8 0, .int .u8 0, .int .u8 0, .int .u8 0, .int .u8 0, .int .u8 0, .int .u8 0, .int .u8 0, .int .u8 0, .int .u8 0, .int .u8 0, .int .u8 0, .int .u8 0, .int .u8 0, .int .u8 0, .int .u8 0] (unhide HT1).blk (by rw [sizeTE]; rfl) rfl (entA_one 0 0 0 zer16) ?_; rw [unhide HW14]))
          refine bodyPost_ret (results_cct rfl _ _ ⟨A0, 0, none⟩ ⟨A1, 0, none⟩ _ _ rfl rfl (load_TH (unhide HT2).blk rfl) (load_TE (unhide HT3).blk rfl)) rfl ?_
          exact ⟨parR_bad (parE_bad (unhide HX) (unhide HBAD)) (by omega) rfl, (unhide HT4).below⟩
      · have HIN := hide (decide_eq_false hin)
        have HBAD : Hid (badP zs) := (unhide HP).2 (.inr (.inl hin))
        clear hin
        obtain ⟨t1, t2, t3, t4, -, -⟩ := two_rows (unhide HT) (unhide HA0) (unhide HA1) hA0s hA1s hne #[.int .i64 0, .int .i64 0, .int .i64 0, .int .i64 0] #[.int .i64 0, .int .i64 0, .int .i64 0, .int .u8 0, .int .u8 0, .int .u8 0, .int .u8 0, .int .u8 0, .int .u8 0, .int .u8 0, .int .u8 0, .int .u8 0, .int .u8 0, .int .u8 0, .int .u8 0, .int .u8 0, .int .u8 0, .int .u8 0, .int .u8 0]
        obtain ⟨w13, hw13⟩ : ∃ W, w12.setRow A0 #[.int .i64 0, .int .i64 0, .int .i64 0, .int .i64 0] = W := ⟨_, rfl⟩
        rw [hw13] at t1 t2 t3 t4
        obtain ⟨w14, hw14⟩ : ∃ W, w13.setRow A1 #[.int .i64 0, .int .i64 0, .int .i64 0, .int .u8 0, .int .u8 0, .int .u8 0, .int .u8 0, .int .u8 0, .int .u8 0, .int .u8 0, .int .u8 0, .int .u8 0, .int .u8 0, .int .u8 0, .int .u8 0, .int .u8 0, .int .u8 0, .int .u8 0, .int .u8 0] = W := ⟨_, rfl⟩
        rw [hw14] at t2 t3 t4
        have HT1 := hide t1
        have HT2 := hide t2
        have HT3 := hide t3
        have HT4 := hide t4
        have HW13 := hide hw13
        have HW14 := hide hw14
        clear t1 t2 t3 t4 hw13 hw14
        have hq : ∀ W, (binOp .neq 103 (.agg (tailA T)) (.agg #[.int .u8 0, .int .u8 0, .int .u8 0, .int .u8 0])).run Tryz.prog W = .ok (.bool false) W := fun W => neTT T [0, 0, 0, 0] hTl rfl false (by rw [decide_eq_true (unhide HTZ)]; rfl) W
        have hc0 := unhide hcc
        go_wp2_with (refine wpList_load_row rfl 103 _ rfl BT rfl 103 (tailA T) _ _ (unhide HCT).blk Tryz.underlying103 rfl (by rw [sizeTT, tailA, List.size_toArray, datL_len, hTl]) ?_)
        refine (ewithin_any H0 1 1099511627776 _ false (unhide HIN)).mono ?_
        rintro e w15 ⟨rfl, hw15⟩
        subst hw15
        go_wp2_with (first | (refine wpList_store_row rfl 52 _ _ rfl A0 #[.int .i64 0, .int .i64 0, .int .i64 0, .int .i64 0] rfl rfl 52 #[.int .i64 0, .int .i64 0, .int .i64 0, .int .i64 0] (unhide HA0).blk (by rw [sizeTH]; rfl) rfl (one_head 0 0 0 0) ?_; rw [unhide HW13]) | (refine wpList_store_row rfl 46 _ _ rfl A1 #[.int .i64 0, .int .i64 0, .int .i64 0, .int .u8 0, .int .u8 0, .int .u8 0, .int .u8 0, .int .u8 0, .int .u8 0, .int .u8 0, .int .u8 0, .int .u8 0, .int .u8 0, .int .u8 0, .int .u8 0, .int .u8 0, .int .u8 0, .int .u8 0, .int .u8 0] rfl rfl 46 #[.int .i64 0, .int .i64 0, .int .i64 0, .int .u8 0, .int .u8 0, .int .u8 0, .int .u8 0, .int .u8 0, .int .u8 0, .int .u8 0, .int .u8 0, .int .u8 0, .int .u8 0, .int .u8 0, .int .u8 0, .int .u8 0, .int .u8 0, .int .u8 0, .int .u8 0] (unhide HT1).blk (by rw [sizeTE]; rfl) rfl (entA_one 0 0 0 zer16) ?_; rw [unhide HW14]))
        refine bodyPost_ret (results_cct rfl _ _ ⟨A0, 0, none⟩ ⟨A1, 0, none⟩ _ _ rfl rfl (load_TH (unhide HT2).blk rfl) (load_TE (unhide HT3).blk rfl)) rfl ?_
        exact ⟨parR_bad (parE_bad (unhide HX) (unhide HBAD)) (by omega) rfl, (unhide HT4).below⟩
end Go.Proofs.YtjdikhelabibnabGreat

namespace Go.Proofs.YtjdikhelabibnabGreat
open Go.RowKit Go.Shelf

theorem st3_all (zs : List Int) : st3 zs = rdS (szH ++ (szE ++ szT)) (zs, 0) := by
  unfold st3 st2 st1
  rw [rdS_app, rdS_app]
theorem szAll : (szH ++ (szE ++ szT)).sum = 48 := by decide
theorem cod_cut {zs : List Int} (h : zs.length < 48) : cod zs = 3 := by
  unfold cod
  rw [st3_all, rdS_cut _ _ (by rw [szAll]; exact h)]
  rfl
theorem cod_more {zs : List Int} (h : 48 < zs.length) : cod zs = 4 := by
  unfold cod
  rw [st3_all, rdS_ok _ _ (by rw [szAll]; omega), szAll]
  rw [if_pos ⟨rfl, fun e => by have := congrArg List.length e; simp at this; omega⟩]
theorem cod_fit {zs : List Int} (h : zs.length = 48) : cod zs = 0 := by
  unfold cod
  rw [st3_all, rdS_ok _ _ (by rw [szAll]; omega), szAll]
  rw [if_neg (fun e => e.2 (by apply List.eq_nil_of_length_eq_zero; simp; omega))]
theorem parR_err {zs : List Int} {e : Ending} {x : Int} (h : ParR e zs) (hx : parE zs = x) (h0 : x ≠ 0) : e = .returned (.tuple #[.agg (headA 0 0 0 0), .agg (entA 0 0 0 zer16), .int .i64 x]) := by
  subst hx
  unfold ParR parH parN parD at h
  simp only [if_neg h0] at h
  exact h
theorem parR_fine {zs : List Int} {e : Ending} (h : ParR e zs) (h0 : parE zs = 0) : e = .returned (.tuple #[.agg (headA ((pH zs).getD 0 0) ((pH zs).getD 1 0) ((pH zs).getD 2 0) ((pH zs).getD 3 0)), .agg (entA ((pE zs).getD 0 0) ((pE zs).getD 1 0) ((pE zs).getD 2 0) (pD zs)), .int .i64 0]) := by
  unfold ParR parH parN parD at h
  simp only [if_pos h0] at h
  rw [h, h0]
/-- A slot's bytes are read as they were written. -/
theorem parse_back {a b c e k l s : Int} {d : List Nat} (hd : d.length = 16) (hdb : ∀ x ∈ d, x < 256) (ha : 1 ≤ a ∧ a ≤ 1099511627776) (hb : 0 ≤ b ∧ b ≤ 255) (hc : 0 ≤ c ∧ c ≤ 255) (he : 0 ≤ e ∧ e ≤ 255) (hok : okE k l s d) {x : Ending} (h : ParR x (byT a b c e k l s d)) :
    x = .returned (.tuple #[.agg (headA a b c e), .agg (entA k l s d), .int .i64 0]) := by
  obtain ⟨r1, r2, r3, r4⟩ := read_byW a b c e k l s d [0, 0, 0, 0] hd rfl hdb (by simp)
  have wa : wrap64 a = a := wrap64_in10 ⟨by omega, by omega⟩
  have hk := hok.1
  have ek : k % 256 = k := by omega
  have hl : -9223372036854775808 ≤ l ∧ l ≤ 9223372036854775807 := by
    by_cases hq : k = 1 ∨ k = 2
    · have := (hok.2.1 hq).1; omega
    · have := (hok.2.2.1 hq).1; omega
  have hs : -9223372036854775808 ≤ s ∧ s ≤ 9223372036854775807 := by
    by_cases hq : k = 1 ∨ k = 2
    · have := (hok.2.1 hq).2; omega
    · have := (hok.2.2.1 hq).2; omega
  rw [wrap64_in10 hl, wrap64_in10 hs, ek] at r2
  rw [wa, show b % 256 = b by omega, show c % 256 = c by omega, show e % 256 = e by omega] at r1
  have hD : pD (byT a b c e k l s d) = d := by
    unfold pD byT
    rw [r2]
    exact nat10_ints d
  have hE : parE (byT a b c e k l s d) = 0 := by
    refine parE_ok r4 ?_
    unfold badP
    rw [hD]
    unfold byT
    rw [r1, r2, r3]
    rintro (h | h | h)
    · exact h rfl
    · exact h ha
    · exact h hok
  have := parR_fine h hE
  rw [hD] at this
  unfold byT at this
  rw [r1, r2] at this
  exact this
/-- Two blocks that are laid and stored whole. -/
theorem two_new10 (w : World) (LH LE CH CE : Array Value) (t0 t1 : TypeId) : ∀ W, ((((w.alloc (.cells LH t0)).alloc (.cells LE t1)).setRow w.heap.size CH).setRow (w.heap.size + 1) CE) = W →
    AtB ((w.alloc (.cells LH t0)).alloc (.cells LE t1)) w.heap.size LH t0 ∧ AtB (((w.alloc (.cells LH t0)).alloc (.cells LE t1)).setRow w.heap.size CH) (w.heap.size + 1) LE t1 ∧ AtB W w.heap.size CH t0 ∧ AtB W (w.heap.size + 1) CE t1 ∧ Below w.heap.size w W := by
  rintro W rfl
  have h0 : AtB ((w.alloc (.cells LH t0)).alloc (.cells LE t1)) w.heap.size LH t0 := ⟨(Below.heap_alloc _ _ _ (by simp)).trans (World.alloc_heap_new w _)⟩
  have h1 : AtB ((w.alloc (.cells LH t0)).alloc (.cells LE t1)) (w.heap.size + 1) LE t1 := ⟨by
    have := World.alloc_heap_new (w.alloc (.cells LH t0)) (.cells LE t1)
    rwa [World.size_alloc] at this⟩
  obtain ⟨t1, t2, t3, t4, -, -⟩ := two_rows (((Kp.refl [] w).alloc _).alloc _) h0 h1 (Nat.le_refl _) (by omega) (by omega) CH CE
  exact ⟨h0, t1, t2, t3, t4.below⟩

end Go.Proofs.YtjdikhelabibnabGreat
