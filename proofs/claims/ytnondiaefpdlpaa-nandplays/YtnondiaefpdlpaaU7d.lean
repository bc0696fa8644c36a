/-
  The second telling of nand: New.
-/
import Derived.Test.YtnondiaefpdlpaaMh
import Derived.Test.YtnondiaefpdlpaaV7f
namespace Go.Proofs.Ytnondiaefpdlpaa
open Go.RowKit Go.Shelf

set_option maxRecDepth 100000 in
set_option maxHeartbeats 8000000 in
theorem rnew_not (D B P : Int) (v : Value) (w : World) (h : ¬ okG D B P) : Calls Try.prog 14 #[.agg #[.int .i64 D, .int .i64 B, .int .i64 P], v] w fun e w' => e = .returned (.tuple #[.pointer none, .int .i64 1]) ∧ Below w.heap.size w w' := by
  have HO := hide (decide_eq_false h)
  have HB : Hid (Below w.heap.size w (w.alloc (.cells #[.int .i64 D, .int .i64 B, .int .i64 P] 23))) := (Below.refl _ _).alloc (Nat.le_refl _) _
  clear h
  go_enter Try.func14, Try.ntmps14
  go_wp2_with fail
  refine (check_any _ _ _ _).mono ?_
  rintro e W2 ⟨rfl, hb⟩
  rw [unhide HO]
  have HB2 := hide ((unhide HB).trans (hb.mono (unhide HB).size))
  clear hb
  go_wp2_with fail
  go_returns
  exact ⟨rfl, unhide HB2⟩

theorem made_noise (P : Nat) (w : World) : ∃ cs : Array Value, (P ≤ 1000 → (Instr.makeSlice 82 (.int .i64 (P : Int)) (.int .i64 (P : Int))).run Try.prog w = .ok (.slice (some ⟨w.heap.size, 0, none⟩) P P) (w.alloc (.cells cs 24))) ∧ ∀ d, d < P → cs[d]? = some (.slice none 0 0) := by
  obtain ⟨i0, hi0, hz0, hz1, hz2⟩ := info_parts infoL1
  refine ⟨madeCells (Value.cells (.slice none 0 0)) (P * 1), fun hP => ?_, fun p hp => ?_⟩
  · have h := run_make (P := Try.prog) w 82 24 i0 (.slice none 0 0) Try.underlying82 hi0 hz0 .i64 .i64 P P (by omega) (by omega) (by rw [hz2]; omega) (by omega)
    rw [hz1, Int.toNat_natCast] at h
    exact h
  · simp [madeCells, Value.cells, hp, Nat.mod_one]

theorem wp_append_run (w : World) {o : Oper} {a : Act} {K : Act → World → Prop} {Q : Exit → Act → World → Prop} (d s : Operand) (t t' : TypeId)
    (ho : o.op = .call { callee := .builtin .append, args := #[d, s], argTypes := #[t, t'] }) (v u : Value) (hd : a.eval d = v) (hs : a.eval s = u) {v' : Value} {w' : World}
    (hr : (Builtin.append_ #[t, t'] o.type #[v, u]).run Try.prog w = .ok v' w') (h : K (a.put o.dst v') w') : o.wp Try.prog a w K Q := by
  unfold Oper.wp execOp
  simp only [ho, resolve, invoke, builtin, Sem.run_bind, Sem.run_pure, Result.andThen_ok, List.map_toArray, List.map_cons, List.map_nil, hd, hs, hr]
  exact h

/-- What New has made so far: d dies. -/
structure Mk (w : World) (q D B P d : Nat) (Bv Lv : Value) (Ds : Nat → Ld) : Prop where
  top : w.heap[q]? = some (.cells #[.int .i64 (D : Int), .int .i64 (B : Int), .int .i64 (P : Int), Bv, Lv, .int .i64 0, .slice none 0 0, .bool false, .int .i64 0, .int .i64 0] 75 (0, 0))
  rb : OwnC (q + 1) w 76 Bv d (fun i => .slice (some ⟨(Ds i).bs, 0, none⟩) B (Ds i).cb)
  rl : OwnC (q + 1) w 77 Lv d (fun i => .slice (some ⟨(Ds i).ls, 0, none⟩) B (Ds i).cl)
  all : AllR w (q + 1) d B P Ds


/-- All dies are made: the second telling, blank. -/
theorem Mk.ra {w : World} {q D B P m : Nat} {Bv Lv : Value} {Ds : Nat → Ld} (h : Mk w q D B P D Bv Lv Ds) (hf : ∀ i b, (Ds i).bd b = false) (hD : D ≤ 8) (hB : B ≤ 12) (hP : P ≤ 8) (hD0 : 0 < D) (hm : m ≤ q) : ∃ L : Lr, L.n = q ∧ RA m w L (blank D B P (fun _ _ => false)) := by
  obtain ⟨gb, xb, hBv, hgb, hxb1, hxb2, hrb⟩ := h.rb.row hD0
  obtain ⟨gl, xl, hLv, hgl, hxl1, hxl2, hrl⟩ := h.rl.row hD0
  have htop := h.top
  rw [hBv, hLv] at htop
  refine ⟨⟨q, gb, xb, gl, xl, fun d => (Ds d).bs, fun d => (Ds d).cb, fun d => (Ds d).ls, fun d => (Ds d).cl, fun d => (Ds d).ps, fun d => (Ds d).cp, fun d => (Ds d).ns, fun d => (Ds d).hv, fun _ _ _ => .slice none 0 0, .slice none 0 0⟩, rfl, ?_⟩
  exact
  { ok := blank_ok _ hD hB hP
    top := htop
    rb := hrb
    rl := hrl
    blocks := fun d hd => (h.all.die d hd).bk.eq (fun b hb j hj => by
      match j, hj with
      | 0, _ => rfl
      | 1, _ => rfl
      | 2, _ => rfl
      | 3, _ => simp only [blk4, blkR, hf]; rfl)
    lk := fun d hd => (h.all.die d hd).lk
    pg := fun d b hd hb => (h.all.die d hd).inn.pg b hb
    ng := fun d b hd hb => (h.all.die d hd).inn.ng b hb
    hold := fun d b p hd hb hp => ((h.all.die d hd).inn.fr b hb p hp).low
    nois := fun d b p hd hb hp => ⟨FrZ.nil _, fun z hz => by cases hz⟩
    msk := ⟨.inl ⟨rfl, rfl⟩, Bs.nil⟩
    xb := ⟨hxb1, hxb2⟩
    xl := ⟨hxl1, hxl2⟩
    cb := fun d hd => (h.all.die d hd).cb
    cl := fun d hd => (h.all.die d hd).cl
    cp := fun d b hd hb => (h.all.die d hd).inn.cap b hb
    inj1 := h.all.inj1
    inj3 := h.all.inj3
    inj4 := h.all.inj4
    low0 := hm
    low1 := fun d hd => Nat.le_trans (by omega) (h.all.die d hd).lb
    low2 := fun d b hd hb => Nat.le_trans (by omega) ((h.all.die d hd).inn.lowp b hb)
    low3 := fun d b hd hb => Nat.le_trans (by omega) ((h.all.die d hd).inn.lown b hb) }

set_option maxRecDepth 100000 in
set_option maxHeartbeats 8000000 in
theorem rnew_any (D B P : Nat) (v : Value) (gv : Nat) (l : List (Int × Int)) (w : World) (h : okG D B P) (hV : PArg w v gv l) : Calls Try.prog 14 #[.agg #[.int .i64 (D : Int), .int .i64 (B : Int), .int .i64 (P : Int)], v] w fun e w' => Below w.heap.size w w' ∧
    (¬ okB D B l ∧ e = .returned (.tuple #[.pointer none, .int .i64 1]) ∨ okB D B l ∧ ∃ L : Lr, e = .returned (.tuple #[.pointer (some ⟨L.n, 0, none⟩), .int .i64 0]) ∧ RA w.heap.size w' L (blank D B P (badOf l))) := by
  have HO := hide (decide_eq_true h)
  obtain ⟨⟨hD1, hD⟩, ⟨hB1, hB⟩, hP1, hP⟩ := h
  have hD : D ≤ 8 := by omega
  have hB : B ≤ 12 := by omega
  have hP : P ≤ 8 := by omega
  obtain ⟨ao, c, rfl, hc1, hc2, hrow⟩ := hV
  have HROW := hide hrow
  have HLT : Hid (l ≠ [] → gv < w.heap.size) := fun hne => PArg.lt (v := .slice ao l.length c) ⟨ao, c, rfl, hc1, hc2, hrow⟩ hne
  clear hrow
  obtain ⟨W0, hW0⟩ : ∃ W, w.alloc (.cells #[.int .i64 (D : Int), .int .i64 (B : Int), .int .i64 (P : Int)] 23) = W := ⟨_, rfl⟩
  have hn : W0.heap[w.heap.size]? = some (.cells #[.int .i64 (D : Int), .int .i64 (B : Int), .int .i64 (P : Int)] 23 (0, 0)) := by rw [← hW0]; exact World.alloc_heap_new w _
  have c0 : W0.cell? ⟨w.heap.size, 0, none⟩ = some (.int .i64 (D : Int)) := cell_blk hn rfl
  have c1 : W0.cell? ⟨w.heap.size, 1, none⟩ = some (.int .i64 (B : Int)) := cell_blk hn rfl
  have c2 : W0.cell? ⟨w.heap.size, 2, none⟩ = some (.int .i64 (P : Int)) := cell_blk hn rfl
  have hBW : Below w.heap.size w W0 := by rw [← hW0]; exact (Below.refl _ _).alloc (Nat.le_refl _) _
  have HB := hide hBW
  have HN0 := hide hn
  clear hn hBW
  obtain ⟨ll, hll⟩ : ∃ n, l.length = n := ⟨_, rfl⟩
  have HLL := hide hll
  rw [hll] at hc1 ⊢
  clear hll
  go_enter Try.func14, Try.ntmps14
  go_wp2_with fail
  refine (check_any _ _ _ _).mono ?_
  rintro e W1 ⟨rfl, hb⟩
  rw [unhide HO]
  have hn1 := (hb.block _ (lt_of_block (unhide HN0))).trans (unhide HN0)
  replace c0 : W1.cell? ⟨w.heap.size, 0, none⟩ = some (.int .i64 (D : Int)) := cell_blk hn1 rfl
  replace c1 : W1.cell? ⟨w.heap.size, 1, none⟩ = some (.int .i64 (B : Int)) := cell_blk hn1 rfl
  replace c2 : W1.cell? ⟨w.heap.size, 2, none⟩ = some (.int .i64 (P : Int)) := cell_blk hn1 rfl
  have HN1 := hide hn1
  have HB1 := hide ((unhide HB).trans (hb.mono (unhide HB).size))
  clear hb HB hn1 hW0 HN0
  go_wp2_with fail
  clear c0 c1 c2
  have hal : Below W1.heap.size W1 (W1.alloc (.cells #[.int .i64 (D : Int), .int .i64 (B : Int), .int .i64 (P : Int), .slice none 0 0, .slice none 0 0, .int .i64 0, .slice none 0 0, .bool false, .int .i64 0, .int .i64 0] 75)) := (Below.refl _ _).alloc (Nat.le_refl _) _
  have htop := World.alloc_heap_new W1 (.cells #[.int .i64 (D : Int), .int .i64 (B : Int), .int .i64 (P : Int), .slice none 0 0, .slice none 0 0, .int .i64 0, .slice none 0 0, .bool false, .int .i64 0, .int .i64 0] 75)
  have hq0 := lt_of_block (unhide HN1)
  have HN2 := hide ((hal.block _ hq0).trans (unhide HN1))
  have HB2 := hide ((unhide HB1).trans (hal.mono (unhide HB1).size))
  have HMK : Hid (Mk (W1.alloc (.cells #[.int .i64 (D : Int), .int .i64 (B : Int), .int .i64 (P : Int), .slice none 0 0, .slice none 0 0, .int .i64 0, .slice none 0 0, .bool false, .int .i64 0, .int .i64 0] 75)) W1.heap.size D B P 0 (.slice none 0 0) (.slice none 0 0) (fun _ => ⟨0, 0, 0, 0, fun _ => 0, fun _ => 0, fun _ _ => .slice none 0 0, fun _ => 0, fun _ => false⟩)) :=
    ⟨htop, OwnC.nil _ _ _ _, OwnC.nil _ _ _ _, AllR.zero _ _ _ _ _⟩
  generalize W1.alloc (.cells #[.int .i64 (D : Int), .int .i64 (B : Int), .int .i64 (P : Int), .slice none 0 0, .slice none 0 0, .int .i64 0, .slice none 0 0, .bool false, .int .i64 0, .int .i64 0] 75) = W2 at HN2 HB2 HMK ⊢
  obtain ⟨q, hq⟩ : ∃ q, W1.heap.size = q := ⟨_, rfl⟩
  rw [hq] at HMK hq0 ⊢
  clear hal htop hq HB1 HN1
  go_loopw [7] (fun q7 wr => ∃ (d : Nat) (Bv Lv : Value) (Ds : Nat → Ld), q7 = .int .i64 d ∧ d ≤ D ∧ Hid (Mk wr q D B P d Bv Lv Ds) ∧ Hid (∀ i b, (Ds i).bd b = false) ∧ Hid (wr.heap[w.heap.size]? = some (.cells #[.int .i64 (D : Int), .int .i64 (B : Int), .int .i64 (P : Int)] 23 (0, 0))) ∧ Hid (Below w.heap.size w wr)) (fun q7 _ => D - (intOf q7).toNat)
  case atStart => exact ⟨0, _, _, _, rfl, by omega, HMK, fun _ _ => rfl, HN2, HB2⟩
  case round =>
    clear HMK HN2 HB2
    obtain ⟨d, Bv, Lv, Ds, rfl, hd, HMK, HFB, HN, HB⟩ := hrel
    have g0 : wr.cell? ⟨w.heap.size, 0, none⟩ = some (.int .i64 (D : Int)) := cell_blk (unhide HN) rfl
    by_cases hdD : d < D
    · have hd1 : (d : Int) < (D : Int) := by omega
      go_wp2_with fail
      clear g0
      obtain ⟨Wd, hWd⟩ : ∃ W, W = wr := ⟨_, rfl⟩
      subst hWd
      go_loopw [8, 9, 10] (fun q8' q9' q10 wr2 => ∃ (b : Nat) (q8 q9 : Value) (ps cp : Nat → Nat) (hv : Nat → Nat → Value) (ns : Nat → Nat), q8' = q8 ∧ q9' = q9 ∧ q10 = .int .i64 b ∧ b ≤ B ∧ Hid (OwnB Wd.heap.size wr2 q8 b (fun i => blk4 (ps i) (cp i) P false)) ∧ Hid (OwnC Wd.heap.size wr2 82 q9 b (fun i => .slice (some ⟨ns i, 0, none⟩) P P)) ∧ Hid (InR wr2 Wd.heap.size b P ps cp hv ns) ∧ Hid (Below Wd.heap.size Wd wr2)) (fun _ _ q10 _ => B - (intOf q10).toNat)
      case atStart => exact ⟨0, _, _, fun _ => 0, fun _ => 0, fun _ _ => .slice none 0 0, fun _ => 0, rfl, rfl, rfl, by omega, OwnB.nil _ _ _, OwnC.nil _ _ _ _, InR.zero _ _ _ _ _ _ _, Below.refl _ _⟩
      case round =>
        obtain ⟨b, q8, q9, ps, cp, hv, ns, h8, h9, rfl, hb, HOB, HOL, HIN, HBD⟩ := hrel
        replace h8 := h8.symm
        replace h9 := h9.symm
        subst h8
        subst h9
        have hNw := ((unhide HBD).block w.heap.size (lt_of_block (unhide HN))).trans (unhide HN)
        have HNw := hide hNw
        have g1 : wr.cell? ⟨w.heap.size, 1, none⟩ = some (.int .i64 (B : Int)) := cell_blk hNw rfl
        clear hNw
        by_cases hbB : b < B
        · have hb1 : (b : Int) < (B : Int) := by omega
          have HOLD : Hid (∀ i, i < b → ps i < wr.heap.size ∧ ns i < wr.heap.size) := fun i hi => ⟨((unhide HIN).pg i hi).lt, ((unhide HIN).ng i hi).lt⟩
          have HQ8 : Hid (∀ k, q8.ownBlock = some k → k < wr.heap.size) := fun k hk => by obtain ⟨_, cur, hc⟩ := (unhide HOB).ownBlock hk; exact lt_of_block hc
          have HQ9 : Hid (∀ k, q9.ownBlock = some k → k < wr.heap.size) := fun k hk => by obtain ⟨_, cur, hc⟩ := (unhide HOL).ownBlock hk; exact lt_of_block hc
          have hal : Below wr.heap.size wr (wr.alloc (.cells #[.slice none 0 0, .int .i64 0, .int .i64 0, .bool false] 80)) := (Below.refl _ _).alloc (Nat.le_refl _) _
          have HAL := hide hal
          have HX0 := hide (World.alloc_heap_new wr (.cells #[.slice none 0 0, .int .i64 0, .int .i64 0, .bool false] 80))
          clear hal
          go_wp2_with fail
          clear g1
          generalize wr.alloc (.cells #[.slice none 0 0, .int .i64 0, .int .i64 0, .bool false] 80) = W3 at HAL HX0 ⊢
          obtain ⟨Wx, hWx⟩ : ∃ W, W = wr := ⟨_, rfl⟩
          subst hWx
          go_loopw [12] (fun q12 wr3 => ∃ (p : Nat) (Pv : Value) (hw : Nat → Value), q12 = .int .i64 p ∧ p ≤ P ∧ Hid (wr3.heap[Wx.heap.size]? = some (.cells #[Pv, .int .i64 0, .int .i64 0, .bool false] 80 (0, 0))) ∧ Hid (OwnC (Wx.heap.size + 1) wr3 38 Pv p hw) ∧ Hid (∀ p', p' < p → Fr (Wx.heap.size + 1) wr3 (hw p') ones60) ∧ Hid (Below Wx.heap.size Wx wr3)) (fun q12 _ => P - (intOf q12).toNat)
          case atStart => exact ⟨0, .slice none 0 0, fun _ => .slice none 0 0, rfl, by omega, HX0, OwnC.nil _ _ _ _, fun p' hp => by omega, HAL⟩
          case round =>
            clear HX0 HAL
            obtain ⟨p, Pv, hw, rfl, hp, HX, HOW, HFR, HBL⟩ := hrel
            have hNp := ((unhide HBL).block w.heap.size (lt_of_block (unhide HNw))).trans (unhide HNw)
            have HNp := hide hNp
            have g2 : wr.cell? ⟨w.heap.size, 2, none⟩ = some (.int .i64 (P : Int)) := cell_blk hNp rfl
            clear hNp
            by_cases hpP : p < P
            · have hp1 : (p : Int) < (P : Int) := by omega
              go_wp2_with fail
              clear g2
              refine wp_region_noPanic ?_
              refine regionK (kk := 6) (S := fun W => W.cell? ⟨Wx.heap.size, 0, none⟩ = some Pv) (by kernel_rfl) ?_
              have HH : Hid (wr.drew.cell? ⟨Wx.heap.size, 0, none⟩ = some Pv) := cell_blk (w := wr.drew) (unhide HX) rfl
              refine takeK (i := 0) (v := ?_) rfl (by kernel_rfl) (by kernel_rfl) (by kernel_rfl) (by kernel_rfl) (by kernel_rfl) (by kernel_rfl) (fun _ _ _ h => h) (Or.inl ⟨by rfl, ?_⟩) (unhide HH) ?_
              rotate_left 1
              · intro W1 hSW; go_simp; all_goals (with_reducible rfl)
              (try simp only [Act.put, List.setIfInBounds_toArray, List.set_cons_zero, List.set_cons_succ])
              refine takeK (i := 1) (v := ?_) rfl (by kernel_rfl) (by kernel_rfl) (by kernel_rfl) (by kernel_rfl) (by kernel_rfl) (by kernel_rfl) (fun _ _ _ h => h) (Or.inl ⟨by rfl, ?_⟩) (unhide HH) ?_
              rotate_left 1
              · intro W1 hSW; have hcl : W1.cell? ⟨Wx.heap.size, 0, none⟩ = some Pv := hSW; clear hSW; go_simp; all_goals (with_reducible rfl)
              (try simp only [Act.put, List.setIfInBounds_toArray, List.set_cons_zero, List.set_cons_succ])
              refine readyK (rs := [2]) (by kernel_rfl) (by simp) ?_
              refine consK rfl (fun K hK => ?_) nilK
              go_simp
              refine (rones_any wr.drew).mono ?_
              rintro e W2 ⟨v2, rfl, hF2, hb2⟩
              go_wp2_with fail
              obtain ⟨o2, c2, rfl⟩ : ∃ o c, v2 = .slice o 60 c := by
                obtain ⟨o, c, h⟩ := hF2.shape
                exact ⟨o, c, by rw [h, ones60_len]⟩
              have hxlt := lt_of_block (unhide HX)
              have hX2 : W2.heap[Wx.heap.size]? = some (.cells #[Pv, .int .i64 0, .int .i64 0, .bool false] 80 (0, 0)) := (hb2.block _ hxlt).trans (unhide HX)
              have HX2 := hide hX2
              have HO2 := hide ((unhide HOW).below (w' := W2) ⟨hb2.os, hb2.tape, hb2.output, hb2.size, hb2.block⟩)
              have HF2 := hide hF2
              have HB2 := hide hb2
              refine hK.out _ _ (fun _ => cell_blk hX2 rfl) ?_
              clear hK K
              (try simp only [Act.put, List.setIfInBounds_toArray, List.set_cons_zero, List.set_cons_succ])
              clear hF2 hb2 hX2
              refine readyK (rs := [3]) (by kernel_rfl) (by simp) ?_
              refine consK rfl (fun K hK => ?_) nilK
              have hal : Below W2.heap.size W2 (W2.alloc (.cells #[.slice o2 60 c2] 38)) := (Below.refl _ _).alloc (Nat.le_refl _) _
              have hcn := (cell_new' W2 (.slice o2 60 c2) 38).1
              go_simp
              have hX3 := (hal.block _ (lt_of_block (unhide HX2))).trans (unhide HX2)
              have HX3 := hide hX3
              have HO3 := hide ((unhide HO2).below hal)
              have HC3 := hide hcn
              have HAL := hide hal
              refine hK.out _ _ (fun _ => cell_blk hX3 rfl) ?_
              clear hK K
              (try simp only [Act.put, List.setIfInBounds_toArray, List.set_cons_zero, List.set_cons_succ])
              clear hal hcn hX3
              refine readyK (rs := [4]) (by kernel_rfl) (by simp) ?_
              refine consK rfl (fun K hK => ?_) nilK
              obtain ⟨v4, W4, hr4, hO4, hg4⟩ := run_append_sl (W2.alloc (.cells #[.slice o2 60 c2] 38)) (Wx.heap.size + 1) 78 78 38 Try.underlying78 infoPB Pv p hw (unhide HO3) W2.heap.size o2 60 c2 (unhide HC3) (by omega) (by have := (unhide HAL).size; have := lt_of_block (unhide HX2); omega)
              rw [if_pos (by rfl)]
              refine wp_append_run _ (.tmp 40) (.tmp 42) 78 78 rfl _ _ rfl rfl hr4 ?_
              have hne4 : some Wx.heap.size ≠ Pv.ownBlock := fun e => by have := ((unhide HO3).ownBlock e.symm).1; omega
              have hX4 := (hg4.block _ (lt_of_block (unhide HX3)) hne4).trans (unhide HX3)
              have HX4 := hide hX4
              have HO4 := hide hO4
              have HG4 := hide hg4
              obtain ⟨a4, l4, hv4⟩ := hO4.shape
              subst hv4
              refine hK.out _ _ (fun _ => cell_blk hX4 rfl) ?_
              clear hK K
              (try simp only [Act.put, List.setIfInBounds_toArray, List.set_cons_zero, List.set_cons_succ])
              clear hr4 hO4 hg4 hne4 hX4
              replace HH : Hid (W4.cell? ⟨Wx.heap.size, 0, none⟩ = some Pv) := cell_blk (unhide HX4) rfl
              refine takeK (i := 5) (v := ?_) rfl (by kernel_rfl) (by kernel_rfl) (by kernel_rfl) (by kernel_rfl) (by kernel_rfl) (by kernel_rfl) (fun _ _ _ h => h) (Or.inl ⟨by rfl, ?_⟩) (unhide HH) ?_
              rotate_left 1
              · intro W1 hSW; go_simp; all_goals (with_reducible rfl)
              (try simp only [Act.put, List.setIfInBounds_toArray, List.set_cons_zero, List.set_cons_succ])
              refine readyK (rs := [6]) (by kernel_rfl) (by simp) ?_
              refine consK rfl (fun K hK => ?_) nilK
              have hcx : W4.cell? ⟨Wx.heap.size, 0, none⟩ = some Pv := cell_blk (unhide HX4) rfl
              have hfx := free_blk (j := 0) (unhide HX4)
              go_simp
              clear hcx hfx
              refine hK.out _ _ (fun _ => (by rename_i hh; cases hh)) ?_
              clear hK K
              (try simp only [Act.put, List.setIfInBounds_toArray, List.set_cons_zero, List.set_cons_succ])
              refine doneK (by kernel_rfl) ?_ _
              refine NoPanic.normal ?_
              have HX6 := hide (heap_setCell_same W4 Wx.heap.size 0 _ _ (.slice a4 (p + 1) l4) (unhide HX4))
              have HO6 := hide ((unhide HO4).keep (w' := W4.setCell ⟨Wx.heap.size, 0, none⟩ (.slice a4 (p + 1) l4)) (fun g cur h1 h2 => Below.heap_setCell _ _ _ _ (by show g ≠ Wx.heap.size; omega)))
              have hl4 : Lie [5] 0 (W2.alloc (.cells #[.slice o2 60 c2] 38)) W4 := Lie.grown (unhide HG4) (fun k hk => by obtain ⟨_, cur, hc⟩ := (unhide HO3).ownBlock hk; exact ⟨cur, _, hc, by decide⟩)
              have hl6 : Lie [5] (Wx.heap.size + 1) W2 (W4.setCell ⟨Wx.heap.size, 0, none⟩ (.slice a4 (p + 1) l4)) := ((Lie.of_below (unhide HAL)).trans (hl4.mono (by simp) (Nat.zero_le _))).trans (Lie.set _ (unhide HX4) (by decide))
              have HFR6 : Hid (∀ p', p' < p + 1 → Fr (Wx.heap.size + 1) (W4.setCell ⟨Wx.heap.size, 0, none⟩ (.slice a4 (p + 1) l4)) ((fun i => if i = p then Value.slice o2 60 c2 else hw i) p') ones60) := fun p' hp' => by
                by_cases e : p' = p
                · simp only [if_pos e]
                  exact ((unhide HF2).below (Below.refl _ _) (by show Wx.heap.size + 1 ≤ wr.heap.size; have := lt_of_block (unhide HX); omega)).lie hl6 (by simp)
                · simp only [if_neg e]
                  exact ((unhide HFR p' (by omega)).below (w' := W2) ⟨(unhide HB2).os, (unhide HB2).tape, (unhide HB2).output, (unhide HB2).size, (unhide HB2).block⟩ (Nat.le_refl _)).lie hl6 (by simp)
              have hsz2 : wr.heap.size ≤ W2.heap.size := (unhide HB2).size
              have hxl := lt_of_block (unhide HX)
              have HBL6 : Hid (Below Wx.heap.size Wx (W4.setCell ⟨Wx.heap.size, 0, none⟩ (.slice a4 (p + 1) l4))) := by
                have e1 : Below Wx.heap.size wr W2 := ⟨(unhide HB2).os, (unhide HB2).tape, (unhide HB2).output, (unhide HB2).size, fun k hk => (unhide HB2).block k (by show k < wr.heap.size; omega)⟩
                have e2 : Below Wx.heap.size W2 (W2.alloc (.cells #[.slice o2 60 c2] 38)) := (unhide HAL).mono (by omega)
                have e3 : Below Wx.heap.size (W2.alloc (.cells #[.slice o2 60 c2] 38)) W4 := ⟨(unhide HG4).os, (unhide HG4).tape, (unhide HG4).output, (unhide HG4).size, fun k hk => (unhide HG4).block k (by have := (unhide HAL).size; omega) (fun e => by have := ((unhide HO3).ownBlock e.symm).1; omega)⟩
                exact ((((unhide HBL).trans e1).trans e2).trans e3).setCell (p := ⟨Wx.heap.size, 0, none⟩) (Nat.le_refl _) _
              clear hl4 hl6 HX2 HX3 HX4 HO2 HO3 HC3 HAL HO4 HG4 HF2 HB2 HH
              go_wp2_with fail
              go_roundw
              case rel => exact ⟨p + 1, _, _, by go_num, by omega, HX6, HO6, HFR6, HBL6⟩
              case measure => simp [intOf]; omega
            · have hpp : P = p := by omega
              subst hpp
              obtain ⟨gp, cpx, hPv, hgp, hcpx1, hcpx2, hrp⟩ := (unhide HOW).row (by omega)
              subst hPv
              have HRP := hide hrp
              have hlb := (unhide HBD).size
              replace HOB := hide ((unhide HOB).keep (w' := wr) (fun g cur h1 h2 => (unhide HBL).block g (lt_of_block h2)))
              replace HOL := hide ((unhide HOL).keep (w' := wr) (fun g cur h1 h2 => (unhide HBL).block g (lt_of_block h2)))
              replace HIN := hide ((unhide HIN).lie (w' := wr) (ts := [38, 24, 5]) (fun g cur t _ _ h => ((unhide HBL).block g (lt_of_block h)).trans h) (by simp) (by simp) (by simp))
              have HBX := hide ((unhide HBD).trans ((unhide HBL).mono hlb))
              clear hrp HOW
              go_wp2_with fail
              clear g2
              refine wp_region_noPanic ?_
              refine wp_region_held_drew (S := fun W => W.heap[Wx.heap.size]? = some (.cells #[.slice (some ⟨gp, 0, none⟩) P cpx, .int .i64 0, .int .i64 0, .bool false] 80 (0, 0)) ∧ W.heap[w.heap.size]? = some (.cells #[.int .i64 (D : Int), .int .i64 (B : Int), .int .i64 (P : Int)] 23 (0, 0))) (by kernel_rfl) ⟨unhide HX, unhide HNp⟩ (fun hHeld => ?_)
              have HH := hide hHeld
              clear hHeld
              have hdr : Below wr.heap.size wr wr.drew := (Below.refl _ _).drew
              replace HOB := hide ((unhide HOB).below hdr)
              replace HOL := hide ((unhide HOL).below hdr)
              replace HIN := hide ((unhide HIN).lie (Lie.of_below (ts := [38, 24, 5]) hdr) (by simp) (by simp) (by simp))
              replace HRP := hide ((unhide HRP).of (w' := wr.drew) rfl)
              replace HFR : Hid (∀ p, p < P → Fr (Wx.heap.size + 1) wr.drew (hw p) ones60) := fun p hp => (unhide HFR p hp).below hdr (Nat.le_refl _)
              replace HBX := hide ((unhide HBX).drew)
              clear hdr
              obtain ⟨V, hVV⟩ : ∃ W, W = wr.drew := ⟨_, rfl⟩
              rw [← hVV] at HOB HOL HIN HRP HFR HBX HH ⊢
              clear hVV
              refine takeL (i := 0) (v := ?_) rfl (by kernel_rfl) (by kernel_rfl) (by kernel_rfl) (fun _ _ _ h => h) (Or.inl ⟨by rfl, ?_⟩) (unhide HH) ?_
              rotate_left 1
              · intro W hSW; go_simp; all_goals (with_reducible rfl)
              (try simp only [Act.put, List.setIfInBounds_toArray, List.set_cons_zero, List.set_cons_succ])
              refine takeL (i := 1) (v := ?_) rfl (by kernel_rfl) (by kernel_rfl) (by kernel_rfl) (fun _ _ _ h => h) (Or.inl ⟨by rfl, ?_⟩) (unhide HH) ?_
              rotate_left 1
              · intro W1 hSW; have k0 := cell_blk (j := 0) hSW.1 rfl; have k1 := cell_blk (j := 1) hSW.1 rfl; have k2 := cell_blk (j := 2) hSW.1 rfl; have k3 := cell_blk (j := 3) hSW.1 rfl; clear hSW; go_simp; all_goals (with_reducible rfl)
              (try simp only [Act.put, List.setIfInBounds_toArray, List.set_cons_zero, List.set_cons_succ])
              refine takeL (i := 4) (v := ?_) rfl (by kernel_rfl) (by kernel_rfl) (by kernel_rfl) (fun _ _ _ h => h) (Or.inl ⟨by rfl, ?_⟩) (unhide HH) ?_
              rotate_left 1
              · intro W hSW; go_simp; all_goals (with_reducible rfl)
              (try simp only [Act.put, List.setIfInBounds_toArray, List.set_cons_zero, List.set_cons_succ])
              refine takeL (i := 5) (v := ?_) rfl (by kernel_rfl) (by kernel_rfl) (by kernel_rfl) (fun _ _ _ h => h) (Or.inl ⟨by rfl, ?_⟩) (unhide HH) ?_
              rotate_left 1
              · intro W hSW; go_simp; all_goals (with_reducible rfl)
              (try simp only [Act.put, List.setIfInBounds_toArray, List.set_cons_zero, List.set_cons_succ])
              refine takeL (i := 6) (v := ?_) rfl (by kernel_rfl) (by kernel_rfl) (by kernel_rfl) (fun _ _ _ h => h) (Or.inl ⟨by rfl, ?_⟩) (unhide HH) ?_
              rotate_left 1
              · intro W1 hSW; have k2 := cell_blk (j := 2) hSW.2 rfl; clear hSW; go_simp; all_goals (with_reducible rfl)
              (try simp only [Act.put, List.setIfInBounds_toArray, List.set_cons_zero, List.set_cons_succ])
              refine wpAnyH_ready (rs := [2, 7]) (by kernel_rfl) (by simp) ?_
              refine consL rfl (fun K hK => ?_) (consL rfl (fun K hK => ?_) AllReadyH.nil)
              focus
                have hal : Below V.heap.size V (V.alloc (.cells #[.slice (some ⟨gp, 0, none⟩) P cpx, .int .i64 0, .int .i64 0, .bool false] 80)) := (Below.refl _ _).alloc (Nat.le_refl _) _
                have hnw := World.alloc_heap_new V (.cells #[.slice (some ⟨gp, 0, none⟩) P cpx, .int .i64 0, .int .i64 0, .bool false] 80)
                go_simp

                replace HOB := hide ((unhide HOB).below hal)
                replace HOL := hide ((unhide HOL).below hal)
                replace HIN := hide ((unhide HIN).lie (Lie.of_below (ts := [38, 24, 5]) hal) (by simp) (by simp) (by simp))
                replace HRP := hide ((unhide HRP).of (hal.block _ (unhide HRP).lt))
                replace HFR : Hid (∀ p, p < P → Fr (Wx.heap.size + 1) (V.alloc (.cells #[.slice (some ⟨gp, 0, none⟩) P cpx, .int .i64 0, .int .i64 0, .bool false] 80)) (hw p) ones60) := fun p hp => (unhide HFR p hp).below hal (Nat.le_refl _)
                have HH0 := HH
                replace HBX := hide ((unhide HBX).trans (hal.mono (unhide HBX).size))
                replace HH := hide (And.intro ((hal.block _ (lt_of_block (unhide HH).1)).trans (unhide HH).1) ((hal.block _ (lt_of_block (unhide HH).2)).trans (unhide HH).2))
                have HT2 : Hid (∀ j, j < 4 → (V.alloc (.cells #[.slice (some ⟨gp, 0, none⟩) P cpx, .int .i64 0, .int .i64 0, .bool false] 80)).cell? ⟨V.heap.size, j, none⟩ = some (blk4 gp cpx P false j)) := fun j hj => by
                  match j, hj with
                  | 0, _ => exact cell_blk hnw rfl
                  | 1, _ => exact cell_blk hnw rfl
                  | 2, _ => exact cell_blk hnw rfl
                  | 3, _ => exact cell_blk hnw rfl
                obtain ⟨t2, ht2⟩ : ∃ n, V.heap.size = n := ⟨_, rfl⟩
                rw [ht2] at HT2 ⊢
                clear ht2 hnw
                clear hal HH0
                generalize V.alloc (.cells #[.slice (some ⟨gp, 0, none⟩) P cpx, .int .i64 0, .int .i64 0, .bool false] 80) = V' at HOB HOL HIN HRP HFR HBX HH HT2 ⊢
                refine hK.out _ _ (unhide HH) (fun hHeld => ?_)
                clear hHeld hK K
                (try clear V)
                obtain ⟨V, hVV⟩ : ∃ W, W = V' := ⟨_, rfl⟩
                subst hVV
                (try simp only [Act.put, List.setIfInBounds_toArray, List.set_cons_zero, List.set_cons_succ])
                refine wpAnyH_ready (rs := [3, 7]) (by kernel_rfl) (by simp) ?_
                refine consL rfl (fun K hK => ?_) (consL rfl (fun K hK => ?_) AllReadyH.nil)
                focus
                  obtain ⟨v9, V9, hr9, hO9, hg9⟩ := run_append_bk V Wd.heap.size 76 q8 b _ (unhide HOB) t2 (blk4 gp cpx P false) (unhide HT2) (fun j hj => by match j, hj with | 0, _ => rfl | 1, _ => rfl | 2, _ => rfl | 3, _ => rfl) (by omega) (unhide HBX).size
                  rw [if_pos (by rfl)]
                  refine wp_append_run _ (.tmp 45) (.tmp 47) 76 76 rfl _ _ rfl rfl hr9 ?_
                  clear hr9
                  have hob9 : ∀ k, q8.ownBlock = some k → Wd.heap.size ≤ k ∧ ∃ cur, V.heap[k]? = some (.cells cur 80 (0, 0)) := fun k hk => (unhide HOB).ownBlock hk
                  have hlt9 : ∀ k, q8.ownBlock = some k → k < Wx.heap.size := unhide HQ8
                  have hlie : Lie [82, 38, 24, 5, 23] 0 V V9 := Lie.grown hg9 (fun k hk => by obtain ⟨_, cur, hc⟩ := hob9 k hk; exact ⟨cur, _, hc, by decide⟩)
                  have hbx : Below Wd.heap.size V V9 := ⟨hg9.os, hg9.tape, hg9.output, hg9.size, fun k hk => hg9.block k (Nat.lt_of_lt_of_le hk (unhide HBX).size) (fun e => by have := (hob9 k e.symm).1; omega)⟩
                  replace HOL := hide ((unhide HOL).lie hlie (Nat.zero_le _) (by simp))
                  replace HOB := hide hO9
                  replace HIN := hide ((unhide HIN).lie (hlie.mono (us := [38, 24, 5]) (by simp) (Nat.zero_le _)) (by simp) (by simp) (by simp))
                  replace HRP := hide ((unhide HRP).lie hlie (Nat.zero_le _) (by simp))
                  replace HFR : Hid (∀ p, p < P → Fr (Wx.heap.size + 1) V9 (hw p) ones60) := fun p hp => (unhide HFR p hp).lie (hlie.mono (us := [5]) (by simp) (Nat.zero_le _)) (by simp)
                  replace HBX := hide ((unhide HBX).trans hbx)
                  replace HH := hide (And.intro ((hg9.block _ (lt_of_block (unhide HH).1) (fun e => by have := hlt9 _ e.symm; omega)).trans (unhide HH).1) (hlie _ _ _ (Nat.zero_le _) (by simp) (unhide HH).2))
                  clear hob9 hlt9 hlie hbx hO9 hg9
                  refine hK.out _ _ (unhide HH) (fun hHeld => ?_)
                  clear hHeld hK K
                  (try clear V)
                  obtain ⟨V, hVV⟩ : ∃ W, W = V9 := ⟨_, rfl⟩
                  subst hVV
                  obtain ⟨v8n, hnv⟩ : ∃ x, x = v9 := ⟨_, rfl⟩
                  subst hnv
                  (try simp only [Act.put, List.setIfInBounds_toArray, List.set_cons_zero, List.set_cons_succ])
                  refine wpAnyH_ready (rs := [7]) (by kernel_rfl) (by simp) ?_
                  refine consL rfl (fun K hK => ?_) AllReadyH.nil
                  obtain ⟨cs7, hm7, hc7⟩ := made_noise P V
                  have hal : Below V.heap.size V (V.alloc (.cells cs7 24)) := (Below.refl _ _).alloc (Nat.le_refl _) _
                  have hmk := hm7 (by omega)
                  have hnw := World.alloc_heap_new V (.cells cs7 24)
                  go_simp
                  clear hmk hm7
                  replace HOB := hide ((unhide HOB).below hal)
                  replace HOL := hide ((unhide HOL).below hal)
                  replace HIN := hide ((unhide HIN).lie (Lie.of_below (ts := [38, 24, 5]) hal) (by simp) (by simp) (by simp))
                  replace HRP := hide ((unhide HRP).of (hal.block _ (unhide HRP).lt))
                  replace HFR : Hid (∀ p, p < P → Fr (Wx.heap.size + 1) (V.alloc (.cells cs7 24)) (hw p) ones60) := fun p hp => (unhide HFR p hp).below hal (Nat.le_refl _)
                  have HH0 := HH
                  replace HBX := hide ((unhide HBX).trans (hal.mono (unhide HBX).size))
                  replace HH := hide (And.intro ((hal.block _ (lt_of_block (unhide HH).1)).trans (unhide HH).1) ((hal.block _ (lt_of_block (unhide HH).2)).trans (unhide HH).2))
                  have HT7 : Hid (RowC (V.alloc (.cells cs7 24)) V.heap.size 24 P (fun _ => .slice none 0 0)) := ⟨cs7, hnw, hc7⟩
                  have HL7 : Hid (Wx.heap.size ≤ V.heap.size) := Nat.le_of_lt (lt_of_block (unhide HH0).1)
                  obtain ⟨t7, ht7⟩ : ∃ n, V.heap.size = n := ⟨_, rfl⟩
                  rw [ht7] at HT7 HL7 ⊢
                  clear ht7 hnw hc7
                  clear hal HH0
                  generalize V.alloc (.cells cs7 24) = V' at HOB HOL HIN HRP HFR HBX HH HT7 ⊢
                  refine hK.out _ _ (unhide HH) (fun hHeld => ?_)
                  clear hHeld hK K
                  (try clear V)
                  obtain ⟨V, hVV⟩ : ∃ W, W = V' := ⟨_, rfl⟩
                  subst hVV
                  (try simp only [Act.put, List.setIfInBounds_toArray, List.set_cons_zero, List.set_cons_succ])
                  refine wpAnyH_ready (rs := [8]) (by kernel_rfl) (by simp) ?_
                  refine consL rfl (fun K hK => ?_) AllReadyH.nil
                  have hal : Below V.heap.size V (V.alloc (.cells #[.slice (some ⟨t7, 0, none⟩) P P] 82)) := (Below.refl _ _).alloc (Nat.le_refl _) _
                  have hnw := World.alloc_heap_new V (.cells #[.slice (some ⟨t7, 0, none⟩) P P] 82)
                  go_simp

                  replace HOB := hide ((unhide HOB).below hal)
                  replace HOL := hide ((unhide HOL).below hal)
                  replace HIN := hide ((unhide HIN).lie (Lie.of_below (ts := [38, 24, 5]) hal) (by simp) (by simp) (by simp))
                  replace HRP := hide ((unhide HRP).of (hal.block _ (unhide HRP).lt))
                  replace HFR : Hid (∀ p, p < P → Fr (Wx.heap.size + 1) (V.alloc (.cells #[.slice (some ⟨t7, 0, none⟩) P P] 82)) (hw p) ones60) := fun p hp => (unhide HFR p hp).below hal (Nat.le_refl _)
                  have HH0 := HH
                  replace HBX := hide ((unhide HBX).trans (hal.mono (unhide HBX).size))
                  replace HH := hide (And.intro ((hal.block _ (lt_of_block (unhide HH).1)).trans (unhide HH).1) ((hal.block _ (lt_of_block (unhide HH).2)).trans (unhide HH).2))
                  replace HT7 := hide ((unhide HT7).of (hal.block _ (unhide HT7).lt))
                  have HT8 : Hid (RowC (V.alloc (.cells #[.slice (some ⟨t7, 0, none⟩) P P] 82)) V.heap.size 82 1 (fun _ => .slice (some ⟨t7, 0, none⟩) P P)) := ⟨_, hnw, fun j hj => by
                    have : j = 0 := by omega
                    subst this
                    rfl⟩
                  obtain ⟨t8, ht8⟩ : ∃ n, V.heap.size = n := ⟨_, rfl⟩
                  rw [ht8] at HT8 ⊢
                  clear ht8 hnw
                  clear hal HH0
                  generalize V.alloc (.cells #[.slice (some ⟨t7, 0, none⟩) P P] 82) = V' at HOB HOL HIN HRP HFR HBX HH HT7 HT8 ⊢
                  refine hK.out _ _ (unhide HH) (fun hHeld => ?_)
                  clear hHeld hK K
                  (try clear V)
                  obtain ⟨V, hVV⟩ : ∃ W, W = V' := ⟨_, rfl⟩
                  subst hVV
                  (try simp only [Act.put, List.setIfInBounds_toArray, List.set_cons_zero, List.set_cons_succ])
                  refine wpAnyH_ready (rs := [9]) (by kernel_rfl) (by simp) ?_
                  refine consL rfl (fun K hK => ?_) AllReadyH.nil
                  obtain ⟨v9, V9, hr9, hO9, hg9⟩ := run_append_sl V Wd.heap.size 77 77 82 Try.underlying77 infoL2 q9 b _ (unhide HOL) t8 _ _ _ ((unhide HT8).cell (by omega)) (by omega) (unhide HBX).size
                  rw [if_pos (by rfl)]
                  refine wp_append_run _ (.tmp 49) (.tmp 53) 77 77 rfl _ _ rfl rfl hr9 ?_
                  clear hr9
                  have hob9 : ∀ k, q9.ownBlock = some k → Wd.heap.size ≤ k ∧ ∃ cur, V.heap[k]? = some (.cells cur 82 (0, 0)) := fun k hk => (unhide HOL).ownBlock hk
                  have hlt9 : ∀ k, q9.ownBlock = some k → k < Wx.heap.size := unhide HQ9
                  have hlie : Lie [80, 38, 24, 5, 23] 0 V V9 := Lie.grown hg9 (fun k hk => by obtain ⟨_, cur, hc⟩ := hob9 k hk; exact ⟨cur, _, hc, by decide⟩)
                  have hbx : Below Wd.heap.size V V9 := ⟨hg9.os, hg9.tape, hg9.output, hg9.size, fun k hk => hg9.block k (Nat.lt_of_lt_of_le hk (unhide HBX).size) (fun e => by have := (hob9 k e.symm).1; omega)⟩
                  replace HOB := hide ((unhide HOB).lie hlie (Nat.zero_le _) (by simp))
                  replace HOL := hide hO9
                  replace HIN := hide ((unhide HIN).lie (hlie.mono (us := [38, 24, 5]) (by simp) (Nat.zero_le _)) (by simp) (by simp) (by simp))
                  replace HRP := hide ((unhide HRP).lie hlie (Nat.zero_le _) (by simp))
                  replace HFR : Hid (∀ p, p < P → Fr (Wx.heap.size + 1) V9 (hw p) ones60) := fun p hp => (unhide HFR p hp).lie (hlie.mono (us := [5]) (by simp) (Nat.zero_le _)) (by simp)
                  replace HBX := hide ((unhide HBX).trans hbx)
                  replace HH := hide (And.intro ((hg9.block _ (lt_of_block (unhide HH).1) (fun e => by have := hlt9 _ e.symm; omega)).trans (unhide HH).1) (hlie _ _ _ (Nat.zero_le _) (by simp) (unhide HH).2))
                  replace HT7 := hide ((unhide HT7).lie hlie (Nat.zero_le _) (by simp))
                  clear hob9 hlt9 hlie hbx hO9 hg9
                  refine hK.out _ _ (unhide HH) (fun hHeld => ?_)
                  clear hHeld hK K
                  (try clear V)
                  obtain ⟨V, hVV⟩ : ∃ W, W = V9 := ⟨_, rfl⟩
                  subst hVV
                  obtain ⟨v9n, hnv⟩ : ∃ x, x = v9 := ⟨_, rfl⟩
                  subst hnv
                  (try simp only [Act.put, List.setIfInBounds_toArray, List.set_cons_zero, List.set_cons_succ])
                  refine takeL (i := 10) (v := ?_) rfl (by kernel_rfl) (by kernel_rfl) (by kernel_rfl) (fun _ _ _ h => h) (Or.inl ⟨by rfl, ?_⟩) (unhide HH) ?_
                  rotate_left 1
                  · intro W hSW; go_simp; all_goals (with_reducible rfl)
                  (try simp only [Act.put, List.setIfInBounds_toArray, List.set_cons_zero, List.set_cons_succ])
                  refine takeL (i := 11) (v := ?_) rfl (by kernel_rfl) (by kernel_rfl) (by kernel_rfl) (fun _ _ _ h => h) (Or.inl ⟨by rfl, ?_⟩) (unhide HH) ?_
                  rotate_left 1
                  · intro W hSW; go_simp; all_goals (with_reducible rfl)
                  (try simp only [Act.put, List.setIfInBounds_toArray, List.set_cons_zero, List.set_cons_succ])
                  refine wpAnyH_done (by kernel_rfl) ?_ _
                  refine NoPanic.normal ?_
                  have HADD := hide ((unhide HIN).add (X := Wx.heap.size) (unhide HRP) ⟨hcpx1, hcpx2⟩ (unhide HT7) (fun p hp => (unhide HFR p hp).below (Below.refl _ _) (by omega)) hlb (by omega) (unhide HL7) (unhide HOLD))
                  have HOB2 : Hid (OwnB Wd.heap.size V v8n (b + 1) (fun i => blk4 ((fun i => if i = b then gp else ps i) i) ((fun i => if i = b then cpx else cp i) i) P false)) := by
                    have h := unhide HOB
                    have e : (fun i => if i = b then blk4 gp cpx P false else blk4 (ps i) (cp i) P false) = fun i => blk4 ((fun i => if i = b then gp else ps i) i) ((fun i => if i = b then cpx else cp i) i) P false := by
                      funext i
                      by_cases e : i = b <;> simp [e]
                    rw [e] at h
                    exact h
                  have HOL2 : Hid (OwnC Wd.heap.size V 82 v9n (b + 1) (fun i => .slice (some ⟨(fun i => if i = b then t7 else ns i) i, 0, none⟩) P P)) := by
                    have h := unhide HOL
                    have e : (fun i => if i = b then Value.slice (some ⟨t7, 0, none⟩) P P else Value.slice (some ⟨ns i, 0, none⟩) P P) = fun i => .slice (some ⟨(fun i => if i = b then t7 else ns i) i, 0, none⟩) P P := by
                      funext i
                      by_cases e : i = b <;> simp [e]
                    rw [e] at h
                    exact h
                  have HBX2 := HBX
                  clear HOB HOL HIN HRP HFR HT7 HH
                  go_wp2_with fail
                  go_roundw
                  case rel => exact ⟨b + 1, _, _, _, _, _, _, rfl, rfl, by go_num, by omega, HOB2, HOL2, HADD, HBX2⟩
                  case measure => simp [intOf]; omega
                focus
                  obtain ⟨cs7, hm7, hc7⟩ := made_noise P V
                  have hal : Below V.heap.size V (V.alloc (.cells cs7 24)) := (Below.refl _ _).alloc (Nat.le_refl _) _
                  have hmk := hm7 (by omega)
                  have hnw := World.alloc_heap_new V (.cells cs7 24)
                  go_simp
                  clear hmk hm7
                  replace HOB := hide ((unhide HOB).below hal)
                  replace HOL := hide ((unhide HOL).below hal)
                  replace HIN := hide ((unhide HIN).lie (Lie.of_below (ts := [38, 24, 5]) hal) (by simp) (by simp) (by simp))
                  replace HRP := hide ((unhide HRP).of (hal.block _ (unhide HRP).lt))
                  replace HFR : Hid (∀ p, p < P → Fr (Wx.heap.size + 1) (V.alloc (.cells cs7 24)) (hw p) ones60) := fun p hp => (unhide HFR p hp).below hal (Nat.le_refl _)
                  have HH0 := HH
                  replace HBX := hide ((unhide HBX).trans (hal.mono (unhide HBX).size))
                  replace HH := hide (And.intro ((hal.block _ (lt_of_block (unhide HH).1)).trans (unhide HH).1) ((hal.block _ (lt_of_block (unhide HH).2)).trans (unhide HH).2))
                  replace HT2 : Hid (∀ j, j < 4 → (V.alloc (.cells cs7 24)).cell? ⟨t2, j, none⟩ = some (blk4 gp cpx P false j)) := fun j hj => below_cell hal (unhide HT2 j hj) (block_lt_of_cell (unhide HT2 j hj))
                  have HT7 : Hid (RowC (V.alloc (.cells cs7 24)) V.heap.size 24 P (fun _ => .slice none 0 0)) := ⟨cs7, hnw, hc7⟩
                  have HL7 : Hid (Wx.heap.size ≤ V.heap.size) := Nat.le_of_lt (lt_of_block (unhide HH0).1)
                  obtain ⟨t7, ht7⟩ : ∃ n, V.heap.size = n := ⟨_, rfl⟩
                  rw [ht7] at HT7 HL7 ⊢
                  clear ht7 hnw hc7
                  clear hal HH0
                  generalize V.alloc (.cells cs7 24) = V' at HOB HOL HIN HRP HFR HBX HH HT2 HT7 ⊢
                  refine hK.out _ _ (unhide HH) (fun hHeld => ?_)
                  clear hHeld hK K
                  (try clear V)
                  obtain ⟨V, hVV⟩ : ∃ W, W = V' := ⟨_, rfl⟩
                  subst hVV
                  (try simp only [Act.put, List.setIfInBounds_toArray, List.set_cons_zero, List.set_cons_succ])
                  refine wpAnyH_ready (rs := [3, 8]) (by kernel_rfl) (by simp) ?_
                  refine consL rfl (fun K hK => ?_) (consL rfl (fun K hK => ?_) AllReadyH.nil)
                  focus
                    obtain ⟨v9, V9, hr9, hO9, hg9⟩ := run_append_bk V Wd.heap.size 76 q8 b _ (unhide HOB) t2 (blk4 gp cpx P false) (unhide HT2) (fun j hj => by match j, hj with | 0, _ => rfl | 1, _ => rfl | 2, _ => rfl | 3, _ => rfl) (by omega) (unhide HBX).size
                    rw [if_pos (by rfl)]
                    refine wp_append_run _ (.tmp 45) (.tmp 47) 76 76 rfl _ _ rfl rfl hr9 ?_
                    clear hr9
                    have hob9 : ∀ k, q8.ownBlock = some k → Wd.heap.size ≤ k ∧ ∃ cur, V.heap[k]? = some (.cells cur 80 (0, 0)) := fun k hk => (unhide HOB).ownBlock hk
                    have hlt9 : ∀ k, q8.ownBlock = some k → k < Wx.heap.size := unhide HQ8
                    have hlie : Lie [82, 38, 24, 5, 23] 0 V V9 := Lie.grown hg9 (fun k hk => by obtain ⟨_, cur, hc⟩ := hob9 k hk; exact ⟨cur, _, hc, by decide⟩)
                    have hbx : Below Wd.heap.size V V9 := ⟨hg9.os, hg9.tape, hg9.output, hg9.size, fun k hk => hg9.block k (Nat.lt_of_lt_of_le hk (unhide HBX).size) (fun e => by have := (hob9 k e.symm).1; omega)⟩
                    replace HOL := hide ((unhide HOL).lie hlie (Nat.zero_le _) (by simp))
                    replace HOB := hide hO9
                    replace HIN := hide ((unhide HIN).lie (hlie.mono (us := [38, 24, 5]) (by simp) (Nat.zero_le _)) (by simp) (by simp) (by simp))
                    replace HRP := hide ((unhide HRP).lie hlie (Nat.zero_le _) (by simp))
                    replace HFR : Hid (∀ p, p < P → Fr (Wx.heap.size + 1) V9 (hw p) ones60) := fun p hp => (unhide HFR p hp).lie (hlie.mono (us := [5]) (by simp) (Nat.zero_le _)) (by simp)
                    replace HBX := hide ((unhide HBX).trans hbx)
                    replace HH := hide (And.intro ((hg9.block _ (lt_of_block (unhide HH).1) (fun e => by have := hlt9 _ e.symm; omega)).trans (unhide HH).1) (hlie _ _ _ (Nat.zero_le _) (by simp) (unhide HH).2))
                    replace HT7 := hide ((unhide HT7).lie hlie (Nat.zero_le _) (by simp))
                    clear hob9 hlt9 hlie hbx hO9 hg9
                    refine hK.out _ _ (unhide HH) (fun hHeld => ?_)
                    clear hHeld hK K
                    (try clear V)
                    obtain ⟨V, hVV⟩ : ∃ W, W = V9 := ⟨_, rfl⟩
                    subst hVV
                    obtain ⟨v8n, hnv⟩ : ∃ x, x = v9 := ⟨_, rfl⟩
                    subst hnv
                    (try simp only [Act.put, List.setIfInBounds_toArray, List.set_cons_zero, List.set_cons_succ])
                    refine wpAnyH_ready (rs := [8]) (by kernel_rfl) (by simp) ?_
                    refine consL rfl (fun K hK => ?_) AllReadyH.nil
                    have hal : Below V.heap.size V (V.alloc (.cells #[.slice (some ⟨t7, 0, none⟩) P P] 82)) := (Below.refl _ _).alloc (Nat.le_refl _) _
                    have hnw := World.alloc_heap_new V (.cells #[.slice (some ⟨t7, 0, none⟩) P P] 82)
                    go_simp

                    replace HOB := hide ((unhide HOB).below hal)
                    replace HOL := hide ((unhide HOL).below hal)
                    replace HIN := hide ((unhide HIN).lie (Lie.of_below (ts := [38, 24, 5]) hal) (by simp) (by simp) (by simp))
                    replace HRP := hide ((unhide HRP).of (hal.block _ (unhide HRP).lt))
                    replace HFR : Hid (∀ p, p < P → Fr (Wx.heap.size + 1) (V.alloc (.cells #[.slice (some ⟨t7, 0, none⟩) P P] 82)) (hw p) ones60) := fun p hp => (unhide HFR p hp).below hal (Nat.le_refl _)
                    have HH0 := HH
                    replace HBX := hide ((unhide HBX).trans (hal.mono (unhide HBX).size))
                    replace HH := hide (And.intro ((hal.block _ (lt_of_block (unhide HH).1)).trans (unhide HH).1) ((hal.block _ (lt_of_block (unhide HH).2)).trans (unhide HH).2))
                    replace HT7 := hide ((unhide HT7).of (hal.block _ (unhide HT7).lt))
                    have HT8 : Hid (RowC (V.alloc (.cells #[.slice (some ⟨t7, 0, none⟩) P P] 82)) V.heap.size 82 1 (fun _ => .slice (some ⟨t7, 0, none⟩) P P)) := ⟨_, hnw, fun j hj => by
                      have : j = 0 := by omega
                      subst this
                      rfl⟩
                    obtain ⟨t8, ht8⟩ : ∃ n, V.heap.size = n := ⟨_, rfl⟩
                    rw [ht8] at HT8 ⊢
                    clear ht8 hnw
                    clear hal HH0
                    generalize V.alloc (.cells #[.slice (some ⟨t7, 0, none⟩) P P] 82) = V' at HOB HOL HIN HRP HFR HBX HH HT7 HT8 ⊢
                    refine hK.out _ _ (unhide HH) (fun hHeld => ?_)
                    clear hHeld hK K
                    (try clear V)
                    obtain ⟨V, hVV⟩ : ∃ W, W = V' := ⟨_, rfl⟩
                    subst hVV
                    (try simp only [Act.put, List.setIfInBounds_toArray, List.set_cons_zero, List.set_cons_succ])
                    refine wpAnyH_ready (rs := [9]) (by kernel_rfl) (by simp) ?_
                    refine consL rfl (fun K hK => ?_) AllReadyH.nil
                    obtain ⟨v9, V9, hr9, hO9, hg9⟩ := run_append_sl V Wd.heap.size 77 77 82 Try.underlying77 infoL2 q9 b _ (unhide HOL) t8 _ _ _ ((unhide HT8).cell (by omega)) (by omega) (unhide HBX).size
                    rw [if_pos (by rfl)]
                    refine wp_append_run _ (.tmp 49) (.tmp 53) 77 77 rfl _ _ rfl rfl hr9 ?_
                    clear hr9
                    have hob9 : ∀ k, q9.ownBlock = some k → Wd.heap.size ≤ k ∧ ∃ cur, V.heap[k]? = some (.cells cur 82 (0, 0)) := fun k hk => (unhide HOL).ownBlock hk
                    have hlt9 : ∀ k, q9.ownBlock = some k → k < Wx.heap.size := unhide HQ9
                    have hlie : Lie [80, 38, 24, 5, 23] 0 V V9 := Lie.grown hg9 (fun k hk => by obtain ⟨_, cur, hc⟩ := hob9 k hk; exact ⟨cur, _, hc, by decide⟩)
                    have hbx : Below Wd.heap.size V V9 := ⟨hg9.os, hg9.tape, hg9.output, hg9.size, fun k hk => hg9.block k (Nat.lt_of_lt_of_le hk (unhide HBX).size) (fun e => by have := (hob9 k e.symm).1; omega)⟩
                    replace HOB := hide ((unhide HOB).lie hlie (Nat.zero_le _) (by simp))
                    replace HOL := hide hO9
                    replace HIN := hide ((unhide HIN).lie (hlie.mono (us := [38, 24, 5]) (by simp) (Nat.zero_le _)) (by simp) (by simp) (by simp))
                    replace HRP := hide ((unhide HRP).lie hlie (Nat.zero_le _) (by simp))
                    replace HFR : Hid (∀ p, p < P → Fr (Wx.heap.size + 1) V9 (hw p) ones60) := fun p hp => (unhide HFR p hp).lie (hlie.mono (us := [5]) (by simp) (Nat.zero_le _)) (by simp)
                    replace HBX := hide ((unhide HBX).trans hbx)
                    replace HH := hide (And.intro ((hg9.block _ (lt_of_block (unhide HH).1) (fun e => by have := hlt9 _ e.symm; omega)).trans (unhide HH).1) (hlie _ _ _ (Nat.zero_le _) (by simp) (unhide HH).2))
                    replace HT7 := hide ((unhide HT7).lie hlie (Nat.zero_le _) (by simp))
                    clear hob9 hlt9 hlie hbx hO9 hg9
                    refine hK.out _ _ (unhide HH) (fun hHeld => ?_)
                    clear hHeld hK K
                    (try clear V)
                    obtain ⟨V, hVV⟩ : ∃ W, W = V9 := ⟨_, rfl⟩
                    subst hVV
                    obtain ⟨v9n, hnv⟩ : ∃ x, x = v9 := ⟨_, rfl⟩
                    subst hnv
                    (try simp only [Act.put, List.setIfInBounds_toArray, List.set_cons_zero, List.set_cons_succ])
                    refine takeL (i := 10) (v := ?_) rfl (by kernel_rfl) (by kernel_rfl) (by kernel_rfl) (fun _ _ _ h => h) (Or.inl ⟨by rfl, ?_⟩) (unhide HH) ?_
                    rotate_left 1
                    · intro W hSW; go_simp; all_goals (with_reducible rfl)
                    (try simp only [Act.put, List.setIfInBounds_toArray, List.set_cons_zero, List.set_cons_succ])
                    refine takeL (i := 11) (v := ?_) rfl (by kernel_rfl) (by kernel_rfl) (by kernel_rfl) (fun _ _ _ h => h) (Or.inl ⟨by rfl, ?_⟩) (unhide HH) ?_
                    rotate_left 1
                    · intro W hSW; go_simp; all_goals (with_reducible rfl)
                    (try simp only [Act.put, List.setIfInBounds_toArray, List.set_cons_zero, List.set_cons_succ])
                    refine wpAnyH_done (by kernel_rfl) ?_ _
                    refine NoPanic.normal ?_
                    have HADD := hide ((unhide HIN).add (X := Wx.heap.size) (unhide HRP) ⟨hcpx1, hcpx2⟩ (unhide HT7) (fun p hp => (unhide HFR p hp).below (Below.refl _ _) (by omega)) hlb (by omega) (unhide HL7) (unhide HOLD))
                    have HOB2 : Hid (OwnB Wd.heap.size V v8n (b + 1) (fun i => blk4 ((fun i => if i = b then gp else ps i) i) ((fun i => if i = b then cpx else cp i) i) P false)) := by
                      have h := unhide HOB
                      have e : (fun i => if i = b then blk4 gp cpx P false else blk4 (ps i) (cp i) P false) = fun i => blk4 ((fun i => if i = b then gp else ps i) i) ((fun i => if i = b then cpx else cp i) i) P false := by
                        funext i
                        by_cases e : i = b <;> simp [e]
                      rw [e] at h
                      exact h
                    have HOL2 : Hid (OwnC Wd.heap.size V 82 v9n (b + 1) (fun i => .slice (some ⟨(fun i => if i = b then t7 else ns i) i, 0, none⟩) P P)) := by
                      have h := unhide HOL
                      have e : (fun i => if i = b then Value.slice (some ⟨t7, 0, none⟩) P P else Value.slice (some ⟨ns i, 0, none⟩) P P) = fun i => .slice (some ⟨(fun i => if i = b then t7 else ns i) i, 0, none⟩) P P := by
                        funext i
                        by_cases e : i = b <;> simp [e]
                      rw [e] at h
                      exact h
                    have HBX2 := HBX
                    clear HOB HOL HIN HRP HFR HT7 HH
                    go_wp2_with fail
                    go_roundw
                    case rel => exact ⟨b + 1, _, _, _, _, _, _, rfl, rfl, by go_num, by omega, HOB2, HOL2, HADD, HBX2⟩
                    case measure => simp [intOf]; omega
                  focus
                    have hal : Below V.heap.size V (V.alloc (.cells #[.slice (some ⟨t7, 0, none⟩) P P] 82)) := (Below.refl _ _).alloc (Nat.le_refl _) _
                    have hnw := World.alloc_heap_new V (.cells #[.slice (some ⟨t7, 0, none⟩) P P] 82)
                    go_simp

                    replace HOB := hide ((unhide HOB).below hal)
                    replace HOL := hide ((unhide HOL).below hal)
                    replace HIN := hide ((unhide HIN).lie (Lie.of_below (ts := [38, 24, 5]) hal) (by simp) (by simp) (by simp))
                    replace HRP := hide ((unhide HRP).of (hal.block _ (unhide HRP).lt))
                    replace HFR : Hid (∀ p, p < P → Fr (Wx.heap.size + 1) (V.alloc (.cells #[.slice (some ⟨t7, 0, none⟩) P P] 82)) (hw p) ones60) := fun p hp => (unhide HFR p hp).below hal (Nat.le_refl _)
                    have HH0 := HH
                    replace HBX := hide ((unhide HBX).trans (hal.mono (unhide HBX).size))
                    replace HH := hide (And.intro ((hal.block _ (lt_of_block (unhide HH).1)).trans (unhide HH).1) ((hal.block _ (lt_of_block (unhide HH).2)).trans (unhide HH).2))
                    replace HT2 : Hid (∀ j, j < 4 → (V.alloc (.cells #[.slice (some ⟨t7, 0, none⟩) P P] 82)).cell? ⟨t2, j, none⟩ = some (blk4 gp cpx P false j)) := fun j hj => below_cell hal (unhide HT2 j hj) (block_lt_of_cell (unhide HT2 j hj))
                    replace HT7 := hide ((unhide HT7).of (hal.block _ (unhide HT7).lt))
                    have HT8 : Hid (RowC (V.alloc (.cells #[.slice (some ⟨t7, 0, none⟩) P P] 82)) V.heap.size 82 1 (fun _ => .slice (some ⟨t7, 0, none⟩) P P)) := ⟨_, hnw, fun j hj => by
                      have : j = 0 := by omega
                      subst this
                      rfl⟩
                    obtain ⟨t8, ht8⟩ : ∃ n, V.heap.size = n := ⟨_, rfl⟩
                    rw [ht8] at HT8 ⊢
                    clear ht8 hnw
                    clear hal HH0
                    generalize V.alloc (.cells #[.slice (some ⟨t7, 0, none⟩) P P] 82) = V' at HOB HOL HIN HRP HFR HBX HH HT2 HT7 HT8 ⊢
                    refine hK.out _ _ (unhide HH) (fun hHeld => ?_)
                    clear hHeld hK K
                    (try clear V)
                    obtain ⟨V, hVV⟩ : ∃ W, W = V' := ⟨_, rfl⟩
                    subst hVV
                    (try simp only [Act.put, List.setIfInBounds_toArray, List.set_cons_zero, List.set_cons_succ])
                    refine wpAnyH_ready (rs := [3]) (by kernel_rfl) (by simp) ?_
                    refine consL rfl (fun K hK => ?_) AllReadyH.nil
                    obtain ⟨v9, V9, hr9, hO9, hg9⟩ := run_append_bk V Wd.heap.size 76 q8 b _ (unhide HOB) t2 (blk4 gp cpx P false) (unhide HT2) (fun j hj => by match j, hj with | 0, _ => rfl | 1, _ => rfl | 2, _ => rfl | 3, _ => rfl) (by omega) (unhide HBX).size
                    rw [if_pos (by rfl)]
                    refine wp_append_run _ (.tmp 45) (.tmp 47) 76 76 rfl _ _ rfl rfl hr9 ?_
                    clear hr9
                    have hob9 : ∀ k, q8.ownBlock = some k → Wd.heap.size ≤ k ∧ ∃ cur, V.heap[k]? = some (.cells cur 80 (0, 0)) := fun k hk => (unhide HOB).ownBlock hk
                    have hlt9 : ∀ k, q8.ownBlock = some k → k < Wx.heap.size := unhide HQ8
                    have hlie : Lie [82, 38, 24, 5, 23] 0 V V9 := Lie.grown hg9 (fun k hk => by obtain ⟨_, cur, hc⟩ := hob9 k hk; exact ⟨cur, _, hc, by decide⟩)
                    have hbx : Below Wd.heap.size V V9 := ⟨hg9.os, hg9.tape, hg9.output, hg9.size, fun k hk => hg9.block k (Nat.lt_of_lt_of_le hk (unhide HBX).size) (fun e => by have := (hob9 k e.symm).1; omega)⟩
                    replace HOL := hide ((unhide HOL).lie hlie (Nat.zero_le _) (by simp))
                    replace HOB := hide hO9
                    replace HIN := hide ((unhide HIN).lie (hlie.mono (us := [38, 24, 5]) (by simp) (Nat.zero_le _)) (by simp) (by simp) (by simp))
                    replace HRP := hide ((unhide HRP).lie hlie (Nat.zero_le _) (by simp))
                    replace HFR : Hid (∀ p, p < P → Fr (Wx.heap.size + 1) V9 (hw p) ones60) := fun p hp => (unhide HFR p hp).lie (hlie.mono (us := [5]) (by simp) (Nat.zero_le _)) (by simp)
                    replace HBX := hide ((unhide HBX).trans hbx)
                    replace HH := hide (And.intro ((hg9.block _ (lt_of_block (unhide HH).1) (fun e => by have := hlt9 _ e.symm; omega)).trans (unhide HH).1) (hlie _ _ _ (Nat.zero_le _) (by simp) (unhide HH).2))
                    replace HT7 := hide ((unhide HT7).lie hlie (Nat.zero_le _) (by simp))
                    replace HT8 := hide ((unhide HT8).lie hlie (Nat.zero_le _) (by simp))
                    clear hob9 hlt9 hlie hbx hO9 hg9
                    refine hK.out _ _ (unhide HH) (fun hHeld => ?_)
                    clear hHeld hK K
                    (try clear V)
                    obtain ⟨V, hVV⟩ : ∃ W, W = V9 := ⟨_, rfl⟩
                    subst hVV
                    obtain ⟨v8n, hnv⟩ : ∃ x, x = v9 := ⟨_, rfl⟩
                    subst hnv
                    (try simp only [Act.put, List.setIfInBounds_toArray, List.set_cons_zero, List.set_cons_succ])
                    refine wpAnyH_ready (rs := [9]) (by kernel_rfl) (by simp) ?_
                    refine consL rfl (fun K hK => ?_) AllReadyH.nil
                    obtain ⟨v9, V9, hr9, hO9, hg9⟩ := run_append_sl V Wd.heap.size 77 77 82 Try.underlying77 infoL2 q9 b _ (unhide HOL) t8 _ _ _ ((unhide HT8).cell (by omega)) (by omega) (unhide HBX).size
                    rw [if_pos (by rfl)]
                    refine wp_append_run _ (.tmp 49) (.tmp 53) 77 77 rfl _ _ rfl rfl hr9 ?_
                    clear hr9
                    have hob9 : ∀ k, q9.ownBlock = some k → Wd.heap.size ≤ k ∧ ∃ cur, V.heap[k]? = some (.cells cur 82 (0, 0)) := fun k hk => (unhide HOL).ownBlock hk
                    have hlt9 : ∀ k, q9.ownBlock = some k → k < Wx.heap.size := unhide HQ9
                    have hlie : Lie [80, 38, 24, 5, 23] 0 V V9 := Lie.grown hg9 (fun k hk => by obtain ⟨_, cur, hc⟩ := hob9 k hk; exact ⟨cur, _, hc, by decide⟩)
                    have hbx : Below Wd.heap.size V V9 := ⟨hg9.os, hg9.tape, hg9.output, hg9.size, fun k hk => hg9.block k (Nat.lt_of_lt_of_le hk (unhide HBX).size) (fun e => by have := (hob9 k e.symm).1; omega)⟩
                    replace HOB := hide ((unhide HOB).lie hlie (Nat.zero_le _) (by simp))
                    replace HOL := hide hO9
                    replace HIN := hide ((unhide HIN).lie (hlie.mono (us := [38, 24, 5]) (by simp) (Nat.zero_le _)) (by simp) (by simp) (by simp))
                    replace HRP := hide ((unhide HRP).lie hlie (Nat.zero_le _) (by simp))
                    replace HFR : Hid (∀ p, p < P → Fr (Wx.heap.size + 1) V9 (hw p) ones60) := fun p hp => (unhide HFR p hp).lie (hlie.mono (us := [5]) (by simp) (Nat.zero_le _)) (by simp)
                    replace HBX := hide ((unhide HBX).trans hbx)
                    replace HH := hide (And.intro ((hg9.block _ (lt_of_block (unhide HH).1) (fun e => by have := hlt9 _ e.symm; omega)).trans (unhide HH).1) (hlie _ _ _ (Nat.zero_le _) (by simp) (unhide HH).2))
                    replace HT7 := hide ((unhide HT7).lie hlie (Nat.zero_le _) (by simp))
                    clear hob9 hlt9 hlie hbx hO9 hg9
                    refine hK.out _ _ (unhide HH) (fun hHeld => ?_)
                    clear hHeld hK K
                    (try clear V)
                    obtain ⟨V, hVV⟩ : ∃ W, W = V9 := ⟨_, rfl⟩
                    subst hVV
                    obtain ⟨v9n, hnv⟩ : ∃ x, x = v9 := ⟨_, rfl⟩
                    subst hnv
                    (try simp only [Act.put, List.setIfInBounds_toArray, List.set_cons_zero, List.set_cons_succ])
                    refine takeL (i := 10) (v := ?_) rfl (by kernel_rfl) (by kernel_rfl) (by kernel_rfl) (fun _ _ _ h => h) (Or.inl ⟨by rfl, ?_⟩) (unhide HH) ?_
                    rotate_left 1
                    · intro W hSW; go_simp; all_goals (with_reducible rfl)
                    (try simp only [Act.put, List.setIfInBounds_toArray, List.set_cons_zero, List.set_cons_succ])
                    refine takeL (i := 11) (v := ?_) rfl (by kernel_rfl) (by kernel_rfl) (by kernel_rfl) (fun _ _ _ h => h) (Or.inl ⟨by rfl, ?_⟩) (unhide HH) ?_
                    rotate_left 1
                    · intro W hSW; go_simp; all_goals (with_reducible rfl)
                    (try simp only [Act.put, List.setIfInBounds_toArray, List.set_cons_zero, List.set_cons_succ])
                    refine wpAnyH_done (by kernel_rfl) ?_ _
                    refine NoPanic.normal ?_
                    have HADD := hide ((unhide HIN).add (X := Wx.heap.size) (unhide HRP) ⟨hcpx1, hcpx2⟩ (unhide HT7) (fun p hp => (unhide HFR p hp).below (Below.refl _ _) (by omega)) hlb (by omega) (unhide HL7) (unhide HOLD))
                    have HOB2 : Hid (OwnB Wd.heap.size V v8n (b + 1) (fun i => blk4 ((fun i => if i = b then gp else ps i) i) ((fun i => if i = b then cpx else cp i) i) P false)) := by
                      have h := unhide HOB
                      have e : (fun i => if i = b then blk4 gp cpx P false else blk4 (ps i) (cp i) P false) = fun i => blk4 ((fun i => if i = b then gp else ps i) i) ((fun i => if i = b then cpx else cp i) i) P false := by
                        funext i
                        by_cases e : i = b <;> simp [e]
                      rw [e] at h
                      exact h
                    have HOL2 : Hid (OwnC Wd.heap.size V 82 v9n (b + 1) (fun i => .slice (some ⟨(fun i => if i = b then t7 else ns i) i, 0, none⟩) P P)) := by
                      have h := unhide HOL
                      have e : (fun i => if i = b then Value.slice (some ⟨t7, 0, none⟩) P P else Value.slice (some ⟨ns i, 0, none⟩) P P) = fun i => .slice (some ⟨(fun i => if i = b then t7 else ns i) i, 0, none⟩) P P := by
                        funext i
                        by_cases e : i = b <;> simp [e]
                      rw [e] at h
                      exact h
                    have HBX2 := HBX
                    clear HOB HOL HIN HRP HFR HT7 HH
                    go_wp2_with fail
                    go_roundw
                    case rel => exact ⟨b + 1, _, _, _, _, _, _, rfl, rfl, by go_num, by omega, HOB2, HOL2, HADD, HBX2⟩
                    case measure => simp [intOf]; omega
              focus
                obtain ⟨cs7, hm7, hc7⟩ := made_noise P V
                have hal : Below V.heap.size V (V.alloc (.cells cs7 24)) := (Below.refl _ _).alloc (Nat.le_refl _) _
                have hmk := hm7 (by omega)
                have hnw := World.alloc_heap_new V (.cells cs7 24)
                go_simp
                clear hmk hm7
                replace HOB := hide ((unhide HOB).below hal)
                replace HOL := hide ((unhide HOL).below hal)
                replace HIN := hide ((unhide HIN).lie (Lie.of_below (ts := [38, 24, 5]) hal) (by simp) (by simp) (by simp))
                replace HRP := hide ((unhide HRP).of (hal.block _ (unhide HRP).lt))
                replace HFR : Hid (∀ p, p < P → Fr (Wx.heap.size + 1) (V.alloc (.cells cs7 24)) (hw p) ones60) := fun p hp => (unhide HFR p hp).below hal (Nat.le_refl _)
                have HH0 := HH
                replace HBX := hide ((unhide HBX).trans (hal.mono (unhide HBX).size))
                replace HH := hide (And.intro ((hal.block _ (lt_of_block (unhide HH).1)).trans (unhide HH).1) ((hal.block _ (lt_of_block (unhide HH).2)).trans (unhide HH).2))
                have HT7 : Hid (RowC (V.alloc (.cells cs7 24)) V.heap.size 24 P (fun _ => .slice none 0 0)) := ⟨cs7, hnw, hc7⟩
                have HL7 : Hid (Wx.heap.size ≤ V.heap.size) := Nat.le_of_lt (lt_of_block (unhide HH0).1)
                obtain ⟨t7, ht7⟩ : ∃ n, V.heap.size = n := ⟨_, rfl⟩
                rw [ht7] at HT7 HL7 ⊢
                clear ht7 hnw hc7
                clear hal HH0
                generalize V.alloc (.cells cs7 24) = V' at HOB HOL HIN HRP HFR HBX HH HT7 ⊢
                refine hK.out _ _ (unhide HH) (fun hHeld => ?_)
                clear hHeld hK K
                (try clear V)
                obtain ⟨V, hVV⟩ : ∃ W, W = V' := ⟨_, rfl⟩
                subst hVV
                (try simp only [Act.put, List.setIfInBounds_toArray, List.set_cons_zero, List.set_cons_succ])
                refine wpAnyH_ready (rs := [2, 8]) (by kernel_rfl) (by simp) ?_
                refine consL rfl (fun K hK => ?_) (consL rfl (fun K hK => ?_) AllReadyH.nil)
                focus
                  have hal : Below V.heap.size V (V.alloc (.cells #[.slice (some ⟨gp, 0, none⟩) P cpx, .int .i64 0, .int .i64 0, .bool false] 80)) := (Below.refl _ _).alloc (Nat.le_refl _) _
                  have hnw := World.alloc_heap_new V (.cells #[.slice (some ⟨gp, 0, none⟩) P cpx, .int .i64 0, .int .i64 0, .bool false] 80)
                  go_simp

                  replace HOB := hide ((unhide HOB).below hal)
                  replace HOL := hide ((unhide HOL).below hal)
                  replace HIN := hide ((unhide HIN).lie (Lie.of_below (ts := [38, 24, 5]) hal) (by simp) (by simp) (by simp))
                  replace HRP := hide ((unhide HRP).of (hal.block _ (unhide HRP).lt))
                  replace HFR : Hid (∀ p, p < P → Fr (Wx.heap.size + 1) (V.alloc (.cells #[.slice (some ⟨gp, 0, none⟩) P cpx, .int .i64 0, .int .i64 0, .bool false] 80)) (hw p) ones60) := fun p hp => (unhide HFR p hp).below hal (Nat.le_refl _)
                  have HH0 := HH
                  replace HBX := hide ((unhide HBX).trans (hal.mono (unhide HBX).size))
                  replace HH := hide (And.intro ((hal.block _ (lt_of_block (unhide HH).1)).trans (unhide HH).1) ((hal.block _ (lt_of_block (unhide HH).2)).trans (unhide HH).2))
                  replace HT7 := hide ((unhide HT7).of (hal.block _ (unhide HT7).lt))
                  have HT2 : Hid (∀ j, j < 4 → (V.alloc (.cells #[.slice (some ⟨gp, 0, none⟩) P cpx, .int .i64 0, .int .i64 0, .bool false] 80)).cell? ⟨V.heap.size, j, none⟩ = some (blk4 gp cpx P false j)) := fun j hj => by
                    match j, hj with
                    | 0, _ => exact cell_blk hnw rfl
                    | 1, _ => exact cell_blk hnw rfl
                    | 2, _ => exact cell_blk hnw rfl
                    | 3, _ => exact cell_blk hnw rfl
                  obtain ⟨t2, ht2⟩ : ∃ n, V.heap.size = n := ⟨_, rfl⟩
                  rw [ht2] at HT2 ⊢
                  clear ht2 hnw
                  clear hal HH0
                  generalize V.alloc (.cells #[.slice (some ⟨gp, 0, none⟩) P cpx, .int .i64 0, .int .i64 0, .bool false] 80) = V' at HOB HOL HIN HRP HFR HBX HH HT7 HT2 ⊢
                  refine hK.out _ _ (unhide HH) (fun hHeld => ?_)
                  clear hHeld hK K
                  (try clear V)
                  obtain ⟨V, hVV⟩ : ∃ W, W = V' := ⟨_, rfl⟩
                  subst hVV
                  (try simp only [Act.put, List.setIfInBounds_toArray, List.set_cons_zero, List.set_cons_succ])
                  refine wpAnyH_ready (rs := [3, 8]) (by kernel_rfl) (by simp) ?_
                  refine consL rfl (fun K hK => ?_) (consL rfl (fun K hK => ?_) AllReadyH.nil)
                  focus
                    obtain ⟨v9, V9, hr9, hO9, hg9⟩ := run_append_bk V Wd.heap.size 76 q8 b _ (unhide HOB) t2 (blk4 gp cpx P false) (unhide HT2) (fun j hj => by match j, hj with | 0, _ => rfl | 1, _ => rfl | 2, _ => rfl | 3, _ => rfl) (by omega) (unhide HBX).size
                    rw [if_pos (by rfl)]
                    refine wp_append_run _ (.tmp 45) (.tmp 47) 76 76 rfl _ _ rfl rfl hr9 ?_
                    clear hr9
                    have hob9 : ∀ k, q8.ownBlock = some k → Wd.heap.size ≤ k ∧ ∃ cur, V.heap[k]? = some (.cells cur 80 (0, 0)) := fun k hk => (unhide HOB).ownBlock hk
                    have hlt9 : ∀ k, q8.ownBlock = some k → k < Wx.heap.size := unhide HQ8
                    have hlie : Lie [82, 38, 24, 5, 23] 0 V V9 := Lie.grown hg9 (fun k hk => by obtain ⟨_, cur, hc⟩ := hob9 k hk; exact ⟨cur, _, hc, by decide⟩)
                    have hbx : Below Wd.heap.size V V9 := ⟨hg9.os, hg9.tape, hg9.output, hg9.size, fun k hk => hg9.block k (Nat.lt_of_lt_of_le hk (unhide HBX).size) (fun e => by have := (hob9 k e.symm).1; omega)⟩
                    replace HOL := hide ((unhide HOL).lie hlie (Nat.zero_le _) (by simp))
                    replace HOB := hide hO9
                    replace HIN := hide ((unhide HIN).lie (hlie.mono (us := [38, 24, 5]) (by simp) (Nat.zero_le _)) (by simp) (by simp) (by simp))
                    replace HRP := hide ((unhide HRP).lie hlie (Nat.zero_le _) (by simp))
                    replace HFR : Hid (∀ p, p < P → Fr (Wx.heap.size + 1) V9 (hw p) ones60) := fun p hp => (unhide HFR p hp).lie (hlie.mono (us := [5]) (by simp) (Nat.zero_le _)) (by simp)
                    replace HBX := hide ((unhide HBX).trans hbx)
                    replace HH := hide (And.intro ((hg9.block _ (lt_of_block (unhide HH).1) (fun e => by have := hlt9 _ e.symm; omega)).trans (unhide HH).1) (hlie _ _ _ (Nat.zero_le _) (by simp) (unhide HH).2))
                    replace HT7 := hide ((unhide HT7).lie hlie (Nat.zero_le _) (by simp))
                    clear hob9 hlt9 hlie hbx hO9 hg9
                    refine hK.out _ _ (unhide HH) (fun hHeld => ?_)
                    clear hHeld hK K
                    (try clear V)
                    obtain ⟨V, hVV⟩ : ∃ W, W = V9 := ⟨_, rfl⟩
                    subst hVV
                    obtain ⟨v8n, hnv⟩ : ∃ x, x = v9 := ⟨_, rfl⟩
                    subst hnv
                    (try simp only [Act.put, List.setIfInBounds_toArray, List.set_cons_zero, List.set_cons_succ])
                    refine wpAnyH_ready (rs := [8]) (by kernel_rfl) (by simp) ?_
                    refine consL rfl (fun K hK => ?_) AllReadyH.nil
                    have hal : Below V.heap.size V (V.alloc (.cells #[.slice (some ⟨t7, 0, none⟩) P P] 82)) := (Below.refl _ _).alloc (Nat.le_refl _) _
                    have hnw := World.alloc_heap_new V (.cells #[.slice (some ⟨t7, 0, none⟩) P P] 82)
                    go_simp

                    replace HOB := hide ((unhide HOB).below hal)
                    replace HOL := hide ((unhide HOL).below hal)
                    replace HIN := hide ((unhide HIN).lie (Lie.of_below (ts := [38, 24, 5]) hal) (by simp) (by simp) (by simp))
                    replace HRP := hide ((unhide HRP).of (hal.block _ (unhide HRP).lt))
                    replace HFR : Hid (∀ p, p < P → Fr (Wx.heap.size + 1) (V.alloc (.cells #[.slice (some ⟨t7, 0, none⟩) P P] 82)) (hw p) ones60) := fun p hp => (unhide HFR p hp).below hal (Nat.le_refl _)
                    have HH0 := HH
                    replace HBX := hide ((unhide HBX).trans (hal.mono (unhide HBX).size))
                    replace HH := hide (And.intro ((hal.block _ (lt_of_block (unhide HH).1)).trans (unhide HH).1) ((hal.block _ (lt_of_block (unhide HH).2)).trans (unhide HH).2))
                    replace HT7 := hide ((unhide HT7).of (hal.block _ (unhide HT7).lt))
                    have HT8 : Hid (RowC (V.alloc (.cells #[.slice (some ⟨t7, 0, none⟩) P P] 82)) V.heap.size 82 1 (fun _ => .slice (some ⟨t7, 0, none⟩) P P)) := ⟨_, hnw, fun j hj => by
                      have : j = 0 := by omega
                      subst this
                      rfl⟩
                    obtain ⟨t8, ht8⟩ : ∃ n, V.heap.size = n := ⟨_, rfl⟩
                    rw [ht8] at HT8 ⊢
                    clear ht8 hnw
                    clear hal HH0
                    generalize V.alloc (.cells #[.slice (some ⟨t7, 0, none⟩) P P] 82) = V' at HOB HOL HIN HRP HFR HBX HH HT7 HT8 ⊢
                    refine hK.out _ _ (unhide HH) (fun hHeld => ?_)
                    clear hHeld hK K
                    (try clear V)
                    obtain ⟨V, hVV⟩ : ∃ W, W = V' := ⟨_, rfl⟩
                    subst hVV
                    (try simp only [Act.put, List.setIfInBounds_toArray, List.set_cons_zero, List.set_cons_succ])
                    refine wpAnyH_ready (rs := [9]) (by kernel_rfl) (by simp) ?_
                    refine consL rfl (fun K hK => ?_) AllReadyH.nil
                    obtain ⟨v9, V9, hr9, hO9, hg9⟩ := run_append_sl V Wd.heap.size 77 77 82 Try.underlying77 infoL2 q9 b _ (unhide HOL) t8 _ _ _ ((unhide HT8).cell (by omega)) (by omega) (unhide HBX).size
                    rw [if_pos (by rfl)]
                    refine wp_append_run _ (.tmp 49) (.tmp 53) 77 77 rfl _ _ rfl rfl hr9 ?_
                    clear hr9
                    have hob9 : ∀ k, q9.ownBlock = some k → Wd.heap.size ≤ k ∧ ∃ cur, V.heap[k]? = some (.cells cur 82 (0, 0)) := fun k hk => (unhide HOL).ownBlock hk
                    have hlt9 : ∀ k, q9.ownBlock = some k → k < Wx.heap.size := unhide HQ9
                    have hlie : Lie [80, 38, 24, 5, 23] 0 V V9 := Lie.grown hg9 (fun k hk => by obtain ⟨_, cur, hc⟩ := hob9 k hk; exact ⟨cur, _, hc, by decide⟩)
                    have hbx : Below Wd.heap.size V V9 := ⟨hg9.os, hg9.tape, hg9.output, hg9.size, fun k hk => hg9.block k (Nat.lt_of_lt_of_le hk (unhide HBX).size) (fun e => by have := (hob9 k e.symm).1; omega)⟩
                    replace HOB := hide ((unhide HOB).lie hlie (Nat.zero_le _) (by simp))
                    replace HOL := hide hO9
                    replace HIN := hide ((unhide HIN).lie (hlie.mono (us := [38, 24, 5]) (by simp) (Nat.zero_le _)) (by simp) (by simp) (by simp))
                    replace HRP := hide ((unhide HRP).lie hlie (Nat.zero_le _) (by simp))
                    replace HFR : Hid (∀ p, p < P → Fr (Wx.heap.size + 1) V9 (hw p) ones60) := fun p hp => (unhide HFR p hp).lie (hlie.mono (us := [5]) (by simp) (Nat.zero_le _)) (by simp)
                    replace HBX := hide ((unhide HBX).trans hbx)
                    replace HH := hide (And.intro ((hg9.block _ (lt_of_block (unhide HH).1) (fun e => by have := hlt9 _ e.symm; omega)).trans (unhide HH).1) (hlie _ _ _ (Nat.zero_le _) (by simp) (unhide HH).2))
                    replace HT7 := hide ((unhide HT7).lie hlie (Nat.zero_le _) (by simp))
                    clear hob9 hlt9 hlie hbx hO9 hg9
                    refine hK.out _ _ (unhide HH) (fun hHeld => ?_)
                    clear hHeld hK K
                    (try clear V)
                    obtain ⟨V, hVV⟩ : ∃ W, W = V9 := ⟨_, rfl⟩
                    subst hVV
                    obtain ⟨v9n, hnv⟩ : ∃ x, x = v9 := ⟨_, rfl⟩
                    subst hnv
                    (try simp only [Act.put, List.setIfInBounds_toArray, List.set_cons_zero, List.set_cons_succ])
                    refine takeL (i := 10) (v := ?_) rfl (by kernel_rfl) (by kernel_rfl) (by kernel_rfl) (fun _ _ _ h => h) (Or.inl ⟨by rfl, ?_⟩) (unhide HH) ?_
                    rotate_left 1
                    · intro W hSW; go_simp; all_goals (with_reducible rfl)
                    (try simp only [Act.put, List.setIfInBounds_toArray, List.set_cons_zero, List.set_cons_succ])
                    refine takeL (i := 11) (v := ?_) rfl (by kernel_rfl) (by kernel_rfl) (by kernel_rfl) (fun _ _ _ h => h) (Or.inl ⟨by rfl, ?_⟩) (unhide HH) ?_
                    rotate_left 1
                    · intro W hSW; go_simp; all_goals (with_reducible rfl)
                    (try simp only [Act.put, List.setIfInBounds_toArray, List.set_cons_zero, List.set_cons_succ])
                    refine wpAnyH_done (by kernel_rfl) ?_ _
                    refine NoPanic.normal ?_
                    have HADD := hide ((unhide HIN).add (X := Wx.heap.size) (unhide HRP) ⟨hcpx1, hcpx2⟩ (unhide HT7) (fun p hp => (unhide HFR p hp).below (Below.refl _ _) (by omega)) hlb (by omega) (unhide HL7) (unhide HOLD))
                    have HOB2 : Hid (OwnB Wd.heap.size V v8n (b + 1) (fun i => blk4 ((fun i => if i = b then gp else ps i) i) ((fun i => if i = b then cpx else cp i) i) P false)) := by
                      have h := unhide HOB
                      have e : (fun i => if i = b then blk4 gp cpx P false else blk4 (ps i) (cp i) P false) = fun i => blk4 ((fun i => if i = b then gp else ps i) i) ((fun i => if i = b then cpx else cp i) i) P false := by
                        funext i
                        by_cases e : i = b <;> simp [e]
                      rw [e] at h
                      exact h
                    have HOL2 : Hid (OwnC Wd.heap.size V 82 v9n (b + 1) (fun i => .slice (some ⟨(fun i => if i = b then t7 else ns i) i, 0, none⟩) P P)) := by
                      have h := unhide HOL
                      have e : (fun i => if i = b then Value.slice (some ⟨t7, 0, none⟩) P P else Value.slice (some ⟨ns i, 0, none⟩) P P) = fun i => .slice (some ⟨(fun i => if i = b then t7 else ns i) i, 0, none⟩) P P := by
                        funext i
                        by_cases e : i = b <;> simp [e]
                      rw [e] at h
                      exact h
                    have HBX2 := HBX
                    clear HOB HOL HIN HRP HFR HT7 HH
                    go_wp2_with fail
                    go_roundw
                    case rel => exact ⟨b + 1, _, _, _, _, _, _, rfl, rfl, by go_num, by omega, HOB2, HOL2, HADD, HBX2⟩
                    case measure => simp [intOf]; omega
                  focus
                    have hal : Below V.heap.size V (V.alloc (.cells #[.slice (some ⟨t7, 0, none⟩) P P] 82)) := (Below.refl _ _).alloc (Nat.le_refl _) _
                    have hnw := World.alloc_heap_new V (.cells #[.slice (some ⟨t7, 0, none⟩) P P] 82)
                    go_simp

                    replace HOB := hide ((unhide HOB).below hal)
                    replace HOL := hide ((unhide HOL).below hal)
                    replace HIN := hide ((unhide HIN).lie (Lie.of_below (ts := [38, 24, 5]) hal) (by simp) (by simp) (by simp))
                    replace HRP := hide ((unhide HRP).of (hal.block _ (unhide HRP).lt))
                    replace HFR : Hid (∀ p, p < P → Fr (Wx.heap.size + 1) (V.alloc (.cells #[.slice (some ⟨t7, 0, none⟩) P P] 82)) (hw p) ones60) := fun p hp => (unhide HFR p hp).below hal (Nat.le_refl _)
                    have HH0 := HH
                    replace HBX := hide ((unhide HBX).trans (hal.mono (unhide HBX).size))
                    replace HH := hide (And.intro ((hal.block _ (lt_of_block (unhide HH).1)).trans (unhide HH).1) ((hal.block _ (lt_of_block (unhide HH).2)).trans (unhide HH).2))
                    replace HT2 : Hid (∀ j, j < 4 → (V.alloc (.cells #[.slice (some ⟨t7, 0, none⟩) P P] 82)).cell? ⟨t2, j, none⟩ = some (blk4 gp cpx P false j)) := fun j hj => below_cell hal (unhide HT2 j hj) (block_lt_of_cell (unhide HT2 j hj))
                    replace HT7 := hide ((unhide HT7).of (hal.block _ (unhide HT7).lt))
                    have HT8 : Hid (RowC (V.alloc (.cells #[.slice (some ⟨t7, 0, none⟩) P P] 82)) V.heap.size 82 1 (fun _ => .slice (some ⟨t7, 0, none⟩) P P)) := ⟨_, hnw, fun j hj => by
                      have : j = 0 := by omega
                      subst this
                      rfl⟩
                    obtain ⟨t8, ht8⟩ : ∃ n, V.heap.size = n := ⟨_, rfl⟩
                    rw [ht8] at HT8 ⊢
                    clear ht8 hnw
                    clear hal HH0
                    generalize V.alloc (.cells #[.slice (some ⟨t7, 0, none⟩) P P] 82) = V' at HOB HOL HIN HRP HFR HBX HH HT2 HT7 HT8 ⊢
                    refine hK.out _ _ (unhide HH) (fun hHeld => ?_)
                    clear hHeld hK K
                    (try clear V)
                    obtain ⟨V, hVV⟩ : ∃ W, W = V' := ⟨_, rfl⟩
                    subst hVV
                    (try simp only [Act.put, List.setIfInBounds_toArray, List.set_cons_zero, List.set_cons_succ])
                    refine wpAnyH_ready (rs := [3]) (by kernel_rfl) (by simp) ?_
                    refine consL rfl (fun K hK => ?_) AllReadyH.nil
                    obtain ⟨v9, V9, hr9, hO9, hg9⟩ := run_append_bk V Wd.heap.size 76 q8 b _ (unhide HOB) t2 (blk4 gp cpx P false) (unhide HT2) (fun j hj => by match j, hj with | 0, _ => rfl | 1, _ => rfl | 2, _ => rfl | 3, _ => rfl) (by omega) (unhide HBX).size
                    rw [if_pos (by rfl)]
                    refine wp_append_run _ (.tmp 45) (.tmp 47) 76 76 rfl _ _ rfl rfl hr9 ?_
                    clear hr9
                    have hob9 : ∀ k, q8.ownBlock = some k → Wd.heap.size ≤ k ∧ ∃ cur, V.heap[k]? = some (.cells cur 80 (0, 0)) := fun k hk => (unhide HOB).ownBlock hk
                    have hlt9 : ∀ k, q8.ownBlock = some k → k < Wx.heap.size := unhide HQ8
                    have hlie : Lie [82, 38, 24, 5, 23] 0 V V9 := Lie.grown hg9 (fun k hk => by obtain ⟨_, cur, hc⟩ := hob9 k hk; exact ⟨cur, _, hc, by decide⟩)
                    have hbx : Below Wd.heap.size V V9 := ⟨hg9.os, hg9.tape, hg9.output, hg9.size, fun k hk => hg9.block k (Nat.lt_of_lt_of_le hk (unhide HBX).size) (fun e => by have := (hob9 k e.symm).1; omega)⟩
                    replace HOL := hide ((unhide HOL).lie hlie (Nat.zero_le _) (by simp))
                    replace HOB := hide hO9
                    replace HIN := hide ((unhide HIN).lie (hlie.mono (us := [38, 24, 5]) (by simp) (Nat.zero_le _)) (by simp) (by simp) (by simp))
                    replace HRP := hide ((unhide HRP).lie hlie (Nat.zero_le _) (by simp))
                    replace HFR : Hid (∀ p, p < P → Fr (Wx.heap.size + 1) V9 (hw p) ones60) := fun p hp => (unhide HFR p hp).lie (hlie.mono (us := [5]) (by simp) (Nat.zero_le _)) (by simp)
                    replace HBX := hide ((unhide HBX).trans hbx)
                    replace HH := hide (And.intro ((hg9.block _ (lt_of_block (unhide HH).1) (fun e => by have := hlt9 _ e.symm; omega)).trans (unhide HH).1) (hlie _ _ _ (Nat.zero_le _) (by simp) (unhide HH).2))
                    replace HT7 := hide ((unhide HT7).lie hlie (Nat.zero_le _) (by simp))
                    replace HT8 := hide ((unhide HT8).lie hlie (Nat.zero_le _) (by simp))
                    clear hob9 hlt9 hlie hbx hO9 hg9
                    refine hK.out _ _ (unhide HH) (fun hHeld => ?_)
                    clear hHeld hK K
                    (try clear V)
                    obtain ⟨V, hVV⟩ : ∃ W, W = V9 := ⟨_, rfl⟩
                    subst hVV
                    obtain ⟨v8n, hnv⟩ : ∃ x, x = v9 := ⟨_, rfl⟩
                    subst hnv
                    (try simp only [Act.put, List.setIfInBounds_toArray, List.set_cons_zero, List.set_cons_succ])
                    refine wpAnyH_ready (rs := [9]) (by kernel_rfl) (by simp) ?_
                    refine consL rfl (fun K hK => ?_) AllReadyH.nil
                    obtain ⟨v9, V9, hr9, hO9, hg9⟩ := run_append_sl V Wd.heap.size 77 77 82 Try.underlying77 infoL2 q9 b _ (unhide HOL) t8 _ _ _ ((unhide HT8).cell (by omega)) (by omega) (unhide HBX).size
                    rw [if_pos (by rfl)]
                    refine wp_append_run _ (.tmp 49) (.tmp 53) 77 77 rfl _ _ rfl rfl hr9 ?_
                    clear hr9
                    have hob9 : ∀ k, q9.ownBlock = some k → Wd.heap.size ≤ k ∧ ∃ cur, V.heap[k]? = some (.cells cur 82 (0, 0)) := fun k hk => (unhide HOL).ownBlock hk
                    have hlt9 : ∀ k, q9.ownBlock = some k → k < Wx.heap.size := unhide HQ9
                    have hlie : Lie [80, 38, 24, 5, 23] 0 V V9 := Lie.grown hg9 (fun k hk => by obtain ⟨_, cur, hc⟩ := hob9 k hk; exact ⟨cur, _, hc, by decide⟩)
                    have hbx : Below Wd.heap.size V V9 := ⟨hg9.os, hg9.tape, hg9.output, hg9.size, fun k hk => hg9.block k (Nat.lt_of_lt_of_le hk (unhide HBX).size) (fun e => by have := (hob9 k e.symm).1; omega)⟩
                    replace HOB := hide ((unhide HOB).lie hlie (Nat.zero_le _) (by simp))
                    replace HOL := hide hO9
                    replace HIN := hide ((unhide HIN).lie (hlie.mono (us := [38, 24, 5]) (by simp) (Nat.zero_le _)) (by simp) (by simp) (by simp))
                    replace HRP := hide ((unhide HRP).lie hlie (Nat.zero_le _) (by simp))
                    replace HFR : Hid (∀ p, p < P → Fr (Wx.heap.size + 1) V9 (hw p) ones60) := fun p hp => (unhide HFR p hp).lie (hlie.mono (us := [5]) (by simp) (Nat.zero_le _)) (by simp)
                    replace HBX := hide ((unhide HBX).trans hbx)
                    replace HH := hide (And.intro ((hg9.block _ (lt_of_block (unhide HH).1) (fun e => by have := hlt9 _ e.symm; omega)).trans (unhide HH).1) (hlie _ _ _ (Nat.zero_le _) (by simp) (unhide HH).2))
                    replace HT7 := hide ((unhide HT7).lie hlie (Nat.zero_le _) (by simp))
                    clear hob9 hlt9 hlie hbx hO9 hg9
                    refine hK.out _ _ (unhide HH) (fun hHeld => ?_)
                    clear hHeld hK K
                    (try clear V)
                    obtain ⟨V, hVV⟩ : ∃ W, W = V9 := ⟨_, rfl⟩
                    subst hVV
                    obtain ⟨v9n, hnv⟩ : ∃ x, x = v9 := ⟨_, rfl⟩
                    subst hnv
                    (try simp only [Act.put, List.setIfInBounds_toArray, List.set_cons_zero, List.set_cons_succ])
                    refine takeL (i := 10) (v := ?_) rfl (by kernel_rfl) (by kernel_rfl) (by kernel_rfl) (fun _ _ _ h => h) (Or.inl ⟨by rfl, ?_⟩) (unhide HH) ?_
                    rotate_left 1
                    · intro W hSW; go_simp; all_goals (with_reducible rfl)
                    (try simp only [Act.put, List.setIfInBounds_toArray, List.set_cons_zero, List.set_cons_succ])
                    refine takeL (i := 11) (v := ?_) rfl (by kernel_rfl) (by kernel_rfl) (by kernel_rfl) (fun _ _ _ h => h) (Or.inl ⟨by rfl, ?_⟩) (unhide HH) ?_
                    rotate_left 1
                    · intro W hSW; go_simp; all_goals (with_reducible rfl)
                    (try simp only [Act.put, List.setIfInBounds_toArray, List.set_cons_zero, List.set_cons_succ])
                    refine wpAnyH_done (by kernel_rfl) ?_ _
                    refine NoPanic.normal ?_
                    have HADD := hide ((unhide HIN).add (X := Wx.heap.size) (unhide HRP) ⟨hcpx1, hcpx2⟩ (unhide HT7) (fun p hp => (unhide HFR p hp).below (Below.refl _ _) (by omega)) hlb (by omega) (unhide HL7) (unhide HOLD))
                    have HOB2 : Hid (OwnB Wd.heap.size V v8n (b + 1) (fun i => blk4 ((fun i => if i = b then gp else ps i) i) ((fun i => if i = b then cpx else cp i) i) P false)) := by
                      have h := unhide HOB
                      have e : (fun i => if i = b then blk4 gp cpx P false else blk4 (ps i) (cp i) P false) = fun i => blk4 ((fun i => if i = b then gp else ps i) i) ((fun i => if i = b then cpx else cp i) i) P false := by
                        funext i
                        by_cases e : i = b <;> simp [e]
                      rw [e] at h
                      exact h
                    have HOL2 : Hid (OwnC Wd.heap.size V 82 v9n (b + 1) (fun i => .slice (some ⟨(fun i => if i = b then t7 else ns i) i, 0, none⟩) P P)) := by
                      have h := unhide HOL
                      have e : (fun i => if i = b then Value.slice (some ⟨t7, 0, none⟩) P P else Value.slice (some ⟨ns i, 0, none⟩) P P) = fun i => .slice (some ⟨(fun i => if i = b then t7 else ns i) i, 0, none⟩) P P := by
                        funext i
                        by_cases e : i = b <;> simp [e]
                      rw [e] at h
                      exact h
                    have HBX2 := HBX
                    clear HOB HOL HIN HRP HFR HT7 HH
                    go_wp2_with fail
                    go_roundw
                    case rel => exact ⟨b + 1, _, _, _, _, _, _, rfl, rfl, by go_num, by omega, HOB2, HOL2, HADD, HBX2⟩
                    case measure => simp [intOf]; omega
                focus
                  have hal : Below V.heap.size V (V.alloc (.cells #[.slice (some ⟨t7, 0, none⟩) P P] 82)) := (Below.refl _ _).alloc (Nat.le_refl _) _
                  have hnw := World.alloc_heap_new V (.cells #[.slice (some ⟨t7, 0, none⟩) P P] 82)
                  go_simp

                  replace HOB := hide ((unhide HOB).below hal)
                  replace HOL := hide ((unhide HOL).below hal)
                  replace HIN := hide ((unhide HIN).lie (Lie.of_below (ts := [38, 24, 5]) hal) (by simp) (by simp) (by simp))
                  replace HRP := hide ((unhide HRP).of (hal.block _ (unhide HRP).lt))
                  replace HFR : Hid (∀ p, p < P → Fr (Wx.heap.size + 1) (V.alloc (.cells #[.slice (some ⟨t7, 0, none⟩) P P] 82)) (hw p) ones60) := fun p hp => (unhide HFR p hp).below hal (Nat.le_refl _)
                  have HH0 := HH
                  replace HBX := hide ((unhide HBX).trans (hal.mono (unhide HBX).size))
                  replace HH := hide (And.intro ((hal.block _ (lt_of_block (unhide HH).1)).trans (unhide HH).1) ((hal.block _ (lt_of_block (unhide HH).2)).trans (unhide HH).2))
                  replace HT7 := hide ((unhide HT7).of (hal.block _ (unhide HT7).lt))
                  have HT8 : Hid (RowC (V.alloc (.cells #[.slice (some ⟨t7, 0, none⟩) P P] 82)) V.heap.size 82 1 (fun _ => .slice (some ⟨t7, 0, none⟩) P P)) := ⟨_, hnw, fun j hj => by
                    have : j = 0 := by omega
                    subst this
                    rfl⟩
                  obtain ⟨t8, ht8⟩ : ∃ n, V.heap.size = n := ⟨_, rfl⟩
                  rw [ht8] at HT8 ⊢
                  clear ht8 hnw
                  clear hal HH0
                  generalize V.alloc (.cells #[.slice (some ⟨t7, 0, none⟩) P P] 82) = V' at HOB HOL HIN HRP HFR HBX HH HT7 HT8 ⊢
                  refine hK.out _ _ (unhide HH) (fun hHeld => ?_)
                  clear hHeld hK K
                  (try clear V)
                  obtain ⟨V, hVV⟩ : ∃ W, W = V' := ⟨_, rfl⟩
                  subst hVV
                  (try simp only [Act.put, List.setIfInBounds_toArray, List.set_cons_zero, List.set_cons_succ])
                  refine wpAnyH_ready (rs := [2]) (by kernel_rfl) (by simp) ?_
                  refine consL rfl (fun K hK => ?_) AllReadyH.nil
                  have hal : Below V.heap.size V (V.alloc (.cells #[.slice (some ⟨gp, 0, none⟩) P cpx, .int .i64 0, .int .i64 0, .bool false] 80)) := (Below.refl _ _).alloc (Nat.le_refl _) _
                  have hnw := World.alloc_heap_new V (.cells #[.slice (some ⟨gp, 0, none⟩) P cpx, .int .i64 0, .int .i64 0, .bool false] 80)
                  go_simp

                  replace HOB := hide ((unhide HOB).below hal)
                  replace HOL := hide ((unhide HOL).below hal)
                  replace HIN := hide ((unhide HIN).lie (Lie.of_below (ts := [38, 24, 5]) hal) (by simp) (by simp) (by simp))
                  replace HRP := hide ((unhide HRP).of (hal.block _ (unhide HRP).lt))
                  replace HFR : Hid (∀ p, p < P → Fr (Wx.heap.size + 1) (V.alloc (.cells #[.slice (some ⟨gp, 0, none⟩) P cpx, .int .i64 0, .int .i64 0, .bool false] 80)) (hw p) ones60) := fun p hp => (unhide HFR p hp).below hal (Nat.le_refl _)
                  have HH0 := HH
                  replace HBX := hide ((unhide HBX).trans (hal.mono (unhide HBX).size))
                  replace HH := hide (And.intro ((hal.block _ (lt_of_block (unhide HH).1)).trans (unhide HH).1) ((hal.block _ (lt_of_block (unhide HH).2)).trans (unhide HH).2))
                  replace HT7 := hide ((unhide HT7).of (hal.block _ (unhide HT7).lt))
                  replace HT8 := hide ((unhide HT8).of (hal.block _ (unhide HT8).lt))
                  have HT2 : Hid (∀ j, j < 4 → (V.alloc (.cells #[.slice (some ⟨gp, 0, none⟩) P cpx, .int .i64 0, .int .i64 0, .bool false] 80)).cell? ⟨V.heap.size, j, none⟩ = some (blk4 gp cpx P false j)) := fun j hj => by
                    match j, hj with
                    | 0, _ => exact cell_blk hnw rfl
                    | 1, _ => exact cell_blk hnw rfl
                    | 2, _ => exact cell_blk hnw rfl
                    | 3, _ => exact cell_blk hnw rfl
                  obtain ⟨t2, ht2⟩ : ∃ n, V.heap.size = n := ⟨_, rfl⟩
                  rw [ht2] at HT2 ⊢
                  clear ht2 hnw
                  clear hal HH0
                  generalize V.alloc (.cells #[.slice (some ⟨gp, 0, none⟩) P cpx, .int .i64 0, .int .i64 0, .bool false] 80) = V' at HOB HOL HIN HRP HFR HBX HH HT7 HT8 HT2 ⊢
                  refine hK.out _ _ (unhide HH) (fun hHeld => ?_)
                  clear hHeld hK K
                  (try clear V)
                  obtain ⟨V, hVV⟩ : ∃ W, W = V' := ⟨_, rfl⟩
                  subst hVV
                  (try simp only [Act.put, List.setIfInBounds_toArray, List.set_cons_zero, List.set_cons_succ])
                  refine wpAnyH_ready (rs := [3]) (by kernel_rfl) (by simp) ?_
                  refine consL rfl (fun K hK => ?_) AllReadyH.nil
                  obtain ⟨v9, V9, hr9, hO9, hg9⟩ := run_append_bk V Wd.heap.size 76 q8 b _ (unhide HOB) t2 (blk4 gp cpx P false) (unhide HT2) (fun j hj => by match j, hj with | 0, _ => rfl | 1, _ => rfl | 2, _ => rfl | 3, _ => rfl) (by omega) (unhide HBX).size
                  rw [if_pos (by rfl)]
                  refine wp_append_run _ (.tmp 45) (.tmp 47) 76 76 rfl _ _ rfl rfl hr9 ?_
                  clear hr9
                  have hob9 : ∀ k, q8.ownBlock = some k → Wd.heap.size ≤ k ∧ ∃ cur, V.heap[k]? = some (.cells cur 80 (0, 0)) := fun k hk => (unhide HOB).ownBlock hk
                  have hlt9 : ∀ k, q8.ownBlock = some k → k < Wx.heap.size := unhide HQ8
                  have hlie : Lie [82, 38, 24, 5, 23] 0 V V9 := Lie.grown hg9 (fun k hk => by obtain ⟨_, cur, hc⟩ := hob9 k hk; exact ⟨cur, _, hc, by decide⟩)
                  have hbx : Below Wd.heap.size V V9 := ⟨hg9.os, hg9.tape, hg9.output, hg9.size, fun k hk => hg9.block k (Nat.lt_of_lt_of_le hk (unhide HBX).size) (fun e => by have := (hob9 k e.symm).1; omega)⟩
                  replace HOL := hide ((unhide HOL).lie hlie (Nat.zero_le _) (by simp))
                  replace HOB := hide hO9
                  replace HIN := hide ((unhide HIN).lie (hlie.mono (us := [38, 24, 5]) (by simp) (Nat.zero_le _)) (by simp) (by simp) (by simp))
                  replace HRP := hide ((unhide HRP).lie hlie (Nat.zero_le _) (by simp))
                  replace HFR : Hid (∀ p, p < P → Fr (Wx.heap.size + 1) V9 (hw p) ones60) := fun p hp => (unhide HFR p hp).lie (hlie.mono (us := [5]) (by simp) (Nat.zero_le _)) (by simp)
                  replace HBX := hide ((unhide HBX).trans hbx)
                  replace HH := hide (And.intro ((hg9.block _ (lt_of_block (unhide HH).1) (fun e => by have := hlt9 _ e.symm; omega)).trans (unhide HH).1) (hlie _ _ _ (Nat.zero_le _) (by simp) (unhide HH).2))
                  replace HT7 := hide ((unhide HT7).lie hlie (Nat.zero_le _) (by simp))
                  replace HT8 := hide ((unhide HT8).lie hlie (Nat.zero_le _) (by simp))
                  clear hob9 hlt9 hlie hbx hO9 hg9
                  refine hK.out _ _ (unhide HH) (fun hHeld => ?_)
                  clear hHeld hK K
                  (try clear V)
                  obtain ⟨V, hVV⟩ : ∃ W, W = V9 := ⟨_, rfl⟩
                  subst hVV
                  obtain ⟨v8n, hnv⟩ : ∃ x, x = v9 := ⟨_, rfl⟩
                  subst hnv
                  (try simp only [Act.put, List.setIfInBounds_toArray, List.set_cons_zero, List.set_cons_succ])
                  refine wpAnyH_ready (rs := [9]) (by kernel_rfl) (by simp) ?_
                  refine consL rfl (fun K hK => ?_) AllReadyH.nil
                  obtain ⟨v9, V9, hr9, hO9, hg9⟩ := run_append_sl V Wd.heap.size 77 77 82 Try.underlying77 infoL2 q9 b _ (unhide HOL) t8 _ _ _ ((unhide HT8).cell (by omega)) (by omega) (unhide HBX).size
                  rw [if_pos (by rfl)]
                  refine wp_append_run _ (.tmp 49) (.tmp 53) 77 77 rfl _ _ rfl rfl hr9 ?_
                  clear hr9
                  have hob9 : ∀ k, q9.ownBlock = some k → Wd.heap.size ≤ k ∧ ∃ cur, V.heap[k]? = some (.cells cur 82 (0, 0)) := fun k hk => (unhide HOL).ownBlock hk
                  have hlt9 : ∀ k, q9.ownBlock = some k → k < Wx.heap.size := unhide HQ9
                  have hlie : Lie [80, 38, 24, 5, 23] 0 V V9 := Lie.grown hg9 (fun k hk => by obtain ⟨_, cur, hc⟩ := hob9 k hk; exact ⟨cur, _, hc, by decide⟩)
                  have hbx : Below Wd.heap.size V V9 := ⟨hg9.os, hg9.tape, hg9.output, hg9.size, fun k hk => hg9.block k (Nat.lt_of_lt_of_le hk (unhide HBX).size) (fun e => by have := (hob9 k e.symm).1; omega)⟩
                  replace HOB := hide ((unhide HOB).lie hlie (Nat.zero_le _) (by simp))
                  replace HOL := hide hO9
                  replace HIN := hide ((unhide HIN).lie (hlie.mono (us := [38, 24, 5]) (by simp) (Nat.zero_le _)) (by simp) (by simp) (by simp))
                  replace HRP := hide ((unhide HRP).lie hlie (Nat.zero_le _) (by simp))
                  replace HFR : Hid (∀ p, p < P → Fr (Wx.heap.size + 1) V9 (hw p) ones60) := fun p hp => (unhide HFR p hp).lie (hlie.mono (us := [5]) (by simp) (Nat.zero_le _)) (by simp)
                  replace HBX := hide ((unhide HBX).trans hbx)
                  replace HH := hide (And.intro ((hg9.block _ (lt_of_block (unhide HH).1) (fun e => by have := hlt9 _ e.symm; omega)).trans (unhide HH).1) (hlie _ _ _ (Nat.zero_le _) (by simp) (unhide HH).2))
                  replace HT7 := hide ((unhide HT7).lie hlie (Nat.zero_le _) (by simp))
                  clear hob9 hlt9 hlie hbx hO9 hg9
                  refine hK.out _ _ (unhide HH) (fun hHeld => ?_)
                  clear hHeld hK K
                  (try clear V)
                  obtain ⟨V, hVV⟩ : ∃ W, W = V9 := ⟨_, rfl⟩
                  subst hVV
                  obtain ⟨v9n, hnv⟩ : ∃ x, x = v9 := ⟨_, rfl⟩
                  subst hnv
                  (try simp only [Act.put, List.setIfInBounds_toArray, List.set_cons_zero, List.set_cons_succ])
                  refine takeL (i := 10) (v := ?_) rfl (by kernel_rfl) (by kernel_rfl) (by kernel_rfl) (fun _ _ _ h => h) (Or.inl ⟨by rfl, ?_⟩) (unhide HH) ?_
                  rotate_left 1
                  · intro W hSW; go_simp; all_goals (with_reducible rfl)
                  (try simp only [Act.put, List.setIfInBounds_toArray, List.set_cons_zero, List.set_cons_succ])
                  refine takeL (i := 11) (v := ?_) rfl (by kernel_rfl) (by kernel_rfl) (by kernel_rfl) (fun _ _ _ h => h) (Or.inl ⟨by rfl, ?_⟩) (unhide HH) ?_
                  rotate_left 1
                  · intro W hSW; go_simp; all_goals (with_reducible rfl)
                  (try simp only [Act.put, List.setIfInBounds_toArray, List.set_cons_zero, List.set_cons_succ])
                  refine wpAnyH_done (by kernel_rfl) ?_ _
                  refine NoPanic.normal ?_
                  have HADD := hide ((unhide HIN).add (X := Wx.heap.size) (unhide HRP) ⟨hcpx1, hcpx2⟩ (unhide HT7) (fun p hp => (unhide HFR p hp).below (Below.refl _ _) (by omega)) hlb (by omega) (unhide HL7) (unhide HOLD))
                  have HOB2 : Hid (OwnB Wd.heap.size V v8n (b + 1) (fun i => blk4 ((fun i => if i = b then gp else ps i) i) ((fun i => if i = b then cpx else cp i) i) P false)) := by
                    have h := unhide HOB
                    have e : (fun i => if i = b then blk4 gp cpx P false else blk4 (ps i) (cp i) P false) = fun i => blk4 ((fun i => if i = b then gp else ps i) i) ((fun i => if i = b then cpx else cp i) i) P false := by
                      funext i
                      by_cases e : i = b <;> simp [e]
                    rw [e] at h
                    exact h
                  have HOL2 : Hid (OwnC Wd.heap.size V 82 v9n (b + 1) (fun i => .slice (some ⟨(fun i => if i = b then t7 else ns i) i, 0, none⟩) P P)) := by
                    have h := unhide HOL
                    have e : (fun i => if i = b then Value.slice (some ⟨t7, 0, none⟩) P P else Value.slice (some ⟨ns i, 0, none⟩) P P) = fun i => .slice (some ⟨(fun i => if i = b then t7 else ns i) i, 0, none⟩) P P := by
                      funext i
                      by_cases e : i = b <;> simp [e]
                    rw [e] at h
                    exact h
                  have HBX2 := HBX
                  clear HOB HOL HIN HRP HFR HT7 HH
                  go_wp2_with fail
                  go_roundw
                  case rel => exact ⟨b + 1, _, _, _, _, _, _, rfl, rfl, by go_num, by omega, HOB2, HOL2, HADD, HBX2⟩
                  case measure => simp [intOf]; omega
        · have hbb : B = b := by omega
          subst hbb
          obtain ⟨gB, cB, hq8, hgB, hcB1, hcB2, hrB⟩ := (unhide HOB).row (by omega)
          obtain ⟨gL, cL, hq9, hgL, hcL1, hcL2, hrL⟩ := (unhide HOL).row (by omega)
          subst hq8
          subst hq9
          obtain ⟨die, hdie⟩ : ∃ d : Ld, d = ⟨gB, cB, gL, cL, ps, cp, hv, ns, fun _ => false⟩ := ⟨_, rfl⟩
          have HDIE : Hid (DieR wr.drew Wd.heap.size B P die) := by
            rw [hdie]
            exact (⟨hrB, hrL, ⟨hcB1, hcB2⟩, ⟨hcL1, hcL2⟩, hgB, hgL, unhide HIN⟩ : DieR wr Wd.heap.size B P ⟨gB, cB, gL, cL, ps, cp, hv, ns, fun _ => false⟩).lie (ts := [38, 24, 5, 80, 82]) (fun g cur t _ _ h => h) (by simp) (by simp) (by simp) (by simp) (by simp)
          have hsame : ∀ k : Nat, k < Wd.heap.size → wr.drew.heap[k]? = Wd.heap[k]? := fun k hk => (unhide HBD).block k hk
          have HTOP := hide ((hsame q (lt_of_block (unhide HMK).top)).trans (unhide HMK).top)
          have HQX : Hid (q + 1 ≤ Wd.heap.size) := lt_of_block (unhide HMK).top
          have HRB := hide ((unhide HMK).rb.keep (w' := wr.drew) (fun g cur h1 h2 => hsame g (lt_of_block h2)))
          have HRL := hide ((unhide HMK).rl.keep (w' := wr.drew) (fun g cur h1 h2 => hsame g (lt_of_block h2)))
          have HALL := hide ((unhide HMK).all.lie (w' := wr.drew) (ts := [38, 24, 5, 80, 82]) (fun g cur t _ _ h => (hsame g (lt_of_block h)).trans h) (by simp) (by simp) (by simp) (by simp) (by simp))
          have HOLDX : Hid (∀ i, i < d → (Ds i).bs < Wd.heap.size ∧ (Ds i).ls < Wd.heap.size ∧ ∀ b, b < B → (Ds i).ps b < Wd.heap.size ∧ (Ds i).ns b < Wd.heap.size) := fun i hi => (unhide HMK).all.lt hi
          have HNg : Hid (wr.drew.heap[w.heap.size]? = some (.cells #[.int .i64 (D : Int), .int .i64 (B : Int), .int .i64 (P : Int)] 23 (0, 0))) := unhide HNw
          have HBW := hide (((unhide HB).trans ((unhide HBD).mono (unhide HB).size)).drew)
          have HH : Hid (wr.drew.cell? ⟨q, 3, none⟩ = some Bv ∧ wr.drew.cell? ⟨q, 4, none⟩ = some Lv) := ⟨cell_blk (unhide HTOP) rfl, cell_blk (unhide HTOP) rfl⟩
          have hb1 : (B : Int) ≤ (B : Int) := Int.le_refl _
          clear hsame hrB hrL HOB HOL HIN HMK HB HNw HBD HN
          go_wp2_with fail
          clear g1
          refine wp_region_noPanic ?_
          refine regionK (kk := 18) (S := fun W => W.cell? ⟨q, 3, none⟩ = some Bv ∧ W.cell? ⟨q, 4, none⟩ = some Lv) (by kernel_rfl) ?_
          obtain ⟨V, hVV⟩ : ∃ W, W = wr.drew := ⟨_, rfl⟩
          rw [← hVV] at HDIE HTOP HRB HRL HALL HNg HBW HH ⊢
          clear hVV
          refine takeP (i := 0) (v := ?_) rfl (by kernel_rfl) (by kernel_rfl) (by kernel_rfl) (by kernel_rfl) (fun _ _ _ h => h) (Or.inl ⟨by rfl, ?_⟩) (fun _ => unhide HH) ?_
          rotate_left 1
          · intro W1 hSW; go_simp; all_goals (with_reducible rfl)
          (try simp only [Act.put, List.setIfInBounds_toArray, List.set_cons_zero, List.set_cons_succ])
          refine takeP (i := 1) (v := ?_) rfl (by kernel_rfl) (by kernel_rfl) (by kernel_rfl) (by kernel_rfl) (fun _ _ _ h => h) (Or.inl ⟨by rfl, ?_⟩) (fun _ => unhide HH) ?_
          rotate_left 1
          · intro W1 hSW; go_simp; all_goals (with_reducible rfl)
          (try simp only [Act.put, List.setIfInBounds_toArray, List.set_cons_zero, List.set_cons_succ])
          refine takeP (i := 2) (v := ?_) rfl (by kernel_rfl) (by kernel_rfl) (by kernel_rfl) (by kernel_rfl) (fun _ _ _ h => h) (Or.inl ⟨by rfl, ?_⟩) (fun _ => unhide HH) ?_
          rotate_left 1
          · intro W1 hSW; go_simp; all_goals (with_reducible rfl)
          (try simp only [Act.put, List.setIfInBounds_toArray, List.set_cons_zero, List.set_cons_succ])
          refine takeP (i := 3) (v := ?_) rfl (by kernel_rfl) (by kernel_rfl) (by kernel_rfl) (by kernel_rfl) (fun _ _ _ h => h) (Or.inl ⟨by rfl, ?_⟩) (fun _ => unhide HH) ?_
          rotate_left 1
          · intro W1 hSW; go_simp; all_goals (with_reducible rfl)
          (try simp only [Act.put, List.setIfInBounds_toArray, List.set_cons_zero, List.set_cons_succ])
          refine takeP (i := 4) (v := ?_) rfl (by kernel_rfl) (by kernel_rfl) (by kernel_rfl) (by kernel_rfl) (fun _ _ _ h => h) (Or.inl ⟨by rfl, ?_⟩) (fun _ => unhide HH) ?_
          rotate_left 1
          · intro W1 hSW; go_simp; all_goals (with_reducible rfl)
          (try simp only [Act.put, List.setIfInBounds_toArray, List.set_cons_zero, List.set_cons_succ])
          refine takeK (i := 5) (v := ?_) rfl (by kernel_rfl) (by kernel_rfl) (by kernel_rfl) (by kernel_rfl) (by kernel_rfl) (by kernel_rfl) (fun _ _ _ h => h) (Or.inl ⟨by rfl, ?_⟩) (unhide HH) ?_
          rotate_left 1
          · intro W1 hSW; have k3 := hSW.1; have k4 := hSW.2; clear hSW; go_simp; all_goals (with_reducible rfl)
          (try simp only [Act.put, List.setIfInBounds_toArray, List.set_cons_zero, List.set_cons_succ])
          refine takeP (i := 6) (v := ?_) rfl (by kernel_rfl) (by kernel_rfl) (by kernel_rfl) (by kernel_rfl) (fun _ _ _ h => h) (Or.inl ⟨by rfl, ?_⟩) (fun _ => unhide HH) ?_
          rotate_left 1
          · intro W1 hSW; go_simp; all_goals (with_reducible rfl)
          (try simp only [Act.put, List.setIfInBounds_toArray, List.set_cons_zero, List.set_cons_succ])
          refine takeP (i := 9) (v := ?_) rfl (by kernel_rfl) (by kernel_rfl) (by kernel_rfl) (by kernel_rfl) (fun _ _ _ h => h) (Or.inl ⟨by rfl, ?_⟩) (fun _ => unhide HH) ?_
          rotate_left 1
          · intro W1 hSW; go_simp; all_goals (with_reducible rfl)
          (try simp only [Act.put, List.setIfInBounds_toArray, List.set_cons_zero, List.set_cons_succ])
          refine takeP (i := 10) (v := ?_) rfl (by kernel_rfl) (by kernel_rfl) (by kernel_rfl) (by kernel_rfl) (fun _ _ _ h => h) (Or.inl ⟨by rfl, ?_⟩) (fun _ => unhide HH) ?_
          rotate_left 1
          · intro W1 hSW; go_simp; all_goals (with_reducible rfl)
          (try simp only [Act.put, List.setIfInBounds_toArray, List.set_cons_zero, List.set_cons_succ])
          refine takeP (i := 11) (v := ?_) rfl (by kernel_rfl) (by kernel_rfl) (by kernel_rfl) (by kernel_rfl) (fun _ _ _ h => h) (Or.inl ⟨by rfl, ?_⟩) (fun _ => unhide HH) ?_
          rotate_left 1
          · intro W1 hSW; go_simp; all_goals (with_reducible rfl)
          (try simp only [Act.put, List.setIfInBounds_toArray, List.set_cons_zero, List.set_cons_succ])
          refine takeK (i := 12) (v := ?_) rfl (by kernel_rfl) (by kernel_rfl) (by kernel_rfl) (by kernel_rfl) (by kernel_rfl) (by kernel_rfl) (fun _ _ _ h => h) (Or.inl ⟨by rfl, ?_⟩) (unhide HH) ?_
          rotate_left 1
          · intro W1 hSW; have k3 := hSW.1; have k4 := hSW.2; clear hSW; go_simp; all_goals (with_reducible rfl)
          (try simp only [Act.put, List.setIfInBounds_toArray, List.set_cons_zero, List.set_cons_succ])
          refine takeP (i := 13) (v := ?_) rfl (by kernel_rfl) (by kernel_rfl) (by kernel_rfl) (by kernel_rfl) (fun _ _ _ h => h) (Or.inl ⟨by rfl, ?_⟩) (fun _ => unhide HH) ?_
          rotate_left 1
          · intro W1 hSW; go_simp; all_goals (with_reducible rfl)
          (try simp only [Act.put, List.setIfInBounds_toArray, List.set_cons_zero, List.set_cons_succ])
          refine readyK (rs := [7, 14]) (by kernel_rfl) (by simp) ?_
          refine consK rfl (fun K hK => ?_) (consK rfl (fun K hK => ?_) nilK)
          focus
            have hal : Below V.heap.size V (V.alloc (.cells #[.slice (some ⟨gB, 0, none⟩) B cB] 76)) := (Below.refl _ _).alloc (Nat.le_refl _) _
            have hnw := World.alloc_heap_new V (.cells #[.slice (some ⟨gB, 0, none⟩) B cB] 76)
            go_simp
            have hlie : Lie [75, 23, 38, 24, 5, 80, 82, 77, 76] 0 V (V.alloc (.cells #[.slice (some ⟨gB, 0, none⟩) B cB] 76)) := Lie.of_below hal
            replace HTOP := hide (hlie _ _ _ (Nat.zero_le _) (by simp) (unhide HTOP))
            replace HNg := hide (hlie _ _ _ (Nat.zero_le _) (by simp) (unhide HNg))
            replace HALL := hide ((unhide HALL).lie (hlie.mono (us := [38, 24, 5, 80, 82]) (by simp) (Nat.zero_le _)) (by simp) (by simp) (by simp) (by simp) (by simp))
            replace HDIE := hide ((unhide HDIE).lie (hlie.mono (us := [38, 24, 5, 80, 82]) (by simp) (Nat.zero_le _)) (by simp) (by simp) (by simp) (by simp) (by simp))
            replace HRB := hide ((unhide HRB).below hal)
            replace HRL := hide ((unhide HRL).below hal)
            replace HBW := hide ((unhide HBW).trans (hal.mono (unhide HBW).size))
            replace HH := hide (And.intro (below_cell hal (unhide HH).1 (block_lt_of_cell (unhide HH).1)) (below_cell hal (unhide HH).2 (block_lt_of_cell (unhide HH).2)))
            have HT7 : Hid (RowC (V.alloc (.cells #[.slice (some ⟨gB, 0, none⟩) B cB] 76)) V.heap.size 76 1 (fun _ => .slice (some ⟨gB, 0, none⟩) B cB)) := ⟨_, hnw, fun j hj => by
              have : j = 0 := by omega
              subst this
              rfl⟩
            obtain ⟨t7, hnn⟩ : ∃ n, V.heap.size = n := ⟨_, rfl⟩
            rw [hnn] at HT7 ⊢
            clear hnn hnw hal hlie
            generalize V.alloc (.cells #[.slice (some ⟨gB, 0, none⟩) B cB] 76) = V' at HTOP HNg HALL HDIE HRB HRL HBW HH HT7 ⊢
            refine hK.out _ _ (fun _ => unhide HH) ?_
            clear hK K
            (try clear V)
            obtain ⟨V, hVV⟩ : ∃ W, W = V' := ⟨_, rfl⟩
            subst hVV
            (try simp only [Act.put, List.setIfInBounds_toArray, List.set_cons_zero, List.set_cons_succ])
            refine readyK (rs := [8, 14]) (by kernel_rfl) (by simp) ?_
            refine consK rfl (fun K hK => ?_) (consK rfl (fun K hK => ?_) nilK)
            focus
              obtain ⟨v9, V9, hr9, hO9, hg9⟩ := run_append_sl V (q + 1) 72 72 76 Try.underlying72 infoBB Bv d _ (unhide HRB) t7 _ _ _ ((unhide HT7).cell (by omega)) (by omega) (lt_of_block (unhide HTOP))
              rw [if_pos (by rfl)]
              refine wp_append_run _ (.tmp 60) (.tmp 62) 72 72 rfl _ _ rfl rfl hr9 ?_
              clear hr9
              have hob9 : ∀ k, Bv.ownBlock = some k → q + 1 ≤ k ∧ ∃ cur, V.heap[k]? = some (.cells cur 76 (0, 0)) := fun k hk => (unhide HRB).ownBlock hk
              have hlie : Lie [75, 23, 38, 24, 5, 80, 82, 77] 0 V V9 := Lie.grown hg9 (fun k hk => by obtain ⟨_, cur, hc⟩ := hob9 k hk; exact ⟨cur, _, hc, by decide⟩)
              have hbx : Below w.heap.size V V9 := ⟨hg9.os, hg9.tape, hg9.output, hg9.size, fun k hk => hg9.block k (Nat.lt_of_lt_of_le hk (unhide HBW).size) (fun e => by have := (hob9 k e.symm).1; omega)⟩
              replace HTOP := hide (hlie _ _ _ (Nat.zero_le _) (by simp) (unhide HTOP))
              replace HNg := hide (hlie _ _ _ (Nat.zero_le _) (by simp) (unhide HNg))
              replace HALL := hide ((unhide HALL).lie (hlie.mono (us := [38, 24, 5, 80, 82]) (by simp) (Nat.zero_le _)) (by simp) (by simp) (by simp) (by simp) (by simp))
              replace HDIE := hide ((unhide HDIE).lie (hlie.mono (us := [38, 24, 5, 80, 82]) (by simp) (Nat.zero_le _)) (by simp) (by simp) (by simp) (by simp) (by simp))
              replace HRL := hide ((unhide HRL).lie hlie (Nat.zero_le _) (by simp))
              replace HRB := hide hO9
              replace HBW := hide ((unhide HBW).trans hbx)
              replace HH : Hid (V9.cell? ⟨q, 3, none⟩ = some Bv ∧ V9.cell? ⟨q, 4, none⟩ = some Lv) := ⟨cell_blk (unhide HTOP) rfl, cell_blk (unhide HTOP) rfl⟩
              clear hob9 hlie hbx hO9 hg9
              refine hK.out _ _ (fun _ => unhide HH) ?_
              clear hK K
              (try clear V)
              obtain ⟨V, hVV⟩ : ∃ W, W = V9 := ⟨_, rfl⟩
              subst hVV
              obtain ⟨vB, hnv⟩ : ∃ x, x = v9 := ⟨_, rfl⟩
              subst hnv
              (try simp only [Act.put, List.setIfInBounds_toArray, List.set_cons_zero, List.set_cons_succ])
              refine readyK (rs := [14]) (by kernel_rfl) (by simp) ?_
              refine consK rfl (fun K hK => ?_) nilK
              have hal : Below V.heap.size V (V.alloc (.cells #[.slice (some ⟨gL, 0, none⟩) B cL] 77)) := (Below.refl _ _).alloc (Nat.le_refl _) _
              have hnw := World.alloc_heap_new V (.cells #[.slice (some ⟨gL, 0, none⟩) B cL] 77)
              go_simp
              have hlie : Lie [75, 23, 38, 24, 5, 80, 82, 77, 76] 0 V (V.alloc (.cells #[.slice (some ⟨gL, 0, none⟩) B cL] 77)) := Lie.of_below hal
              replace HTOP := hide (hlie _ _ _ (Nat.zero_le _) (by simp) (unhide HTOP))
              replace HNg := hide (hlie _ _ _ (Nat.zero_le _) (by simp) (unhide HNg))
              replace HALL := hide ((unhide HALL).lie (hlie.mono (us := [38, 24, 5, 80, 82]) (by simp) (Nat.zero_le _)) (by simp) (by simp) (by simp) (by simp) (by simp))
              replace HDIE := hide ((unhide HDIE).lie (hlie.mono (us := [38, 24, 5, 80, 82]) (by simp) (Nat.zero_le _)) (by simp) (by simp) (by simp) (by simp) (by simp))
              replace HRB := hide ((unhide HRB).below hal)
              replace HRL := hide ((unhide HRL).below hal)
              replace HBW := hide ((unhide HBW).trans (hal.mono (unhide HBW).size))
              replace HH := hide (And.intro (below_cell hal (unhide HH).1 (block_lt_of_cell (unhide HH).1)) (below_cell hal (unhide HH).2 (block_lt_of_cell (unhide HH).2)))
              have HT14 : Hid (RowC (V.alloc (.cells #[.slice (some ⟨gL, 0, none⟩) B cL] 77)) V.heap.size 77 1 (fun _ => .slice (some ⟨gL, 0, none⟩) B cL)) := ⟨_, hnw, fun j hj => by
                have : j = 0 := by omega
                subst this
                rfl⟩
              obtain ⟨t14, hnn⟩ : ∃ n, V.heap.size = n := ⟨_, rfl⟩
              rw [hnn] at HT14 ⊢
              clear hnn hnw hal hlie
              generalize V.alloc (.cells #[.slice (some ⟨gL, 0, none⟩) B cL] 77) = V' at HTOP HNg HALL HDIE HRB HRL HBW HH HT14 ⊢
              refine hK.out _ _ (fun _ => unhide HH) ?_
              clear hK K
              (try clear V)
              obtain ⟨V, hVV⟩ : ∃ W, W = V' := ⟨_, rfl⟩
              subst hVV
              (try simp only [Act.put, List.setIfInBounds_toArray, List.set_cons_zero, List.set_cons_succ])
              refine readyK (rs := [15]) (by kernel_rfl) (by simp) ?_
              refine consK rfl (fun K hK => ?_) nilK
              obtain ⟨v9, V9, hr9, hO9, hg9⟩ := run_append_sl V (q + 1) 73 73 77 Try.underlying73 infoL3 Lv d _ (unhide HRL) t14 _ _ _ ((unhide HT14).cell (by omega)) (by omega) (lt_of_block (unhide HTOP))
              rw [if_pos (by rfl)]
              refine wp_append_run _ (.tmp 67) (.tmp 69) 73 73 rfl _ _ rfl rfl hr9 ?_
              clear hr9
              have hob9 : ∀ k, Lv.ownBlock = some k → q + 1 ≤ k ∧ ∃ cur, V.heap[k]? = some (.cells cur 77 (0, 0)) := fun k hk => (unhide HRL).ownBlock hk
              have hlie : Lie [75, 23, 38, 24, 5, 80, 82, 76] 0 V V9 := Lie.grown hg9 (fun k hk => by obtain ⟨_, cur, hc⟩ := hob9 k hk; exact ⟨cur, _, hc, by decide⟩)
              have hbx : Below w.heap.size V V9 := ⟨hg9.os, hg9.tape, hg9.output, hg9.size, fun k hk => hg9.block k (Nat.lt_of_lt_of_le hk (unhide HBW).size) (fun e => by have := (hob9 k e.symm).1; omega)⟩
              replace HTOP := hide (hlie _ _ _ (Nat.zero_le _) (by simp) (unhide HTOP))
              replace HNg := hide (hlie _ _ _ (Nat.zero_le _) (by simp) (unhide HNg))
              replace HALL := hide ((unhide HALL).lie (hlie.mono (us := [38, 24, 5, 80, 82]) (by simp) (Nat.zero_le _)) (by simp) (by simp) (by simp) (by simp) (by simp))
              replace HDIE := hide ((unhide HDIE).lie (hlie.mono (us := [38, 24, 5, 80, 82]) (by simp) (Nat.zero_le _)) (by simp) (by simp) (by simp) (by simp) (by simp))
              replace HRB := hide ((unhide HRB).lie hlie (Nat.zero_le _) (by simp))
              replace HRL := hide hO9
              replace HBW := hide ((unhide HBW).trans hbx)
              replace HH : Hid (V9.cell? ⟨q, 3, none⟩ = some Bv ∧ V9.cell? ⟨q, 4, none⟩ = some Lv) := ⟨cell_blk (unhide HTOP) rfl, cell_blk (unhide HTOP) rfl⟩
              clear hob9 hlie hbx hO9 hg9
              refine hK.out _ _ (fun _ => unhide HH) ?_
              clear hK K
              (try clear V)
              obtain ⟨V, hVV⟩ : ∃ W, W = V9 := ⟨_, rfl⟩
              subst hVV
              obtain ⟨vL, hnv⟩ : ∃ x, x = v9 := ⟨_, rfl⟩
              subst hnv
              (try simp only [Act.put, List.setIfInBounds_toArray, List.set_cons_zero, List.set_cons_succ])
              refine takeP (i := 16) (v := ?_) rfl (by kernel_rfl) (by kernel_rfl) (by kernel_rfl) (by kernel_rfl) (fun _ _ _ h => h) (Or.inl ⟨by rfl, ?_⟩) (fun _ => unhide HH) ?_
              rotate_left 1
              · intro W1 hSW; go_simp; all_goals (with_reducible rfl)
              (try simp only [Act.put, List.setIfInBounds_toArray, List.set_cons_zero, List.set_cons_succ])
              refine takeP (i := 17) (v := ?_) rfl (by kernel_rfl) (by kernel_rfl) (by kernel_rfl) (by kernel_rfl) (fun _ _ _ h => h) (Or.inl ⟨by rfl, ?_⟩) (fun _ => unhide HH) ?_
              rotate_left 1
              · intro W1 hSW; go_simp; all_goals (with_reducible rfl)
              (try simp only [Act.put, List.setIfInBounds_toArray, List.set_cons_zero, List.set_cons_succ])
              refine readyK (rs := [18]) (by kernel_rfl) (by simp) ?_
              refine consK rfl (fun K hK => ?_) nilK
              obtain ⟨aB, kB, hsB⟩ := (unhide HRB).shape
              obtain ⟨aL, kL, hsL⟩ := (unhide HRL).shape
              subst hsB
              subst hsL
              have hc3 := (unhide HH).1
              have hf3 := free_blk (j := 3) (unhide HTOP)
              go_simp
              clear hc3 hf3
              have HTOP1 := hide (heap_setCell_same V q 3 _ _ (.slice aB (d + 1) kB) (unhide HTOP))
              have hlie1 : Lie [23, 38, 24, 5, 80, 82, 77, 76] 0 V (V.setCell ⟨q, 3, none⟩ (.slice aB (d + 1) kB)) := Lie.set _ (unhide HTOP) (by decide)
              have HL1 := hide hlie1
              have HBW1 := hide ((unhide HBW).setCell (p := ⟨q, 3, none⟩) (by show w.heap.size ≤ q; omega) (.slice aB (d + 1) kB))
              clear hlie1
              refine hK.out _ _ (fun _ => (by rename_i hh; cases hh)) ?_
              clear hK K
              (try simp only [Act.put, List.setIfInBounds_toArray, List.set_cons_zero, List.set_cons_succ])
              refine takeP (i := 19) (v := ?_) rfl (by kernel_rfl) (by kernel_rfl) (by kernel_rfl) (by kernel_rfl) (fun _ _ _ h => h) (Or.inl ⟨by rfl, ?_⟩) (fun hh => by cases hh) ?_
              rotate_left 1
              · intro W1 hSW; go_simp; all_goals (with_reducible rfl)
              (try simp only [Act.put, List.setIfInBounds_toArray, List.set_cons_zero, List.set_cons_succ])
              refine takeP (i := 20) (v := ?_) rfl (by kernel_rfl) (by kernel_rfl) (by kernel_rfl) (by kernel_rfl) (fun _ _ _ h => h) (Or.inl ⟨by rfl, ?_⟩) (fun hh => by cases hh) ?_
              rotate_left 1
              · intro W1 hSW; go_simp; all_goals (with_reducible rfl)
              (try simp only [Act.put, List.setIfInBounds_toArray, List.set_cons_zero, List.set_cons_succ])
              refine readyK (rs := [21]) (by kernel_rfl) (by simp) ?_
              refine consK rfl (fun K hK => ?_) nilK
              have hc4 : (V.setCell ⟨q, 3, none⟩ (.slice aB (d + 1) kB)).cell? ⟨q, 4, none⟩ = some Lv := cell_blk (unhide HTOP1) rfl
              have hf4 := free_blk (j := 4) (unhide HTOP1)
              go_simp
              clear hc4 hf4
              have HTOP2 := hide (heap_setCell_same (V.setCell ⟨q, 3, none⟩ (.slice aB (d + 1) kB)) q 4 _ _ (.slice aL (d + 1) kL) (unhide HTOP1))
              have hlie2 : Lie [23, 38, 24, 5, 80, 82, 77, 76] 0 V ((V.setCell ⟨q, 3, none⟩ (.slice aB (d + 1) kB)).setCell ⟨q, 4, none⟩ (.slice aL (d + 1) kL)) := (unhide HL1).trans (Lie.set _ (unhide HTOP1) (by decide))
              have HL2 := hide hlie2
              have HBW2 := hide ((unhide HBW1).setCell (p := ⟨q, 4, none⟩) (by show w.heap.size ≤ q; omega) (.slice aL (d + 1) kL))
              clear hlie2
              refine hK.out _ _ (fun _ => (by rename_i hh; cases hh)) ?_
              clear hK K
              (try simp only [Act.put, List.setIfInBounds_toArray, List.set_cons_zero, List.set_cons_succ])
              refine doneK (by kernel_rfl) ?_ _
              refine NoPanic.normal ?_
              have HMK2 : Hid (Mk ((V.setCell ⟨q, 3, none⟩ (.slice aB (d + 1) kB)).setCell ⟨q, 4, none⟩ (.slice aL (d + 1) kL)) q D B P (d + 1) (.slice aB (d + 1) kB) (.slice aL (d + 1) kL) (fun i => if i = d then die else Ds i)) := by
                refine ⟨unhide HTOP2, ?_, ?_, ((unhide HALL).lie ((unhide HL2).mono (us := [38, 24, 5, 80, 82]) (by simp) (Nat.zero_le _)) (by simp) (by simp) (by simp) (by simp) (by simp)).add ((unhide HDIE).lie ((unhide HL2).mono (us := [38, 24, 5, 80, 82]) (by simp) (Nat.zero_le _)) (by simp) (by simp) (by simp) (by simp) (by simp)) (unhide HQX) (unhide HOLDX)⟩
                · have h := (unhide HRB).lie (unhide HL2) (Nat.zero_le _) (by simp)
                  have e : (fun i => if i = d then Value.slice (some ⟨gB, 0, none⟩) B cB else Value.slice (some ⟨(Ds i).bs, 0, none⟩) B (Ds i).cb) = fun i => .slice (some ⟨((fun i => if i = d then die else Ds i) i).bs, 0, none⟩) B ((fun i => if i = d then die else Ds i) i).cb := by
                    funext i
                    by_cases e : i = d
                    · simp only [if_pos e, hdie]
                    · simp only [if_neg e]
                  rw [e] at h
                  exact h
                · have h := (unhide HRL).lie (unhide HL2) (Nat.zero_le _) (by simp)
                  have e : (fun i => if i = d then Value.slice (some ⟨gL, 0, none⟩) B cL else Value.slice (some ⟨(Ds i).ls, 0, none⟩) B (Ds i).cl) = fun i => .slice (some ⟨((fun i => if i = d then die else Ds i) i).ls, 0, none⟩) B ((fun i => if i = d then die else Ds i) i).cl := by
                    funext i
                    by_cases e : i = d
                    · simp only [if_pos e, hdie]
                    · simp only [if_neg e]
                  rw [e] at h
                  exact h
              have HFB2 : Hid (∀ i b, ((fun i => if i = d then die else Ds i) i).bd b = false) := fun i b => by
                by_cases e : i = d
                · simp only [if_pos e, hdie]
                · simp only [if_neg e]; exact unhide HFB i b
              have HNg2 := hide ((unhide HL2) _ _ _ (Nat.zero_le _) (by simp) (unhide HNg))
              clear hdie HTOP HALL HDIE HRB HRL HBW HH HTOP1 HL1 HBW1 HTOP2 HL2
              go_wp2_with fail
              go_roundw
              case rel => exact ⟨d + 1, _, _, _, by go_num, by omega, HMK2, HFB2, HNg2, HBW2⟩
              case measure => simp [intOf]; omega
            focus
              have hal : Below V.heap.size V (V.alloc (.cells #[.slice (some ⟨gL, 0, none⟩) B cL] 77)) := (Below.refl _ _).alloc (Nat.le_refl _) _
              have hnw := World.alloc_heap_new V (.cells #[.slice (some ⟨gL, 0, none⟩) B cL] 77)
              go_simp
              have hlie : Lie [75, 23, 38, 24, 5, 80, 82, 77, 76] 0 V (V.alloc (.cells #[.slice (some ⟨gL, 0, none⟩) B cL] 77)) := Lie.of_below hal
              replace HTOP := hide (hlie _ _ _ (Nat.zero_le _) (by simp) (unhide HTOP))
              replace HNg := hide (hlie _ _ _ (Nat.zero_le _) (by simp) (unhide HNg))
              replace HALL := hide ((unhide HALL).lie (hlie.mono (us := [38, 24, 5, 80, 82]) (by simp) (Nat.zero_le _)) (by simp) (by simp) (by simp) (by simp) (by simp))
              replace HDIE := hide ((unhide HDIE).lie (hlie.mono (us := [38, 24, 5, 80, 82]) (by simp) (Nat.zero_le _)) (by simp) (by simp) (by simp) (by simp) (by simp))
              replace HRB := hide ((unhide HRB).below hal)
              replace HRL := hide ((unhide HRL).below hal)
              replace HBW := hide ((unhide HBW).trans (hal.mono (unhide HBW).size))
              replace HH := hide (And.intro (below_cell hal (unhide HH).1 (block_lt_of_cell (unhide HH).1)) (below_cell hal (unhide HH).2 (block_lt_of_cell (unhide HH).2)))
              replace HT7 := hide ((unhide HT7).of (hal.block _ (unhide HT7).lt))
              have HT14 : Hid (RowC (V.alloc (.cells #[.slice (some ⟨gL, 0, none⟩) B cL] 77)) V.heap.size 77 1 (fun _ => .slice (some ⟨gL, 0, none⟩) B cL)) := ⟨_, hnw, fun j hj => by
                have : j = 0 := by omega
                subst this
                rfl⟩
              obtain ⟨t14, hnn⟩ : ∃ n, V.heap.size = n := ⟨_, rfl⟩
              rw [hnn] at HT14 ⊢
              clear hnn hnw hal hlie
              generalize V.alloc (.cells #[.slice (some ⟨gL, 0, none⟩) B cL] 77) = V' at HTOP HNg HALL HDIE HRB HRL HBW HH HT7 HT14 ⊢
              refine hK.out _ _ (fun _ => unhide HH) ?_
              clear hK K
              (try clear V)
              obtain ⟨V, hVV⟩ : ∃ W, W = V' := ⟨_, rfl⟩
              subst hVV
              (try simp only [Act.put, List.setIfInBounds_toArray, List.set_cons_zero, List.set_cons_succ])
              refine readyK (rs := [8]) (by kernel_rfl) (by simp) ?_
              refine consK rfl (fun K hK => ?_) nilK
              obtain ⟨v9, V9, hr9, hO9, hg9⟩ := run_append_sl V (q + 1) 72 72 76 Try.underlying72 infoBB Bv d _ (unhide HRB) t7 _ _ _ ((unhide HT7).cell (by omega)) (by omega) (lt_of_block (unhide HTOP))
              rw [if_pos (by rfl)]
              refine wp_append_run _ (.tmp 60) (.tmp 62) 72 72 rfl _ _ rfl rfl hr9 ?_
              clear hr9
              have hob9 : ∀ k, Bv.ownBlock = some k → q + 1 ≤ k ∧ ∃ cur, V.heap[k]? = some (.cells cur 76 (0, 0)) := fun k hk => (unhide HRB).ownBlock hk
              have hlie : Lie [75, 23, 38, 24, 5, 80, 82, 77] 0 V V9 := Lie.grown hg9 (fun k hk => by obtain ⟨_, cur, hc⟩ := hob9 k hk; exact ⟨cur, _, hc, by decide⟩)
              have hbx : Below w.heap.size V V9 := ⟨hg9.os, hg9.tape, hg9.output, hg9.size, fun k hk => hg9.block k (Nat.lt_of_lt_of_le hk (unhide HBW).size) (fun e => by have := (hob9 k e.symm).1; omega)⟩
              replace HTOP := hide (hlie _ _ _ (Nat.zero_le _) (by simp) (unhide HTOP))
              replace HNg := hide (hlie _ _ _ (Nat.zero_le _) (by simp) (unhide HNg))
              replace HALL := hide ((unhide HALL).lie (hlie.mono (us := [38, 24, 5, 80, 82]) (by simp) (Nat.zero_le _)) (by simp) (by simp) (by simp) (by simp) (by simp))
              replace HDIE := hide ((unhide HDIE).lie (hlie.mono (us := [38, 24, 5, 80, 82]) (by simp) (Nat.zero_le _)) (by simp) (by simp) (by simp) (by simp) (by simp))
              replace HRL := hide ((unhide HRL).lie hlie (Nat.zero_le _) (by simp))
              replace HRB := hide hO9
              replace HBW := hide ((unhide HBW).trans hbx)
              replace HH : Hid (V9.cell? ⟨q, 3, none⟩ = some Bv ∧ V9.cell? ⟨q, 4, none⟩ = some Lv) := ⟨cell_blk (unhide HTOP) rfl, cell_blk (unhide HTOP) rfl⟩
              replace HT14 := hide ((unhide HT14).lie hlie (Nat.zero_le _) (by simp))
              clear hob9 hlie hbx hO9 hg9
              refine hK.out _ _ (fun _ => unhide HH) ?_
              clear hK K
              (try clear V)
              obtain ⟨V, hVV⟩ : ∃ W, W = V9 := ⟨_, rfl⟩
              subst hVV
              obtain ⟨vB, hnv⟩ : ∃ x, x = v9 := ⟨_, rfl⟩
              subst hnv
              (try simp only [Act.put, List.setIfInBounds_toArray, List.set_cons_zero, List.set_cons_succ])
              refine readyK (rs := [15]) (by kernel_rfl) (by simp) ?_
              refine consK rfl (fun K hK => ?_) nilK
              obtain ⟨v9, V9, hr9, hO9, hg9⟩ := run_append_sl V (q + 1) 73 73 77 Try.underlying73 infoL3 Lv d _ (unhide HRL) t14 _ _ _ ((unhide HT14).cell (by omega)) (by omega) (lt_of_block (unhide HTOP))
              rw [if_pos (by rfl)]
              refine wp_append_run _ (.tmp 67) (.tmp 69) 73 73 rfl _ _ rfl rfl hr9 ?_
              clear hr9
              have hob9 : ∀ k, Lv.ownBlock = some k → q + 1 ≤ k ∧ ∃ cur, V.heap[k]? = some (.cells cur 77 (0, 0)) := fun k hk => (unhide HRL).ownBlock hk
              have hlie : Lie [75, 23, 38, 24, 5, 80, 82, 76] 0 V V9 := Lie.grown hg9 (fun k hk => by obtain ⟨_, cur, hc⟩ := hob9 k hk; exact ⟨cur, _, hc, by decide⟩)
              have hbx : Below w.heap.size V V9 := ⟨hg9.os, hg9.tape, hg9.output, hg9.size, fun k hk => hg9.block k (Nat.lt_of_lt_of_le hk (unhide HBW).size) (fun e => by have := (hob9 k e.symm).1; omega)⟩
              replace HTOP := hide (hlie _ _ _ (Nat.zero_le _) (by simp) (unhide HTOP))
              replace HNg := hide (hlie _ _ _ (Nat.zero_le _) (by simp) (unhide HNg))
              replace HALL := hide ((unhide HALL).lie (hlie.mono (us := [38, 24, 5, 80, 82]) (by simp) (Nat.zero_le _)) (by simp) (by simp) (by simp) (by simp) (by simp))
              replace HDIE := hide ((unhide HDIE).lie (hlie.mono (us := [38, 24, 5, 80, 82]) (by simp) (Nat.zero_le _)) (by simp) (by simp) (by simp) (by simp) (by simp))
              replace HRB := hide ((unhide HRB).lie hlie (Nat.zero_le _) (by simp))
              replace HRL := hide hO9
              replace HBW := hide ((unhide HBW).trans hbx)
              replace HH : Hid (V9.cell? ⟨q, 3, none⟩ = some Bv ∧ V9.cell? ⟨q, 4, none⟩ = some Lv) := ⟨cell_blk (unhide HTOP) rfl, cell_blk (unhide HTOP) rfl⟩
              clear hob9 hlie hbx hO9 hg9
              refine hK.out _ _ (fun _ => unhide HH) ?_
              clear hK K
              (try clear V)
              obtain ⟨V, hVV⟩ : ∃ W, W = V9 := ⟨_, rfl⟩
              subst hVV
              obtain ⟨vL, hnv⟩ : ∃ x, x = v9 := ⟨_, rfl⟩
              subst hnv
              (try simp only [Act.put, List.setIfInBounds_toArray, List.set_cons_zero, List.set_cons_succ])
              refine takeP (i := 16) (v := ?_) rfl (by kernel_rfl) (by kernel_rfl) (by kernel_rfl) (by kernel_rfl) (fun _ _ _ h => h) (Or.inl ⟨by rfl, ?_⟩) (fun _ => unhide HH) ?_
              rotate_left 1
              · intro W1 hSW; go_simp; all_goals (with_reducible rfl)
              (try simp only [Act.put, List.setIfInBounds_toArray, List.set_cons_zero, List.set_cons_succ])
              refine takeP (i := 17) (v := ?_) rfl (by kernel_rfl) (by kernel_rfl) (by kernel_rfl) (by kernel_rfl) (fun _ _ _ h => h) (Or.inl ⟨by rfl, ?_⟩) (fun _ => unhide HH) ?_
              rotate_left 1
              · intro W1 hSW; go_simp; all_goals (with_reducible rfl)
              (try simp only [Act.put, List.setIfInBounds_toArray, List.set_cons_zero, List.set_cons_succ])
              refine readyK (rs := [18]) (by kernel_rfl) (by simp) ?_
              refine consK rfl (fun K hK => ?_) nilK
              obtain ⟨aB, kB, hsB⟩ := (unhide HRB).shape
              obtain ⟨aL, kL, hsL⟩ := (unhide HRL).shape
              subst hsB
              subst hsL
              have hc3 := (unhide HH).1
              have hf3 := free_blk (j := 3) (unhide HTOP)
              go_simp
              clear hc3 hf3
              have HTOP1 := hide (heap_setCell_same V q 3 _ _ (.slice aB (d + 1) kB) (unhide HTOP))
              have hlie1 : Lie [23, 38, 24, 5, 80, 82, 77, 76] 0 V (V.setCell ⟨q, 3, none⟩ (.slice aB (d + 1) kB)) := Lie.set _ (unhide HTOP) (by decide)
              have HL1 := hide hlie1
              have HBW1 := hide ((unhide HBW).setCell (p := ⟨q, 3, none⟩) (by show w.heap.size ≤ q; omega) (.slice aB (d + 1) kB))
              clear hlie1
              refine hK.out _ _ (fun _ => (by rename_i hh; cases hh)) ?_
              clear hK K
              (try simp only [Act.put, List.setIfInBounds_toArray, List.set_cons_zero, List.set_cons_succ])
              refine takeP (i := 19) (v := ?_) rfl (by kernel_rfl) (by kernel_rfl) (by kernel_rfl) (by kernel_rfl) (fun _ _ _ h => h) (Or.inl ⟨by rfl, ?_⟩) (fun hh => by cases hh) ?_
              rotate_left 1
              · intro W1 hSW; go_simp; all_goals (with_reducible rfl)
              (try simp only [Act.put, List.setIfInBounds_toArray, List.set_cons_zero, List.set_cons_succ])
              refine takeP (i := 20) (v := ?_) rfl (by kernel_rfl) (by kernel_rfl) (by kernel_rfl) (by kernel_rfl) (fun _ _ _ h => h) (Or.inl ⟨by rfl, ?_⟩) (fun hh => by cases hh) ?_
              rotate_left 1
              · intro W1 hSW; go_simp; all_goals (with_reducible rfl)
              (try simp only [Act.put, List.setIfInBounds_toArray, List.set_cons_zero, List.set_cons_succ])
              refine readyK (rs := [21]) (by kernel_rfl) (by simp) ?_
              refine consK rfl (fun K hK => ?_) nilK
              have hc4 : (V.setCell ⟨q, 3, none⟩ (.slice aB (d + 1) kB)).cell? ⟨q, 4, none⟩ = some Lv := cell_blk (unhide HTOP1) rfl
              have hf4 := free_blk (j := 4) (unhide HTOP1)
              go_simp
              clear hc4 hf4
              have HTOP2 := hide (heap_setCell_same (V.setCell ⟨q, 3, none⟩ (.slice aB (d + 1) kB)) q 4 _ _ (.slice aL (d + 1) kL) (unhide HTOP1))
              have hlie2 : Lie [23, 38, 24, 5, 80, 82, 77, 76] 0 V ((V.setCell ⟨q, 3, none⟩ (.slice aB (d + 1) kB)).setCell ⟨q, 4, none⟩ (.slice aL (d + 1) kL)) := (unhide HL1).trans (Lie.set _ (unhide HTOP1) (by decide))
              have HL2 := hide hlie2
              have HBW2 := hide ((unhide HBW1).setCell (p := ⟨q, 4, none⟩) (by show w.heap.size ≤ q; omega) (.slice aL (d + 1) kL))
              clear hlie2
              refine hK.out _ _ (fun _ => (by rename_i hh; cases hh)) ?_
              clear hK K
              (try simp only [Act.put, List.setIfInBounds_toArray, List.set_cons_zero, List.set_cons_succ])
              refine doneK (by kernel_rfl) ?_ _
              refine NoPanic.normal ?_
              have HMK2 : Hid (Mk ((V.setCell ⟨q, 3, none⟩ (.slice aB (d + 1) kB)).setCell ⟨q, 4, none⟩ (.slice aL (d + 1) kL)) q D B P (d + 1) (.slice aB (d + 1) kB) (.slice aL (d + 1) kL) (fun i => if i = d then die else Ds i)) := by
                refine ⟨unhide HTOP2, ?_, ?_, ((unhide HALL).lie ((unhide HL2).mono (us := [38, 24, 5, 80, 82]) (by simp) (Nat.zero_le _)) (by simp) (by simp) (by simp) (by simp) (by simp)).add ((unhide HDIE).lie ((unhide HL2).mono (us := [38, 24, 5, 80, 82]) (by simp) (Nat.zero_le _)) (by simp) (by simp) (by simp) (by simp) (by simp)) (unhide HQX) (unhide HOLDX)⟩
                · have h := (unhide HRB).lie (unhide HL2) (Nat.zero_le _) (by simp)
                  have e : (fun i => if i = d then Value.slice (some ⟨gB, 0, none⟩) B cB else Value.slice (some ⟨(Ds i).bs, 0, none⟩) B (Ds i).cb) = fun i => .slice (some ⟨((fun i => if i = d then die else Ds i) i).bs, 0, none⟩) B ((fun i => if i = d then die else Ds i) i).cb := by
                    funext i
                    by_cases e : i = d
                    · simp only [if_pos e, hdie]
                    · simp only [if_neg e]
                  rw [e] at h
                  exact h
                · have h := (unhide HRL).lie (unhide HL2) (Nat.zero_le _) (by simp)
                  have e : (fun i => if i = d then Value.slice (some ⟨gL, 0, none⟩) B cL else Value.slice (some ⟨(Ds i).ls, 0, none⟩) B (Ds i).cl) = fun i => .slice (some ⟨((fun i => if i = d then die else Ds i) i).ls, 0, none⟩) B ((fun i => if i = d then die else Ds i) i).cl := by
                    funext i
                    by_cases e : i = d
                    · simp only [if_pos e, hdie]
                    · simp only [if_neg e]
                  rw [e] at h
                  exact h
              have HFB2 : Hid (∀ i b, ((fun i => if i = d then die else Ds i) i).bd b = false) := fun i b => by
                by_cases e : i = d
                · simp only [if_pos e, hdie]
                · simp only [if_neg e]; exact unhide HFB i b
              have HNg2 := hide ((unhide HL2) _ _ _ (Nat.zero_le _) (by simp) (unhide HNg))
              clear hdie HTOP HALL HDIE HRB HRL HBW HH HTOP1 HL1 HBW1 HTOP2 HL2
              go_wp2_with fail
              go_roundw
              case rel => exact ⟨d + 1, _, _, _, by go_num, by omega, HMK2, HFB2, HNg2, HBW2⟩
              case measure => simp [intOf]; omega
          focus
            have hal : Below V.heap.size V (V.alloc (.cells #[.slice (some ⟨gL, 0, none⟩) B cL] 77)) := (Below.refl _ _).alloc (Nat.le_refl _) _
            have hnw := World.alloc_heap_new V (.cells #[.slice (some ⟨gL, 0, none⟩) B cL] 77)
            go_simp
            have hlie : Lie [75, 23, 38, 24, 5, 80, 82, 77, 76] 0 V (V.alloc (.cells #[.slice (some ⟨gL, 0, none⟩) B cL] 77)) := Lie.of_below hal
            replace HTOP := hide (hlie _ _ _ (Nat.zero_le _) (by simp) (unhide HTOP))
            replace HNg := hide (hlie _ _ _ (Nat.zero_le _) (by simp) (unhide HNg))
            replace HALL := hide ((unhide HALL).lie (hlie.mono (us := [38, 24, 5, 80, 82]) (by simp) (Nat.zero_le _)) (by simp) (by simp) (by simp) (by simp) (by simp))
            replace HDIE := hide ((unhide HDIE).lie (hlie.mono (us := [38, 24, 5, 80, 82]) (by simp) (Nat.zero_le _)) (by simp) (by simp) (by simp) (by simp) (by simp))
            replace HRB := hide ((unhide HRB).below hal)
            replace HRL := hide ((unhide HRL).below hal)
            replace HBW := hide ((unhide HBW).trans (hal.mono (unhide HBW).size))
            replace HH := hide (And.intro (below_cell hal (unhide HH).1 (block_lt_of_cell (unhide HH).1)) (below_cell hal (unhide HH).2 (block_lt_of_cell (unhide HH).2)))
            have HT14 : Hid (RowC (V.alloc (.cells #[.slice (some ⟨gL, 0, none⟩) B cL] 77)) V.heap.size 77 1 (fun _ => .slice (some ⟨gL, 0, none⟩) B cL)) := ⟨_, hnw, fun j hj => by
              have : j = 0 := by omega
              subst this
              rfl⟩
            obtain ⟨t14, hnn⟩ : ∃ n, V.heap.size = n := ⟨_, rfl⟩
            rw [hnn] at HT14 ⊢
            clear hnn hnw hal hlie
            generalize V.alloc (.cells #[.slice (some ⟨gL, 0, none⟩) B cL] 77) = V' at HTOP HNg HALL HDIE HRB HRL HBW HH HT14 ⊢
            refine hK.out _ _ (fun _ => unhide HH) ?_
            clear hK K
            (try clear V)
            obtain ⟨V, hVV⟩ : ∃ W, W = V' := ⟨_, rfl⟩
            subst hVV
            (try simp only [Act.put, List.setIfInBounds_toArray, List.set_cons_zero, List.set_cons_succ])
            refine readyK (rs := [7]) (by kernel_rfl) (by simp) ?_
            refine consK rfl (fun K hK => ?_) nilK
            have hal : Below V.heap.size V (V.alloc (.cells #[.slice (some ⟨gB, 0, none⟩) B cB] 76)) := (Below.refl _ _).alloc (Nat.le_refl _) _
            have hnw := World.alloc_heap_new V (.cells #[.slice (some ⟨gB, 0, none⟩) B cB] 76)
            go_simp
            have hlie : Lie [75, 23, 38, 24, 5, 80, 82, 77, 76] 0 V (V.alloc (.cells #[.slice (some ⟨gB, 0, none⟩) B cB] 76)) := Lie.of_below hal
            replace HTOP := hide (hlie _ _ _ (Nat.zero_le _) (by simp) (unhide HTOP))
            replace HNg := hide (hlie _ _ _ (Nat.zero_le _) (by simp) (unhide HNg))
            replace HALL := hide ((unhide HALL).lie (hlie.mono (us := [38, 24, 5, 80, 82]) (by simp) (Nat.zero_le _)) (by simp) (by simp) (by simp) (by simp) (by simp))
            replace HDIE := hide ((unhide HDIE).lie (hlie.mono (us := [38, 24, 5, 80, 82]) (by simp) (Nat.zero_le _)) (by simp) (by simp) (by simp) (by simp) (by simp))
            replace HRB := hide ((unhide HRB).below hal)
            replace HRL := hide ((unhide HRL).below hal)
            replace HBW := hide ((unhide HBW).trans (hal.mono (unhide HBW).size))
            replace HH := hide (And.intro (below_cell hal (unhide HH).1 (block_lt_of_cell (unhide HH).1)) (below_cell hal (unhide HH).2 (block_lt_of_cell (unhide HH).2)))
            replace HT14 := hide ((unhide HT14).of (hal.block _ (unhide HT14).lt))
            have HT7 : Hid (RowC (V.alloc (.cells #[.slice (some ⟨gB, 0, none⟩) B cB] 76)) V.heap.size 76 1 (fun _ => .slice (some ⟨gB, 0, none⟩) B cB)) := ⟨_, hnw, fun j hj => by
              have : j = 0 := by omega
              subst this
              rfl⟩
            obtain ⟨t7, hnn⟩ : ∃ n, V.heap.size = n := ⟨_, rfl⟩
            rw [hnn] at HT7 ⊢
            clear hnn hnw hal hlie
            generalize V.alloc (.cells #[.slice (some ⟨gB, 0, none⟩) B cB] 76) = V' at HTOP HNg HALL HDIE HRB HRL HBW HH HT14 HT7 ⊢
            refine hK.out _ _ (fun _ => unhide HH) ?_
            clear hK K
            (try clear V)
            obtain ⟨V, hVV⟩ : ∃ W, W = V' := ⟨_, rfl⟩
            subst hVV
            (try simp only [Act.put, List.setIfInBounds_toArray, List.set_cons_zero, List.set_cons_succ])
            refine readyK (rs := [8]) (by kernel_rfl) (by simp) ?_
            refine consK rfl (fun K hK => ?_) nilK
            obtain ⟨v9, V9, hr9, hO9, hg9⟩ := run_append_sl V (q + 1) 72 72 76 Try.underlying72 infoBB Bv d _ (unhide HRB) t7 _ _ _ ((unhide HT7).cell (by omega)) (by omega) (lt_of_block (unhide HTOP))
            rw [if_pos (by rfl)]
            refine wp_append_run _ (.tmp 60) (.tmp 62) 72 72 rfl _ _ rfl rfl hr9 ?_
            clear hr9
            have hob9 : ∀ k, Bv.ownBlock = some k → q + 1 ≤ k ∧ ∃ cur, V.heap[k]? = some (.cells cur 76 (0, 0)) := fun k hk => (unhide HRB).ownBlock hk
            have hlie : Lie [75, 23, 38, 24, 5, 80, 82, 77] 0 V V9 := Lie.grown hg9 (fun k hk => by obtain ⟨_, cur, hc⟩ := hob9 k hk; exact ⟨cur, _, hc, by decide⟩)
            have hbx : Below w.heap.size V V9 := ⟨hg9.os, hg9.tape, hg9.output, hg9.size, fun k hk => hg9.block k (Nat.lt_of_lt_of_le hk (unhide HBW).size) (fun e => by have := (hob9 k e.symm).1; omega)⟩
            replace HTOP := hide (hlie _ _ _ (Nat.zero_le _) (by simp) (unhide HTOP))
            replace HNg := hide (hlie _ _ _ (Nat.zero_le _) (by simp) (unhide HNg))
            replace HALL := hide ((unhide HALL).lie (hlie.mono (us := [38, 24, 5, 80, 82]) (by simp) (Nat.zero_le _)) (by simp) (by simp) (by simp) (by simp) (by simp))
            replace HDIE := hide ((unhide HDIE).lie (hlie.mono (us := [38, 24, 5, 80, 82]) (by simp) (Nat.zero_le _)) (by simp) (by simp) (by simp) (by simp) (by simp))
            replace HRL := hide ((unhide HRL).lie hlie (Nat.zero_le _) (by simp))
            replace HRB := hide hO9
            replace HBW := hide ((unhide HBW).trans hbx)
            replace HH : Hid (V9.cell? ⟨q, 3, none⟩ = some Bv ∧ V9.cell? ⟨q, 4, none⟩ = some Lv) := ⟨cell_blk (unhide HTOP) rfl, cell_blk (unhide HTOP) rfl⟩
            replace HT14 := hide ((unhide HT14).lie hlie (Nat.zero_le _) (by simp))
            clear hob9 hlie hbx hO9 hg9
            refine hK.out _ _ (fun _ => unhide HH) ?_
            clear hK K
            (try clear V)
            obtain ⟨V, hVV⟩ : ∃ W, W = V9 := ⟨_, rfl⟩
            subst hVV
            obtain ⟨vB, hnv⟩ : ∃ x, x = v9 := ⟨_, rfl⟩
            subst hnv
            (try simp only [Act.put, List.setIfInBounds_toArray, List.set_cons_zero, List.set_cons_succ])
            refine readyK (rs := [15]) (by kernel_rfl) (by simp) ?_
            refine consK rfl (fun K hK => ?_) nilK
            obtain ⟨v9, V9, hr9, hO9, hg9⟩ := run_append_sl V (q + 1) 73 73 77 Try.underlying73 infoL3 Lv d _ (unhide HRL) t14 _ _ _ ((unhide HT14).cell (by omega)) (by omega) (lt_of_block (unhide HTOP))
            rw [if_pos (by rfl)]
            refine wp_append_run _ (.tmp 67) (.tmp 69) 73 73 rfl _ _ rfl rfl hr9 ?_
            clear hr9
            have hob9 : ∀ k, Lv.ownBlock = some k → q + 1 ≤ k ∧ ∃ cur, V.heap[k]? = some (.cells cur 77 (0, 0)) := fun k hk => (unhide HRL).ownBlock hk
            have hlie : Lie [75, 23, 38, 24, 5, 80, 82, 76] 0 V V9 := Lie.grown hg9 (fun k hk => by obtain ⟨_, cur, hc⟩ := hob9 k hk; exact ⟨cur, _, hc, by decide⟩)
            have hbx : Below w.heap.size V V9 := ⟨hg9.os, hg9.tape, hg9.output, hg9.size, fun k hk => hg9.block k (Nat.lt_of_lt_of_le hk (unhide HBW).size) (fun e => by have := (hob9 k e.symm).1; omega)⟩
            replace HTOP := hide (hlie _ _ _ (Nat.zero_le _) (by simp) (unhide HTOP))
            replace HNg := hide (hlie _ _ _ (Nat.zero_le _) (by simp) (unhide HNg))
            replace HALL := hide ((unhide HALL).lie (hlie.mono (us := [38, 24, 5, 80, 82]) (by simp) (Nat.zero_le _)) (by simp) (by simp) (by simp) (by simp) (by simp))
            replace HDIE := hide ((unhide HDIE).lie (hlie.mono (us := [38, 24, 5, 80, 82]) (by simp) (Nat.zero_le _)) (by simp) (by simp) (by simp) (by simp) (by simp))
            replace HRB := hide ((unhide HRB).lie hlie (Nat.zero_le _) (by simp))
            replace HRL := hide hO9
            replace HBW := hide ((unhide HBW).trans hbx)
            replace HH : Hid (V9.cell? ⟨q, 3, none⟩ = some Bv ∧ V9.cell? ⟨q, 4, none⟩ = some Lv) := ⟨cell_blk (unhide HTOP) rfl, cell_blk (unhide HTOP) rfl⟩
            clear hob9 hlie hbx hO9 hg9
            refine hK.out _ _ (fun _ => unhide HH) ?_
            clear hK K
            (try clear V)
            obtain ⟨V, hVV⟩ : ∃ W, W = V9 := ⟨_, rfl⟩
            subst hVV
            obtain ⟨vL, hnv⟩ : ∃ x, x = v9 := ⟨_, rfl⟩
            subst hnv
            (try simp only [Act.put, List.setIfInBounds_toArray, List.set_cons_zero, List.set_cons_succ])
            refine takeP (i := 16) (v := ?_) rfl (by kernel_rfl) (by kernel_rfl) (by kernel_rfl) (by kernel_rfl) (fun _ _ _ h => h) (Or.inl ⟨by rfl, ?_⟩) (fun _ => unhide HH) ?_
            rotate_left 1
            · intro W1 hSW; go_simp; all_goals (with_reducible rfl)
            (try simp only [Act.put, List.setIfInBounds_toArray, List.set_cons_zero, List.set_cons_succ])
            refine takeP (i := 17) (v := ?_) rfl (by kernel_rfl) (by kernel_rfl) (by kernel_rfl) (by kernel_rfl) (fun _ _ _ h => h) (Or.inl ⟨by rfl, ?_⟩) (fun _ => unhide HH) ?_
            rotate_left 1
            · intro W1 hSW; go_simp; all_goals (with_reducible rfl)
            (try simp only [Act.put, List.setIfInBounds_toArray, List.set_cons_zero, List.set_cons_succ])
            refine readyK (rs := [18]) (by kernel_rfl) (by simp) ?_
            refine consK rfl (fun K hK => ?_) nilK
            obtain ⟨aB, kB, hsB⟩ := (unhide HRB).shape
            obtain ⟨aL, kL, hsL⟩ := (unhide HRL).shape
            subst hsB
            subst hsL
            have hc3 := (unhide HH).1
            have hf3 := free_blk (j := 3) (unhide HTOP)
            go_simp
            clear hc3 hf3
            have HTOP1 := hide (heap_setCell_same V q 3 _ _ (.slice aB (d + 1) kB) (unhide HTOP))
            have hlie1 : Lie [23, 38, 24, 5, 80, 82, 77, 76] 0 V (V.setCell ⟨q, 3, none⟩ (.slice aB (d + 1) kB)) := Lie.set _ (unhide HTOP) (by decide)
            have HL1 := hide hlie1
            have HBW1 := hide ((unhide HBW).setCell (p := ⟨q, 3, none⟩) (by show w.heap.size ≤ q; omega) (.slice aB (d + 1) kB))
            clear hlie1
            refine hK.out _ _ (fun _ => (by rename_i hh; cases hh)) ?_
            clear hK K
            (try simp only [Act.put, List.setIfInBounds_toArray, List.set_cons_zero, List.set_cons_succ])
            refine takeP (i := 19) (v := ?_) rfl (by kernel_rfl) (by kernel_rfl) (by kernel_rfl) (by kernel_rfl) (fun _ _ _ h => h) (Or.inl ⟨by rfl, ?_⟩) (fun hh => by cases hh) ?_
            rotate_left 1
            · intro W1 hSW; go_simp; all_goals (with_reducible rfl)
            (try simp only [Act.put, List.setIfInBounds_toArray, List.set_cons_zero, List.set_cons_succ])
            refine takeP (i := 20) (v := ?_) rfl (by kernel_rfl) (by kernel_rfl) (by kernel_rfl) (by kernel_rfl) (fun _ _ _ h => h) (Or.inl ⟨by rfl, ?_⟩) (fun hh => by cases hh) ?_
            rotate_left 1
            · intro W1 hSW; go_simp; all_goals (with_reducible rfl)
            (try simp only [Act.put, List.setIfInBounds_toArray, List.set_cons_zero, List.set_cons_succ])
            refine readyK (rs := [21]) (by kernel_rfl) (by simp) ?_
            refine consK rfl (fun K hK => ?_) nilK
            have hc4 : (V.setCell ⟨q, 3, none⟩ (.slice aB (d + 1) kB)).cell? ⟨q, 4, none⟩ = some Lv := cell_blk (unhide HTOP1) rfl
            have hf4 := free_blk (j := 4) (unhide HTOP1)
            go_simp
            clear hc4 hf4
            have HTOP2 := hide (heap_setCell_same (V.setCell ⟨q, 3, none⟩ (.slice aB (d + 1) kB)) q 4 _ _ (.slice aL (d + 1) kL) (unhide HTOP1))
            have hlie2 : Lie [23, 38, 24, 5, 80, 82, 77, 76] 0 V ((V.setCell ⟨q, 3, none⟩ (.slice aB (d + 1) kB)).setCell ⟨q, 4, none⟩ (.slice aL (d + 1) kL)) := (unhide HL1).trans (Lie.set _ (unhide HTOP1) (by decide))
            have HL2 := hide hlie2
            have HBW2 := hide ((unhide HBW1).setCell (p := ⟨q, 4, none⟩) (by show w.heap.size ≤ q; omega) (.slice aL (d + 1) kL))
            clear hlie2
            refine hK.out _ _ (fun _ => (by rename_i hh; cases hh)) ?_
            clear hK K
            (try simp only [Act.put, List.setIfInBounds_toArray, List.set_cons_zero, List.set_cons_succ])
            refine doneK (by kernel_rfl) ?_ _
            refine NoPanic.normal ?_
            have HMK2 : Hid (Mk ((V.setCell ⟨q, 3, none⟩ (.slice aB (d + 1) kB)).setCell ⟨q, 4, none⟩ (.slice aL (d + 1) kL)) q D B P (d + 1) (.slice aB (d + 1) kB) (.slice aL (d + 1) kL) (fun i => if i = d then die else Ds i)) := by
              refine ⟨unhide HTOP2, ?_, ?_, ((unhide HALL).lie ((unhide HL2).mono (us := [38, 24, 5, 80, 82]) (by simp) (Nat.zero_le _)) (by simp) (by simp) (by simp) (by simp) (by simp)).add ((unhide HDIE).lie ((unhide HL2).mono (us := [38, 24, 5, 80, 82]) (by simp) (Nat.zero_le _)) (by simp) (by simp) (by simp) (by simp) (by simp)) (unhide HQX) (unhide HOLDX)⟩
              · have h := (unhide HRB).lie (unhide HL2) (Nat.zero_le _) (by simp)
                have e : (fun i => if i = d then Value.slice (some ⟨gB, 0, none⟩) B cB else Value.slice (some ⟨(Ds i).bs, 0, none⟩) B (Ds i).cb) = fun i => .slice (some ⟨((fun i => if i = d then die else Ds i) i).bs, 0, none⟩) B ((fun i => if i = d then die else Ds i) i).cb := by
                  funext i
                  by_cases e : i = d
                  · simp only [if_pos e, hdie]
                  · simp only [if_neg e]
                rw [e] at h
                exact h
              · have h := (unhide HRL).lie (unhide HL2) (Nat.zero_le _) (by simp)
                have e : (fun i => if i = d then Value.slice (some ⟨gL, 0, none⟩) B cL else Value.slice (some ⟨(Ds i).ls, 0, none⟩) B (Ds i).cl) = fun i => .slice (some ⟨((fun i => if i = d then die else Ds i) i).ls, 0, none⟩) B ((fun i => if i = d then die else Ds i) i).cl := by
                  funext i
                  by_cases e : i = d
                  · simp only [if_pos e, hdie]
                  · simp only [if_neg e]
                rw [e] at h
                exact h
            have HFB2 : Hid (∀ i b, ((fun i => if i = d then die else Ds i) i).bd b = false) := fun i b => by
              by_cases e : i = d
              · simp only [if_pos e, hdie]
              · simp only [if_neg e]; exact unhide HFB i b
            have HNg2 := hide ((unhide HL2) _ _ _ (Nat.zero_le _) (by simp) (unhide HNg))
            clear hdie HTOP HALL HDIE HRB HRL HBW HH HTOP1 HL1 HBW1 HTOP2 HL2
            go_wp2_with fail
            go_roundw
            case rel => exact ⟨d + 1, _, _, _, by go_num, by omega, HMK2, HFB2, HNg2, HBW2⟩
            case measure => simp [intOf]; omega
    · have hdd : d = D := by omega
      subst hdd
      obtain ⟨L, hLn, hRA⟩ := (unhide HMK).ra (m := w.heap.size) (unhide HFB) hD hB hP (by omega) (Nat.le_of_lt hq0)
      have HRA := hide hRA
      subst hLn
      go_wp2_with fail
      clear g0 hRA HFB HN HMK
      have HBr := HB
      clear HB
      have hll1 : (ll : Int) ≤ 9223372036854775807 := by unfold maxLen at hc2; omega
      go_loopw [13] (fun p wr => ∃ i : Nat, p = .int .i64 i ∧ i ≤ ll ∧ Hid (RA w.heap.size wr L (blank d B P (badOf (l.take i)))) ∧ Hid (Below w.heap.size w wr) ∧ Hid (okB d B (l.take i))) (fun p _ => ll - (intOf p).toNat)
      case atStart => exact ⟨0, rfl, by omega, by rw [List.take_zero]; exact HRA, HBr, fun p hp => by simp at hp⟩
      case round =>
        clear HRA HBr
        obtain ⟨i, rfl, hi, HN, HBr, HOK⟩ := hrel
        by_cases hlt : i < ll
        · have hi1 : (i : Int) < (ll : Int) := by omega
          have hlne : l ≠ [] := fun e => by have := unhide HLL; rw [e] at this; simp at this; omega
          obtain ⟨o, hao, hcell⟩ := unhide HROW hlne
          subst hao
          obtain ⟨q1, q2⟩ := hcell i (by rw [unhide HLL]; exact hlt)
          have hgl := unhide HLT hlne
          have r1 := below_cell (unhide HBr) q1 hgl
          have r2 := below_cell (unhide HBr) q2 hgl
          have HSO := hide (okB_snoc (D := d) (B := B) (l := l) (i := i) (by rw [unhide HLL]; exact hlt))
          have HSB : Hid (∀ d b, badOf (l.take (i + 1)) d b = if ((d : Int), (b : Int)) = l.getD i (0, 0) then true else badOf (l.take i) d b) := fun d b => badOf_snoc (by rw [unhide HLL]; exact hlt) d b
          obtain ⟨⟨x, y⟩, hxy⟩ : ∃ z, l.getD i (0, 0) = z := ⟨_, rfl⟩
          rw [hxy] at r1 r2 HSO HSB
          simp only at r1 r2 HSO
          have HXY := hide hxy
          have HR1 := hide r1
          have HR2 := hide r2
          clear hxy q1 q2 hcell hlne r1 r2
          go_wp2_with fail
          refine wp_region_noPanic ?_
          refine wp_region_held_drew (S := fun W => W.cell? ⟨gv, o + i * 2, none⟩ = some (.int .i64 x) ∧ W.cell? ⟨gv, o + i * 2 + 1, none⟩ = some (.int .i64 y)) (by kernel_rfl) ?_ (fun hHeld => ?_)
          · exact ⟨unhide HR1, unhide HR2⟩
          have HH := hide hHeld
          clear hHeld
          refine takeL (i := 0) (v := ?_) rfl (by kernel_rfl) (by kernel_rfl) (by kernel_rfl) (fun _ _ _ h => h) (Or.inl ⟨by rfl, ?_⟩) (unhide HH) ?_
          rotate_left 1
          · intro W ⟨s1, s2⟩; go_simp; all_goals (with_reducible rfl)
          (try simp only [Act.put, List.setIfInBounds_toArray, List.set_cons_zero, List.set_cons_succ])
          refine takeL (i := 1) (v := ?_) rfl (by kernel_rfl) (by kernel_rfl) (by kernel_rfl) (fun _ _ _ h => h) (Or.inl ⟨by rfl, ?_⟩) (unhide HH) ?_
          rotate_left 1
          · intro W ⟨s1, s2⟩; go_simp; all_goals (with_reducible rfl)
          (try simp only [Act.put, List.setIfInBounds_toArray, List.set_cons_zero, List.set_cons_succ])
          refine takeL (i := 2) (v := ?_) rfl (by kernel_rfl) (by kernel_rfl) (by kernel_rfl) (fun _ _ _ h => h) (Or.inl ⟨by rfl, ?_⟩) (unhide HH) ?_
          rotate_left 1
          · intro W ⟨s1, s2⟩; go_simp; all_goals (with_reducible rfl)
          (try simp only [Act.put, List.setIfInBounds_toArray, List.set_cons_zero, List.set_cons_succ])
          refine takeL (i := 3) (v := ?_) rfl (by kernel_rfl) (by kernel_rfl) (by kernel_rfl) (fun _ _ _ h => h) (Or.inl ⟨by rfl, ?_⟩) (unhide HH) ?_
          rotate_left 1
          · intro W ⟨s1, s2⟩; go_simp; all_goals (with_reducible rfl)
          (try simp only [Act.put, List.setIfInBounds_toArray, List.set_cons_zero, List.set_cons_succ])
          refine takeL (i := 4) (v := ?_) rfl (by kernel_rfl) (by kernel_rfl) (by kernel_rfl) (fun _ _ _ h => h) (Or.inl ⟨by rfl, ?_⟩) (unhide HH) ?_
          rotate_left 1
          · intro W ⟨s1, s2⟩; go_simp; all_goals (with_reducible rfl)
          (try simp only [Act.put, List.setIfInBounds_toArray, List.set_cons_zero, List.set_cons_succ])
          refine takeL (i := 5) (v := ?_) rfl (by kernel_rfl) (by kernel_rfl) (by kernel_rfl) (fun _ _ _ h => h) (Or.inl ⟨by rfl, ?_⟩) (unhide HH) ?_
          rotate_left 1
          · intro W ⟨s1, s2⟩; go_simp; all_goals (with_reducible rfl)
          (try simp only [Act.put, List.setIfInBounds_toArray, List.set_cons_zero, List.set_cons_succ])
          refine takeL (i := 6) (v := ?_) rfl (by kernel_rfl) (by kernel_rfl) (by kernel_rfl) (fun _ _ _ h => h) (Or.inl ⟨by rfl, ?_⟩) (unhide HH) ?_
          rotate_left 1
          · intro W ⟨s1, s2⟩; go_simp; all_goals (with_reducible rfl)
          (try simp only [Act.put, List.setIfInBounds_toArray, List.set_cons_zero, List.set_cons_succ])
          refine takeL (i := 7) (v := ?_) rfl (by kernel_rfl) (by kernel_rfl) (by kernel_rfl) (fun _ _ _ h => h) (Or.inl ⟨by rfl, ?_⟩) (unhide HH) ?_
          rotate_left 1
          · intro W ⟨s1, s2⟩; go_simp; all_goals (with_reducible rfl)
          (try simp only [Act.put, List.setIfInBounds_toArray, List.set_cons_zero, List.set_cons_succ])
          refine takeL (i := 8) (v := ?_) rfl (by kernel_rfl) (by kernel_rfl) (by kernel_rfl) (fun _ _ _ h => h) (Or.inl ⟨by rfl, ?_⟩) (unhide HH) ?_
          rotate_left 1
          · intro W ⟨s1, s2⟩; go_simp; all_goals (with_reducible rfl)
          (try simp only [Act.put, List.setIfInBounds_toArray, List.set_cons_zero, List.set_cons_succ])
          refine takeL (i := 9) (v := ?_) rfl (by kernel_rfl) (by kernel_rfl) (by kernel_rfl) (fun _ _ _ h => h) (Or.inl ⟨by rfl, ?_⟩) (unhide HH) ?_
          rotate_left 1
          · intro W ⟨s1, s2⟩; go_simp; all_goals (with_reducible rfl)
          (try simp only [Act.put, List.setIfInBounds_toArray, List.set_cons_zero, List.set_cons_succ])
          refine takeL (i := 10) (v := ?_) rfl (by kernel_rfl) (by kernel_rfl) (by kernel_rfl) (fun _ _ _ h => h) (Or.inl ⟨by rfl, ?_⟩) (unhide HH) ?_
          rotate_left 1
          · intro W ⟨s1, s2⟩; go_simp; all_goals (with_reducible rfl)
          (try simp only [Act.put, List.setIfInBounds_toArray, List.set_cons_zero, List.set_cons_succ])
          refine wpAnyH_ready (rs := [11]) (by kernel_rfl) (by simp) ?_
          refine consL rfl (fun K hK => ?_) AllReadyH.nil
          go_simp
          refine (there_any ((unhide HN).lie (w' := wr.drew) (fun _ _ _ _ _ h => h)) x y).mono ?_
          rintro e W5 ⟨rfl, rfl⟩
          go_wp2_with fail
          refine hK.out _ _ (⟨unhide HR1, unhide HR2⟩) (fun hHeld => ?_)
          clear hK K HH
          have HH := hide hHeld
          clear hHeld
          (try simp only [Act.put, List.setIfInBounds_toArray, List.set_cons_zero, List.set_cons_succ])
          by_cases hth : (0 ≤ x ∧ x < (d : Int)) ∧ 0 ≤ y ∧ y < (B : Int)
          · rw [decide_eq_true (show (blank d B P (badOf (l.take i))).There x y from hth)]
            refine takeL (i := 12) (v := ?_) rfl (by kernel_rfl) (by kernel_rfl) (by kernel_rfl) (fun _ _ _ h => h) (Or.inl ⟨by rfl, ?_⟩) (unhide HH) ?_
            rotate_left 1
            · intro W hSW; go_simp; all_goals (with_reducible rfl)
            (try simp only [Act.put, List.setIfInBounds_toArray, List.set_cons_zero, List.set_cons_succ])
            refine wpAnyH_done (by kernel_rfl) ?_ _
            refine NoPanic.normal ?_
            obtain ⟨e, rfl⟩ := Int.eq_ofNat_of_zero_le hth.1.1
            obtain ⟨b, rfl⟩ := Int.eq_ofNat_of_zero_le hth.2.1
            have hd' : e < d := by omega
            have hb' : b < B := by omega
            have hd1 : (e : Int) < (d : Int) := by omega
            have hb1 : (b : Int) < (B : Int) := by omega
            have HOK2 := hide ((unhide HSO).2 ⟨unhide HOK, hth⟩)
            have HRD : Hid (RA w.heap.size wr.drew.drew L (blank d B P (badOf (l.take i)))) := (unhide HN).lie (fun _ _ _ _ _ h => h)
            have HBD := hide ((unhide HBr).drew.drew)
            replace HR1 : Hid (wr.drew.drew.cell? ⟨gv, o + i * 2, none⟩ = some (.int .i64 (e : Int))) := unhide HR1
            replace HR2 : Hid (wr.drew.drew.cell? ⟨gv, o + i * 2 + 1, none⟩ = some (.int .i64 (b : Int))) := unhide HR2
            clear hth HH HN HBr HOK
            go_wp2_with fail
            refine wp_region_noPanic ?_
            refine wp_region_held_drew (S := fun W => W.cell? ⟨gv, o + i * 2, none⟩ = some (.int .i64 (e : Int)) ∧ W.cell? ⟨gv, o + i * 2 + 1, none⟩ = some (.int .i64 (b : Int)) ∧ W.cell? ⟨L.n, 3, none⟩ = some (.slice (some ⟨L.gb, 0, none⟩) d L.xb) ∧ W.cell? ⟨L.gb, e, none⟩ = some (.slice (some ⟨L.bs e, 0, none⟩) B (L.cb e))) (by kernel_rfl) ?_ (fun hHeld => ?_)
            · exact ⟨unhide HR1, unhide HR2, (unhide HRD).tc 3 rfl, (unhide HRD).rb.cell hd'⟩
            have HH := hide hHeld
            clear hHeld
            generalize wr.drew.drew = W2 at HRD HBD HR1 HR2 HH ⊢
            have hs := (unhide HRD).setB (d := e) (b := b) (i := 3) hd' hb' (by omega) (.bool true) (badOf (l.take (i + 1))) (fun _ _ => 0) (fun _ _ => 0) (fun _ _ => Nat.zero_le _) (fun d' b' j hd' hb' hj => by
              match j, hj with
              | 3, _ =>
                simp only [blkR, unhide HSB d' b']
                by_cases e2 : d' = e ∧ b' = b
                · obtain ⟨rfl, rfl⟩ := e2
                  rw [if_pos rfl, if_pos (by simp)]
                · rw [if_neg (fun h => by injection h with h1 h2; exact e2 ⟨by omega, by omega⟩), if_neg (fun h => e2 ⟨h.1, h.2.1⟩)]
                  first | done | rfl
              | 0, _ => rw [if_neg (fun h => by have := h.2.2; omega)]; rfl
              | 1, _ => rw [if_neg (fun h => by have := h.2.2; omega)]; rfl
              | 2, _ => rw [if_neg (fun h => by have := h.2.2; omega)]; rfl)
            have HN6 := hide hs.1
            have HB6 := hide ((unhide HBD).trans hs.2.below)
            have HKB := hide hs.2.below
            clear hs
            refine takeL (i := 0) (v := ?_) rfl (by kernel_rfl) (by kernel_rfl) (by kernel_rfl) (fun _ _ _ h => h) (Or.inl ⟨by rfl, ?_⟩) (unhide HH) ?_
            rotate_left 1
            · intro W ⟨s1, s2, s3, s4⟩; go_simp; all_goals (with_reducible rfl)
            (try simp only [Act.put, List.setIfInBounds_toArray, List.set_cons_zero, List.set_cons_succ])
            refine takeL (i := 1) (v := ?_) rfl (by kernel_rfl) (by kernel_rfl) (by kernel_rfl) (fun _ _ _ h => h) (Or.inl ⟨by rfl, ?_⟩) (unhide HH) ?_
            rotate_left 1
            · intro W ⟨s1, s2, s3, s4⟩; go_simp; all_goals (with_reducible rfl)
            (try simp only [Act.put, List.setIfInBounds_toArray, List.set_cons_zero, List.set_cons_succ])
            refine takeL (i := 2) (v := ?_) rfl (by kernel_rfl) (by kernel_rfl) (by kernel_rfl) (fun _ _ _ h => h) (Or.inl ⟨by rfl, ?_⟩) (unhide HH) ?_
            rotate_left 1
            · intro W ⟨s1, s2, s3, s4⟩; go_simp; all_goals (with_reducible rfl)
            (try simp only [Act.put, List.setIfInBounds_toArray, List.set_cons_zero, List.set_cons_succ])
            refine takeL (i := 3) (v := ?_) rfl (by kernel_rfl) (by kernel_rfl) (by kernel_rfl) (fun _ _ _ h => h) (Or.inl ⟨by rfl, ?_⟩) (unhide HH) ?_
            rotate_left 1
            · intro W ⟨s1, s2, s3, s4⟩; go_simp; all_goals (with_reducible rfl)
            (try simp only [Act.put, List.setIfInBounds_toArray, List.set_cons_zero, List.set_cons_succ])
            refine takeL (i := 4) (v := ?_) rfl (by kernel_rfl) (by kernel_rfl) (by kernel_rfl) (fun _ _ _ h => h) (Or.inl ⟨by rfl, ?_⟩) (unhide HH) ?_
            rotate_left 1
            · intro W ⟨s1, s2, s3, s4⟩; go_simp; all_goals (with_reducible rfl)
            (try simp only [Act.put, List.setIfInBounds_toArray, List.set_cons_zero, List.set_cons_succ])
            refine takeL (i := 5) (v := ?_) rfl (by kernel_rfl) (by kernel_rfl) (by kernel_rfl) (fun _ _ _ h => h) (Or.inl ⟨by rfl, ?_⟩) (unhide HH) ?_
            rotate_left 1
            · intro W ⟨s1, s2, s3, s4⟩; go_simp; all_goals (with_reducible rfl)
            (try simp only [Act.put, List.setIfInBounds_toArray, List.set_cons_zero, List.set_cons_succ])
            refine takeL (i := 6) (v := ?_) rfl (by kernel_rfl) (by kernel_rfl) (by kernel_rfl) (fun _ _ _ h => h) (Or.inl ⟨by rfl, ?_⟩) (unhide HH) ?_
            rotate_left 1
            · intro W ⟨s1, s2, s3, s4⟩; go_simp; all_goals (with_reducible rfl)
            (try simp only [Act.put, List.setIfInBounds_toArray, List.set_cons_zero, List.set_cons_succ])
            refine takeL (i := 7) (v := ?_) rfl (by kernel_rfl) (by kernel_rfl) (by kernel_rfl) (fun _ _ _ h => h) (Or.inl ⟨by rfl, ?_⟩) (unhide HH) ?_
            rotate_left 1
            · intro W ⟨s1, s2, s3, s4⟩; go_simp; all_goals (with_reducible rfl)
            (try simp only [Act.put, List.setIfInBounds_toArray, List.set_cons_zero, List.set_cons_succ])
            refine takeL (i := 8) (v := ?_) rfl (by kernel_rfl) (by kernel_rfl) (by kernel_rfl) (fun _ _ _ h => h) (Or.inl ⟨by rfl, ?_⟩) (unhide HH) ?_
            rotate_left 1
            · intro W ⟨s1, s2, s3, s4⟩; go_simp; all_goals (with_reducible rfl)
            (try simp only [Act.put, List.setIfInBounds_toArray, List.set_cons_zero, List.set_cons_succ])
            refine takeL (i := 9) (v := ?_) rfl (by kernel_rfl) (by kernel_rfl) (by kernel_rfl) (fun _ _ _ h => h) (Or.inl ⟨by rfl, ?_⟩) (unhide HH) ?_
            rotate_left 1
            · intro W ⟨s1, s2, s3, s4⟩; go_simp; all_goals (with_reducible rfl)
            (try simp only [Act.put, List.setIfInBounds_toArray, List.set_cons_zero, List.set_cons_succ])
            refine takeL (i := 10) (v := ?_) rfl (by kernel_rfl) (by kernel_rfl) (by kernel_rfl) (fun _ _ _ h => h) (Or.inl ⟨by rfl, ?_⟩) (unhide HH) ?_
            rotate_left 1
            · intro W ⟨s1, s2, s3, s4⟩; go_simp; all_goals (with_reducible rfl)
            (try simp only [Act.put, List.setIfInBounds_toArray, List.set_cons_zero, List.set_cons_succ])
            refine takeL (i := 11) (v := ?_) rfl (by kernel_rfl) (by kernel_rfl) (by kernel_rfl) (fun _ _ _ h => h) (Or.inl ⟨by rfl, ?_⟩) (unhide HH) ?_
            rotate_left 1
            · intro W ⟨s1, s2, s3, s4⟩; go_simp; all_goals (with_reducible rfl)
            (try simp only [Act.put, List.setIfInBounds_toArray, List.set_cons_zero, List.set_cons_succ])
            refine takeL (i := 12) (v := ?_) rfl (by kernel_rfl) (by kernel_rfl) (by kernel_rfl) (fun _ _ _ h => h) (Or.inl ⟨by rfl, ?_⟩) (unhide HH) ?_
            rotate_left 1
            · intro W ⟨s1, s2, s3, s4⟩; go_simp; all_goals (with_reducible rfl)
            (try simp only [Act.put, List.setIfInBounds_toArray, List.set_cons_zero, List.set_cons_succ])
            refine takeL (i := 13) (v := ?_) rfl (by kernel_rfl) (by kernel_rfl) (by kernel_rfl) (fun _ _ _ h => h) (Or.inl ⟨by rfl, ?_⟩) (unhide HH) ?_
            rotate_left 1
            · intro W ⟨s1, s2, s3, s4⟩; go_simp; all_goals (with_reducible rfl)
            (try simp only [Act.put, List.setIfInBounds_toArray, List.set_cons_zero, List.set_cons_succ])
            refine takeL (i := 14) (v := ?_) rfl (by kernel_rfl) (by kernel_rfl) (by kernel_rfl) (fun _ _ _ h => h) (Or.inl ⟨by rfl, ?_⟩) (unhide HH) ?_
            rotate_left 1
            · intro W ⟨s1, s2, s3, s4⟩; go_simp; all_goals (with_reducible rfl)
            (try simp only [Act.put, List.setIfInBounds_toArray, List.set_cons_zero, List.set_cons_succ])
            refine takeL (i := 15) (v := ?_) rfl (by kernel_rfl) (by kernel_rfl) (by kernel_rfl) (fun _ _ _ h => h) (Or.inl ⟨by rfl, ?_⟩) (unhide HH) ?_
            rotate_left 1
            · intro W ⟨s1, s2, s3, s4⟩; go_simp; all_goals (with_reducible rfl)
            (try simp only [Act.put, List.setIfInBounds_toArray, List.set_cons_zero, List.set_cons_succ])
            refine takeL (i := 16) (v := ?_) rfl (by kernel_rfl) (by kernel_rfl) (by kernel_rfl) (fun _ _ _ h => h) (Or.inl ⟨by rfl, ?_⟩) (unhide HH) ?_
            rotate_left 1
            · intro W ⟨s1, s2, s3, s4⟩; go_simp; all_goals (with_reducible rfl)
            (try simp only [Act.put, List.setIfInBounds_toArray, List.set_cons_zero, List.set_cons_succ])
            refine takeL (i := 17) (v := ?_) rfl (by kernel_rfl) (by kernel_rfl) (by kernel_rfl) (fun _ _ _ h => h) (Or.inl ⟨by rfl, ?_⟩) (unhide HH) ?_
            rotate_left 1
            · intro W ⟨s1, s2, s3, s4⟩; go_simp; all_goals (with_reducible rfl)
            (try simp only [Act.put, List.setIfInBounds_toArray, List.set_cons_zero, List.set_cons_succ])
            refine wpAnyH_ready (rs := [18]) (by kernel_rfl) (by simp) ?_
            refine consL rfl (fun K hK => ?_) AllReadyH.nil
            have hcc : W2.cell? ⟨L.bs e, b * 4 + 3, none⟩ = some (.bool (badOf (l.take i) e b)) := (unhide HRD).bc (j := 3) hd' hb' (by omega)
            have hff := (unhide HRD).bf (d := e) hd' (b * 4 + 3)
            go_simp
            clear hcc hff
            refine hK.out _ _ (⟨below_cell ((unhide HKB)) (unhide HR1) hgl, below_cell ((unhide HKB)) (unhide HR2) hgl, (unhide HN6).tc 3 rfl, (unhide HN6).rb.cell hd'⟩) (fun hHeld => ?_)
            clear hK K HH
            have HH := hide hHeld
            clear hHeld
            (try simp only [Act.put, List.setIfInBounds_toArray, List.set_cons_zero, List.set_cons_succ])
            refine wpAnyH_done (by kernel_rfl) ?_ _
            refine NoPanic.normal ?_
            go_wp2_with fail
            go_roundw
            case rel => exact ⟨i + 1, by go_num, by omega, HN6, HB6, HOK2⟩
            case measure => simp [intOf]; omega
          · rw [decide_eq_false (show ¬ (blank d B P (badOf (l.take i))).There x y from hth)]
            refine takeL (i := 12) (v := ?_) rfl (by kernel_rfl) (by kernel_rfl) (by kernel_rfl) (fun _ _ _ h => h) (Or.inl ⟨by rfl, ?_⟩) (unhide HH) ?_
            rotate_left 1
            · intro W hSW; go_simp; all_goals (with_reducible rfl)
            (try simp only [Act.put, List.setIfInBounds_toArray, List.set_cons_zero, List.set_cons_succ])
            refine wpAnyH_done (by kernel_rfl) ?_ _
            refine NoPanic.normal ?_
            have HNOT : Hid (¬ okB d B l) := fun hall => hth (hall (x, y) (by rw [← unhide HXY, List.getD_eq_getElem?_getD, List.getElem?_eq_getElem (by rw [unhide HLL]; exact hlt)]; exact List.getElem_mem _))
            have HBD := hide ((unhide HBr).drew)
            clear hth HBr HN
            go_wp2_with fail
            go_returns
            exact ⟨unhide HBD, .inl ⟨unhide HNOT, rfl⟩⟩
        · obtain rfl : i = ll := by omega
          have htk : l.take i = l := by rw [← unhide HLL, List.take_length]
          rw [htk] at HN HOK
          clear htk
          go_wp2_with fail
          go_returns
          exact ⟨unhide HBr, .inr ⟨unhide HOK, L, rfl, unhide HN⟩⟩

end Go.Proofs.Ytnondiaefpdlpaa
