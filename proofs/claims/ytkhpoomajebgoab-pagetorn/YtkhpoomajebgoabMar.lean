/-
  bch.Decode.
  The second telling's polynomials (ramekinref3): Trim, Add, Mul.
-/
import Derived.Test.YtkhpoomajebgoabMaq
import Derived.Test.YtkhpoomajebgoabMal
namespace Go.Proofs.Ytkhpoomajebgoab
open Go.RowKit Go.Shelf
attribute [local go_sem] Oper.semAt_some

theorem empty_owns (w : World) : (w.alloc (.cells #[] 5)).ownsRow w.heap.size 5 1 (.slice (some ⟨w.heap.size, 0, none⟩) 0 0) 0 ((ints []).map (Value.int .u8)) := by
  refine ⟨by simp [ints], .inr ⟨w.heap.size, 0, _, rfl, Nat.le_refl _, World.alloc_heap_new w _, Nat.le_refl _, by unfold maxLen; omega, by simp, ?_⟩⟩
  simp [ints]

set_option maxRecDepth 100000 in
set_option maxHeartbeats 2000000 in
theorem clone_any (v : Value) (g : Nat) (s : List Nat) (w : World) (hA : Arg w v g s) (hs : s.length = 28) :
    Calls Try.prog 35 #[v] w fun e w' => ∃ v', e = .returned v' ∧ Fr w.heap.size w' v' s ∧ Below w.heap.size w w' := by
  obtain ⟨⟨ao, c, rfl, hc1, hc2, hnil, hr⟩, hbs⟩ := hA
  obtain ⟨o, rfl⟩ := row_some hr (by omega)
  obtain ⟨i0, hi0, hz0, hz1, hz2⟩ := info_parts infoE
  have HR := hide hr
  have HL := hide hs
  have HI := hide hi0
  have HO := hide (empty_owns w)
  have HK1 : Hid (Kp [] w (w.alloc (.cells #[] 5))) := (Kp.refl [] w).alloc _
  rw [hs]
  have hq : ∀ w : World, (binOp .eql 22 (.slice (some ⟨g, o, none⟩) 28 c) (.slice none 0 0)).run Try.prog w = .ok (.bool false) w := fun _ => by kernel_rfl
  clear hr hnil hi0
  go_enter Try.func35, Try.ntmps35
  go_wp2_with (at_builtin; refine wpList_append_row _ rfl _ _ 22 rfl w.heap.size 5 i0 Try.underlying22 (unhide HI) hz0 hz1 hz2 (.slice (some ⟨w.heap.size, 0, none⟩) 0 0) 0 _ rfl (unhide HO) (some ⟨g, o, none⟩) g 28 c (ints s) rfl (by rw [ints_len]; exact unhide HL) ((unhide HR).keep (unhide HK1) (by simp)) (fun h => by cases h) (by omega) (by simp) ?_)
  intro v' w1 ho hg _
  have hF := (owns_fr (s := s) ho).2
  have HF := hide hF
  have HK2 := hide ((unhide HK1).grown hg (fun k e => by cases e; exact .inr (Nat.le_refl _)))
  clear ho hg hF
  go_wp2
  go_ret
  exact ⟨_, rfl, unhide HF, (unhide HK2).below⟩

theorem results_dec {P : Program} {fn : Func} {p u v : Tmp} {ty : TypeId} (h : fn.results = #[.tmp u, .cell p ty, .tmp v]) (tmps : Array Value) (w : World) (ad : Addr) (x : Value) (hp : tmps.getD p undef = .pointer (some ad)) (hl : (loadVar ty ad).run P w = .ok x w) :
    (results fn tmps).run P w = .ok (.tuple #[tmps.getD u undef, x, tmps.getD v undef]) w := by
  rw [Array.getD_eq_getD_getElem?] at hp
  simp only [results, h]
  simp [Result.andThen, hp, asAddr, hl]
theorem load_int (w : World) (ad : Addr) (x : Value) (hc : w.cell? ad = some x) : (loadVar 3 ad).run Try.prog w = .ok x w := by
  have hu := Try.underlying3
  simp [loadVar, isAgg, run_underlying hu, run_load, hc]

/-- What is mended. -/
def mend (s : List Nat) : List Nat := flips s (found (restF s))
theorem mend_len (s : List Nat) : (mend s).length = s.length := flips_len _ _
theorem mend_bs {s : List Nat} (h : Bs s) : Bs (mend s) := flips_bs h _

set_option maxRecDepth 100000 in
set_option maxHeartbeats 2000000 in
theorem decode_not (v : Value) (g : Nat) (s : List Nat) (w : World) (hA : Arg w v g s) (hl : s.length ≠ 28) :
    Calls Try.prog 25 #[v] w fun e w' => e = .returned (.tuple #[.slice none 0 0, .int .i64 0, .bool false]) ∧ Below w.heap.size w w' := by
  obtain ⟨⟨ao, c, rfl, hc1, hc2, hnil, hr⟩, hbs⟩ := hA
  have h28 : ((s.length : Int) != 28) = true := by rw [bne_iff_ne]; omega
  clear hr hnil
  go_enter Try.func25, Try.ntmps25
  go_wp2
  go_returns
  exact ⟨rfl, (Below.refl _ w).alloc (Nat.le_refl _) _⟩

theorem dec_post {w w1 w3 W₂ : World} {q j v cq : Nat} {s t : List Nat} {pre : List (Fin 224)} {x : Fin 224} {a : Act}
    (hB : Blk W₂ q t) (hj : j < t.length) (h5 : W₂.cell? ⟨w1.heap.size, 0, none⟩ = some (.slice (some ⟨q, 0, none⟩) 28 cq)) (hBw : Below w.heap.size w W₂) (hc : W₂.cell? ⟨w.heap.size, 0, none⟩ = some (.int .i64 (pre.length : Nat))) (hf : W₂.frozen? ⟨w.heap.size, 0, none⟩ = false)
    (h1 : w.heap.size + 1 ≤ q) (h2 : q < w1.heap.size) (h3 : w1.heap.size < w3.heap.size) (ht : flips s ((pre ++ [x]).map Fin.val) = t.set j v) :
    postX w3.heap.size (fun _ => False) (fun pre A => Blk A q (flips s (pre.map Fin.val)) ∧ (A.cell? ⟨w.heap.size, 0, none⟩ = some (.int .i64 (pre.length : Nat)) ∧ A.frozen? ⟨w.heap.size, 0, none⟩ = false) ∧ A.cell? ⟨w1.heap.size, 0, none⟩ = some (.slice (some ⟨q, 0, none⟩) 28 cq) ∧ Below w.heap.size w A) (pre ++ [x]) W₂ .normal a
      ((W₂.setCell ⟨q, j, none⟩ (.int .u8 (v : Int))).setCell ⟨w.heap.size, 0, none⟩ (.int .i64 ((pre.length : Int) + 1))).drew := by
  have k1 : Kx (fun _ => False) (w3.heap.size + 2) W₂ ((W₂.setCell ⟨q, j, none⟩ (.int .u8 (v : Int))).setCell ⟨w.heap.size, 0, none⟩ (.int .i64 ((pre.length : Int) + 1))) := (Kx.of_set _ _ (by show q < _; omega) id).trans (Kx.of_set _ _ (by show w.heap.size < _; omega) id)
  refine ⟨(((KeepsOthers.setCell _ _ _).trans (KeepsOthers.setCell _ _ _)).trans (KeepsOthers.drew _)).from _, ⟨k1.size, k1.block⟩, ?_, ⟨?_, ?_⟩, ?_, ?_⟩
  · rw [ht]
    exact ((hB.set j v hj).of (Below.heap_setCell _ _ _ _ (by show q ≠ w.heap.size; omega))).of rfl
  · rw [cell_drew_own, World.cell?_setCell_same' _ _ _ (by rw [World.cell?_setCell_other _ _ _ _ (by simp), hc]; rfl)]
    simp
  · rw [frozen_drew_own, World.frozen?_setCell, World.frozen?_setCell]
    exact hf
  · rw [cell_drew_own, World.cell?_setCell_other _ _ _ _ (by simp), World.cell?_setCell_other _ _ _ _ (by simp)]
    exact h5
  · exact ((hBw.setCell (p := ⟨q, j, none⟩) (by show w.heap.size ≤ q; omega) _).setCell (p := ⟨w.heap.size, 0, none⟩) (Nat.le_refl _) _).drew

set_option maxRecDepth 100000 in
set_option maxHeartbeats 8000000 in
theorem decode_any (v : Value) (g : Nat) (s : List Nat) (w : World) (hA : Arg w v g s) (hl : s.length = 28) :
    Calls Try.prog 25 #[v] w fun e w' => Below w.heap.size w w' ∧
      ((restF (mend s) = 0 ∧ ∃ q c, e = .returned (.tuple #[.slice (some ⟨q, 4, none⟩) 24 c, .int .i64 ((found (restF s)).length : Nat), .bool true]) ∧ Arg w' (.slice (some ⟨q, 4, none⟩) 24 c) q ((mend s).drop 4) ∧ w.heap.size ≤ q) ∨
       (restF (mend s) ≠ 0 ∧ e = .returned (.tuple #[.slice none 0 0, .int .i64 0, .bool false]))) := by
  have HA := hide hA
  obtain ⟨⟨ao, c, rfl, hc1, hc2, hnil, hr⟩, hbs⟩ := hA
  have HL := hide hl
  rw [hl] at HA ⊢
  clear hr hnil
  refine (callsIn_wide (n := 3)).1 ?_
  refine callsIn_of_wp_marks Try.func25 rfl trivial ?_ rfl
  simp only [Try.ntmps25, List.size_toArray, List.length_cons, List.length_nil, Nat.reduceAdd, Nat.reduceSub, Array.replicate_succ, Array.replicate_zero, List.push_toArray, List.append_toArray, List.nil_append, List.cons_append]
  gi_wp2
  have HB0 := hide ((Below.refl _ w).alloc (Nat.le_refl _) (.cells #[.int .i64 0] 3))
  have HC0 := hide (cell_new' w (.int .i64 0) 3)
  refine ⟨trivial, (callsIn_wide.2 (clone_any _ g s _ ((unhide HA).below (unhide HB0)) (unhide HL))).mono ?_⟩
  rintro e w1 ⟨v1, rfl, hF1, hk1⟩
  obtain ⟨q, cq, rfl, hq1, hq2, hB1, hq3⟩ := hF1.blk (by intro h; rw [h] at hl; simp at hl)
  rw [hl] at hq1 ⊢
  rw [World.size_alloc] at hk1 hq3
  have HB1 := hide hB1
  have HK1 := hide ((unhide HB0).trans (hk1.mono (by omega)))
  have HC1 : Hid (w1.cell? ⟨w.heap.size, 0, none⟩ = some (.int .i64 0) ∧ w1.frozen? ⟨w.heap.size, 0, none⟩ = false) := box_below (unhide HC0) hk1 (by omega)
  have hq4 := hB1.lt
  have HA1 := hide ((unhide HA).below ((unhide HB0).trans (hk1.mono (by omega))))
  clear hF1 hk1 hB1
  gi_wp2
  have hal := (Below.refl _ w1).alloc (Nat.le_refl _) (.cells #[.slice (some ⟨q, 0, none⟩) 28 cq] 22)
  have HC5 : Hid ((w1.alloc (.cells #[.slice (some ⟨q, 0, none⟩) 28 cq] 22)).cell? ⟨w1.heap.size, 0, none⟩ = some (.slice (some ⟨q, 0, none⟩) 28 cq)) := (cell_new' w1 _ _).1
  have HAL := hide hal
  refine ⟨trivial, (callsIn_wide.2 (rest_any _ g s _ ((unhide HA1).below hal) (by omega))).mono ?_⟩
  rintro e w2 ⟨rfl, hk2⟩
  rw [World.size_alloc] at hk2
  have HK2 := hide ((unhide HAL).trans (hk2.mono (by omega)))
  have HC52 := hide ((hk2.cell (p := ⟨w1.heap.size, 0, none⟩) (by show w1.heap.size < _; omega)).trans (unhide HC5))
  have hz2 : w1.heap.size < w2.heap.size := by have := hk2.size; rw [World.size_alloc] at this; omega
  clear hk2 hal
  have hrl := rest_lt s
  obtain ⟨r, hr⟩ : ∃ r, restF s = r := ⟨_, rfl⟩
  have HRE := hide hr
  rw [hr] at hrl ⊢
  clear hr
  gi_wp2
  refine ⟨trivial, (callsIn_wide.2 (wrong_any r _)).mono ?_⟩
  rintro e w3 ⟨rfl, hc3, hz3, hk3⟩
  have hK3 : Below w1.heap.size w1 w3 := (unhide HK2).trans (hk3.mono (by omega))
  have hz1 : w.heap.size < w1.heap.size := by omega
  have c5 := (hk3.cell (p := ⟨w1.heap.size, 0, none⟩) (by show w1.heap.size < _; omega)).trans (unhide HC52)
  have c3 := box_below (unhide HC1) hK3 hz1
  have hB3 := (unhide HB1).below hK3 hq4
  have hw3 := (unhide HK1).trans (hK3.mono (by omega))
  clear hk3 hK3 HK2 HC52 HC5 HAL
  gi_wp2
  refine wpIn_range_x (gf := 45) (lb := #[.pointer (some ⟨w2.heap.size, 0, none⟩)]) rfl (enters_of Try.func45 (by kernel_rfl) rfl)
    (wrong_x (fun _ => False) w2.heap.size r hrl w3 hc3) (fun k hk => hk.elim) (fun _ => rfl)
    (fun pre A => Blk A q (flips s (pre.map Fin.val)) ∧ (A.cell? ⟨w.heap.size, 0, none⟩ = some (.int .i64 (pre.length : Nat)) ∧ A.frozen? ⟨w.heap.size, 0, none⟩ = false) ∧ A.cell? ⟨w1.heap.size, 0, none⟩ = some (.slice (some ⟨q, 0, none⟩) 28 cq) ∧ Below w.heap.size w A)
    (fun s A B h hb => ⟨h.1.below hb (by omega), box_below h.2.1 hb (by omega), (hb.cell (p := ⟨w1.heap.size, 0, none⟩) (by show w1.heap.size < _; omega)).trans h.2.2.1, h.2.2.2.trans (hb.mono (by omega))⟩)
    ⟨hB3, c3, c5, hw3⟩ ?round ?done
  case done =>
    rintro D xs A hD hxs ⟨hB, ⟨hc, hf⟩, h5, hBw⟩ hK
    rw [hxs] at hB
    have hxl : xs.length = (found r).length := by rw [← hxs, List.length_map]
    rw [hxl] at hc
    have hm : flips s (found r) = mend s := by unfold mend; rw [unhide HRE]
    rw [hm] at hB
    have hfl := found_len r
    obtain ⟨nf, hnf⟩ : ∃ nf, (found r).length = nf := ⟨_, rfl⟩
    have HNF := hide hnf
    rw [hnf] at hc hfl
    have HB := hide hB
    have HBW := hide hBw
    have HK := hide hK
    have hml : (mend s).length = 28 := by rw [mend_len, unhide HL]
    clear hxs hxl hm hnf hB hBw
    gi_wp2
    refine ⟨trivial, (callsIn_wide.2 (rest_any _ q (mend s) A (by have h := (unhide HB).arg (mend_bs hbs) (c := cq) (by omega) hq2; rw [hml] at h; exact h) (by omega))).mono ?_⟩
    rintro e w6 ⟨rfl, hk6⟩
    have HB6 := hide ((unhide HB).below hk6 (unhide HB).lt)
    have HBW6 := hide ((unhide HBW).trans (hk6.mono (unhide HBW).size))
    have hc6 := (hk6.cell (block_lt_of_cell hc)).trans hc
    have hf6 := (World.frozen?_of_block (a := ⟨w.heap.size, 0, none⟩) (hk6.block w.heap.size (block_lt_of_cell hc))).trans hf
    have h56 := (hk6.cell (block_lt_of_cell h5)).trans h5
    have HK6 := hide ((hk6.block D (Array.getElem?_eq_some_iff.1 hK).1).trans hK)
    clear hc hf h5 hK hk6 HB HBW HK
    obtain ⟨z, hz⟩ : ∃ z, restF (mend s) = z := ⟨_, rfl⟩
    have HZ := hide hz
    rw [hz]
    clear hz
    by_cases h0z : z = 0
    · subst h0z
      have H5 := hide h56
      have HC6 := hide hc6
      have HF6 := hide hf6
      have hq5 : ¬ cq = 4 := by omega
      clear h56 hc6 hf6
      gi_wp2
      refine wpIn_wide.2 ?_
      refine wp_region_noPanic ?_
      refine wp_region_held_drew (S := fun W' => Kp [w.heap.size] w6 W' ∧ W'.cell? ⟨w.heap.size, 0, none⟩ = some (.int .i64 (nf : Int)) ∧ W'.frozen? ⟨w.heap.size, 0, none⟩ = false) (by kernel_rfl) ⟨(Kp.refl _ _).drew, unhide HC6, unhide HF6⟩ (fun hHeld => ?_)
      have HH := hide hHeld
      clear hHeld
      refine takeL (i := 0) (v := ?_) rfl (by kernel_rfl) (by kernel_rfl) (by kernel_rfl) (fun _ _ _ h => h) (Or.inl ⟨by rfl, ?_⟩) (unhide HH) ?_
      rotate_left 1
      · intro W1 hSW; have hc := hSW.1.cell (unhide H5) (by simp; omega); clear hSW; go_simp; all_goals (with_reducible rfl)
      (try simp only [Act.put, List.setIfInBounds_toArray, List.set_cons_zero, List.set_cons_succ])
      refine takeL (i := 1) (v := ?_) rfl (by kernel_rfl) (by kernel_rfl) (by kernel_rfl) (fun _ _ _ h => h) (Or.inl ⟨by rfl, ?_⟩) (unhide HH) ?_
      rotate_left 1
      · intro W hSW; go_simp; all_goals (with_reducible rfl)
      (try simp only [Act.put, List.setIfInBounds_toArray, List.set_cons_zero, List.set_cons_succ])
      refine takeL (i := 2) (v := ?_) rfl (by kernel_rfl) (by kernel_rfl) (by kernel_rfl) (fun _ _ _ h => h) (Or.inl ⟨by rfl, ?_⟩) (unhide HH) ?_
      rotate_left 1
      · intro W1 hSW; have hc := hSW.2.1; clear hSW; go_simp; all_goals (with_reducible rfl)
      (try simp only [Act.put, List.setIfInBounds_toArray, List.set_cons_zero, List.set_cons_succ])
      refine takeL (i := 3) (v := ?_) rfl (by kernel_rfl) (by kernel_rfl) (by kernel_rfl) (fun _ _ _ h => h) (Or.inl ⟨by rfl, ?_⟩) (unhide HH) ?_
      rotate_left 1
      · intro W hSW; go_simp; all_goals (with_reducible rfl)
      (try simp only [Act.put, List.setIfInBounds_toArray, List.set_cons_zero, List.set_cons_succ])
      refine wpAnyH_ready (rs := [4]) (by kernel_rfl) (by simp) ?_
      refine consL rfl (fun K hK => ?_) AllReadyH.nil
      have hc4 : w6.drew.cell? ⟨w.heap.size, 0, none⟩ = some (.int .i64 (nf : Int)) := unhide HC6
      have hf4 : w6.drew.frozen? ⟨w.heap.size, 0, none⟩ = false := unhide HF6
      go_simp
      refine hK.out _ _ ⟨(unhide HH).1.setCell ⟨w.heap.size, 0, none⟩ _ (.inl (by simp)), World.cell?_setCell_same' _ _ _ (by rw [unhide HC6]; rfl), by rw [frozen_drew_own, World.frozen?_setCell]; exact unhide HF6⟩ (fun hHeld => ?_)
      clear hK K HH hc4 hf4
      have HH := hide hHeld
      clear hHeld
      (try simp only [Act.put, List.setIfInBounds_toArray, List.set_cons_zero, List.set_cons_succ])
      refine takeL (i := 5) (v := ?_) rfl (by kernel_rfl) (by kernel_rfl) (by kernel_rfl) (fun _ _ _ h => h) (Or.inl ⟨by rfl, ?_⟩) (unhide HH) ?_
      rotate_left 1
      · intro W hSW; go_simp; all_goals (with_reducible rfl)
      (try simp only [Act.put, List.setIfInBounds_toArray, List.set_cons_zero, List.set_cons_succ])
      refine wpAnyH_done (by kernel_rfl) ?_ _
      refine NoPanic.normal ?_
      have HK7 := hide ((unhide HK6 : _))
      have hD4 : D ≠ w.heap.size := by omega
      have hKD : (w6.setCell ⟨w.heap.size, 0, none⟩ (.int .i64 (nf : Int))).drew.heap[D]? = some (.deferred (some [])) := (Below.heap_setCell _ _ _ _ hD4).trans (unhide HK6)
      have hc7 := (unhide HH).2.1
      have hB7 : Below w.heap.size w (w6.setCell ⟨w.heap.size, 0, none⟩ (.int .i64 (nf : Int))).drew := ((unhide HBW6).setCell (p := ⟨w.heap.size, 0, none⟩) (Nat.le_refl _) _).drew
      have hBq : Blk (w6.setCell ⟨w.heap.size, 0, none⟩ (.int .i64 (nf : Int))).drew q (mend s) := ((unhide HB6).of (Below.heap_setCell _ _ _ _ (by show q ≠ w.heap.size; omega))).of rfl
      clear HH HK7
      obtain ⟨W7, hW7⟩ : ∃ W7, (w6.setCell ⟨w.heap.size, 0, none⟩ (.int .i64 (nf : Int))).drew = W7 := ⟨_, rfl⟩
      rw [hW7] at hKD hc7 hB7 hBq ⊢
      clear hW7
      have HC7 := hide hc7
      have HKD := hide hKD
      clear hc7 hKD
      gi_wp2
      refine ⟨by simp, .inl ⟨_, _, rfl, run_takeDeferred (unhide HKD), ?_⟩⟩
      have hDq : q ≠ D := by have := hBq.lt; omega
      have hBp : Blk (W7.putObj D (.deferred none)) q (mend s) := hBq.of (World.putObj_heap_other hDq)
      refine ⟨_, results_dec rfl _ _ ⟨w.heap.size, 0, none⟩ _ rfl (load_int _ _ _ ((World.cell?_of_block (World.putObj_heap_other (Ne.symm hD4))).trans (unhide HC7))), hB7.trans (below_put _ _ (by omega)), .inl ⟨unhide HZ, q, cq - 4, by rw [unhide HRE, unhide HNF]; rfl, ?_, by omega⟩⟩
      refine ⟨⟨some ⟨q, 4, none⟩, cq - 4, by rw [List.length_drop, hml], by rw [List.length_drop, hml]; omega, by omega, fun h => by simp at h, ?_⟩, fun i => by rw [cf_drop]; exact mend_bs hbs _⟩
      have h := hBp.row (o := 4) (n := 24)
      rwa [List.take_of_length_le (by rw [List.length_drop, hml]; omega)] at h
    · have hz1 : ((z : Int) != 0) = true := by rw [bne_iff_ne]; omega
      gi_wp2
      have hD4 : D ≠ w.heap.size := by omega
      have hKD : (w6.setCell ⟨w.heap.size, 0, none⟩ (.int .i64 0)).heap[D]? = some (.deferred (some [])) := (Below.heap_setCell _ _ _ _ hD4).trans (unhide HK6)
      have hc7 : (w6.setCell ⟨w.heap.size, 0, none⟩ (.int .i64 0)).cell? ⟨w.heap.size, 0, none⟩ = some (.int .i64 0) := World.cell?_setCell_same' _ _ _ (by rw [hc6]; rfl)
      have hB7 : Below w.heap.size w (w6.setCell ⟨w.heap.size, 0, none⟩ (.int .i64 0)) := (unhide HBW6).setCell (p := ⟨w.heap.size, 0, none⟩) (Nat.le_refl _) _
      refine ⟨by simp, .inl ⟨_, _, rfl, run_takeDeferred hKD, ?_⟩⟩
      refine ⟨_, results_dec rfl _ _ ⟨w.heap.size, 0, none⟩ _ rfl (load_int _ _ _ ((World.cell?_of_block (World.putObj_heap_other (Ne.symm hD4))).trans hc7)), hB7.trans (below_put _ _ (by omega)), .inr ⟨by rw [unhide HZ]; exact h0z, rfl⟩⟩
  case round =>
    rintro l pre x A ⟨hB, ⟨hc, hf⟩, h5, hBw⟩ hlen hs2A
    have hx := x.isLt
    gi_wp2
    refine ⟨⟨KeepsFrom.refl _ _, Kx.refl _ _ _, hB, ⟨hc, hf⟩, h5, hBw⟩, ?_⟩
    clear hB hc hf h5 hBw
    rintro W₂ hsz2 - - ⟨hB, ⟨hc, hf⟩, h5, hBw⟩
    obtain ⟨t, ht⟩ : ∃ t, flips s (pre.map Fin.val) = t := ⟨_, rfl⟩
    have htl : t.length = 28 := by rw [← ht, flips_len]; exact unhide HL
    have htb : Bs t := by rw [← ht]; exact flips_bs hbs _
    rw [ht] at hB
    have HT := hide ht
    have HB := hide hB
    have HC := hide hc
    have HF := hide hf
    have H5 := hide h5
    have HBW := hide hBw
    clear ht hB hc hf h5 hBw
    obtain ⟨k, hk⟩ : ∃ k, x.val = k := ⟨_, rfl⟩
    rw [hk] at hx
    have HKX := hide hk
    rw [hk]
    clear hk
    obtain ⟨j, hj⟩ : ∃ j, k / 8 = j := ⟨_, rfl⟩
    obtain ⟨m, hm⟩ : ∃ m, k % 8 = m := ⟨_, rfl⟩
    have hj28 : j < 28 := by omega
    have hm8 : m < 8 := by omega
    have hj1 : (j : Int) < 28 := by omega
    have q1 : IntKind.i64.wrap ((k : Int) / 8) = (j : Int) := by rw [IntWalk.i64_in _ ⟨by omega, by omega⟩]; omega
    have q2 : (k : Int).tmod 8 = (m : Int) := by rw [Int.tmod_eq_emod_of_nonneg (by omega)]; omega
    have hpm : 2 ^ m < 256 := by have := pow_lt8 k; rw [hm] at this; exact this
    obtain ⟨p, hp⟩ : ∃ p, 2 ^ m = p := ⟨_, rfl⟩
    rw [hp] at hpm
    have q4 : IntKind.u8.wrap ((2 : Int) ^ m) = (p : Int) := by rw [show (2 : Int) ^ m = ((2 ^ m : Nat) : Int) from by simp, hp]; exact wraps_u8 _ (by omega) (by omega)
    have HFL : Hid (flip1 t k = t.set j (cf t j ^^^ p)) := by show _ = _; rw [← hp, ← hj, ← hm]; rfl
    have hxor := bits_xor_u8 (htb j) hpm
    clear hj hm hp
    gi_wp2
    refine wpIn_region_round (S := fun W' => Kp [q] W₂ W') (by kernel_rfl) (by kernel_rfl) (fun ⟨_, _, h⟩ => h) ((Kp.refl _ _).drew) (fun hHeld => ?_)
    have HH := hide hHeld
    clear hHeld
    refine takeL (i := 0) (v := ?_) rfl (by kernel_rfl) (by kernel_rfl) (by kernel_rfl) (fun _ _ _ h => h) (Or.inl ⟨by rfl, ?_⟩) (unhide HH) ?_
    rotate_left 1
    · intro W1 hSW; have hc := hSW.cell (unhide H5) (by simp; omega); clear hSW; go_simp; all_goals (with_reducible rfl)
    (try simp only [Act.put, List.setIfInBounds_toArray, List.set_cons_zero, List.set_cons_succ])
    refine takeL (i := 1) (v := ?_) rfl (by kernel_rfl) (by kernel_rfl) (by kernel_rfl) (fun _ _ _ h => h) (Or.inl ⟨by rfl, ?_⟩) (unhide HH) ?_
    rotate_left 1
    · intro W hSW; go_simp; all_goals (with_reducible rfl)
    (try simp only [Act.put, List.setIfInBounds_toArray, List.set_cons_zero, List.set_cons_succ])
    refine takeL (i := 2) (v := ?_) rfl (by kernel_rfl) (by kernel_rfl) (by kernel_rfl) (fun _ _ _ h => h) (Or.inl ⟨by rfl, ?_⟩) (unhide HH) ?_
    rotate_left 1
    · intro W hSW; go_simp; all_goals (with_reducible rfl)
    (try simp only [Act.put, List.setIfInBounds_toArray, List.set_cons_zero, List.set_cons_succ])
    refine takeL (i := 3) (v := ?_) rfl (by kernel_rfl) (by kernel_rfl) (by kernel_rfl) (fun _ _ _ h => h) (Or.inl ⟨by rfl, ?_⟩) (unhide HH) ?_
    rotate_left 1
    · intro W hSW; go_simp; all_goals (with_reducible rfl)
    (try simp only [Act.put, List.setIfInBounds_toArray, List.set_cons_zero, List.set_cons_succ])
    refine takeL (i := 5) (v := ?_) rfl (by kernel_rfl) (by kernel_rfl) (by kernel_rfl) (fun _ _ _ h => h) (Or.inl ⟨by rfl, ?_⟩) (unhide HH) ?_
    rotate_left 1
    · intro W hSW; go_simp; all_goals (with_reducible rfl)
    (try simp only [Act.put, List.setIfInBounds_toArray, List.set_cons_zero, List.set_cons_succ])
    refine takeL (i := 6) (v := ?_) rfl (by kernel_rfl) (by kernel_rfl) (by kernel_rfl) (fun _ _ _ h => h) (Or.inl ⟨by rfl, ?_⟩) (unhide HH) ?_
    rotate_left 1
    · intro W hSW; go_simp; all_goals (with_reducible rfl)
    (try simp only [Act.put, List.setIfInBounds_toArray, List.set_cons_zero, List.set_cons_succ])
    refine takeL (i := 7) (v := ?_) rfl (by kernel_rfl) (by kernel_rfl) (by kernel_rfl) (fun _ _ _ h => h) (Or.inl ⟨by rfl, ?_⟩) (unhide HH) ?_
    rotate_left 1
    · intro W hSW; go_simp; all_goals (with_reducible rfl)
    (try simp only [Act.put, List.setIfInBounds_toArray, List.set_cons_zero, List.set_cons_succ])
    refine wpAnyH_ready (rs := [4]) (by kernel_rfl) (by simp) ?_
    refine consL rfl (fun K hK => ?_) AllReadyH.nil
    have hc4 : W₂.drew.cell? ⟨q, j, none⟩ = some (.int .u8 ((cf t j : Nat) : Int)) := (unhide HB).cell (j := j) (by omega)
    go_simp
    refine hK.out _ _ (unhide HH) (fun hHeld => ?_)
    clear hK K HH
    have HH := hide hHeld
    clear hHeld
    (try simp only [Act.put, List.setIfInBounds_toArray, List.set_cons_zero, List.set_cons_succ])
    clear hc4
    refine takeL (i := 8) (v := ?_) rfl (by kernel_rfl) (by kernel_rfl) (by kernel_rfl) (fun _ _ _ h => h) (Or.inl ⟨by rfl, ?_⟩) (unhide HH) ?_
    rotate_left 1
    · intro W hSW; go_simp; all_goals (with_reducible rfl)
    (try simp only [Act.put, List.setIfInBounds_toArray, List.set_cons_zero, List.set_cons_succ])
    refine takeL (i := 9) (v := ?_) rfl (by kernel_rfl) (by kernel_rfl) (by kernel_rfl) (fun _ _ _ h => h) (Or.inl ⟨by rfl, ?_⟩) (unhide HH) ?_
    rotate_left 1
    · intro W hSW; go_simp; all_goals (with_reducible rfl)
    (try simp only [Act.put, List.setIfInBounds_toArray, List.set_cons_zero, List.set_cons_succ])
    refine wpAnyH_ready (rs := [10]) (by kernel_rfl) (by simp) ?_
    refine consL rfl (fun K hK => ?_) AllReadyH.nil
    have HH2 := HH
    have hc4 : W₂.drew.cell? ⟨q, j, none⟩ = some (.int .u8 ((cf t j : Nat) : Int)) := (unhide HB).cell (j := j) (by omega)
    have hf4 : W₂.drew.frozen? ⟨q, j, none⟩ = false := (unhide HB).free (j := j)
    go_simp
    refine hK.out _ _ ((unhide HH2).setCell ⟨q, j, none⟩ _ (.inl (by simp))) (fun hHeld => ?_)
    clear hHeld hK K hc4 hf4
    (try simp only [Act.put, List.setIfInBounds_toArray, List.set_cons_zero, List.set_cons_succ])
    refine wpAnyH_done (by kernel_rfl) ?_ _
    have c3 := unhide HC
    have f3 := unhide HF
    have hqw : q ≠ w.heap.size := by omega
    have hpl : ((pre.length : Nat) : Int) < 224 := by omega
    gi_wp2
    exact dec_post (unhide HB) (by omega) (unhide H5) (unhide HBW) (unhide HC) (unhide HF) hq3 hq4 (by omega) (by rw [← unhide HFL, ← unhide HKX, ← unhide HT, List.map_append, flips, List.foldl_append]; rfl)

end Go.Proofs.Ytkhpoomajebgoab

namespace Go.Proofs.Ytkhpoomajebgoab
open Go.RowKit

set_option maxRecDepth 100000 in
set_option maxHeartbeats 2000000 in
theorem rtrim_any (v : Value) (g : Nat) (s : List Nat) (w : World) (hA : Arg w v g s) (hs : s.length ≤ 100000) :
    Calls Try.prog 43 #[v] w fun e w' => ∃ v', e = .returned v' ∧ Fr w.heap.size w' v' (trim s) ∧ Below w.heap.size w w' := by
  obtain ⟨⟨ao, c, rfl, hnc, hcm, hnil, hr⟩, hbs⟩ := hA
  obtain ⟨n, hl⟩ : ∃ n, s.length = n := ⟨_, rfl⟩
  rw [hl] at hnc hs ⊢
  have HR := hide hr
  have HN := hide hnil
  have HL := hide hl
  unfold maxLen at hcm
  clear hr hnil hl
  obtain ⟨i0, hi0, hz0, hz1, hz2⟩ := info_parts infoE
  have HI := hide hi0
  clear hi0
  have HO := hide (World.ownsRow_lit (base := w.heap.size) (e := 5) (size := 1) w #[] 0 (Nat.le_refl _) (by unfold maxLen; omega) rfl)
  have HR2 : Hid (Row (w.alloc (.cells #[] 5)) ao g (ints s)) := (unhide HR).keep ((Kp.refl [] w).alloc _) (by simp)
  go_enter Try.func43, Try.ntmps43
  go_wp2_with fail
  go_loop [3] (fun p => ∃ e : Nat, p = .int .i64 e ∧ e ≤ n ∧ ∀ j, e ≤ j → cf s j = 0) (fun p => (intOf p).toNat)
  case atStart => exact ⟨n, rfl, Nat.le_refl _, fun j hj => cf_ge (by rw [unhide HL]; exact hj)⟩
  case round =>
    obtain ⟨e, rfl, he, hz⟩ := hrel
    have HZ := hide hz
    clear hz
    by_cases h0 : e = 0
    · subst h0
      have ht : Hid (trim s = []) := by show _ = _; rw [trim_take (Nat.zero_le _) (unhide HZ) (.inl rfl)]; rfl
      cases ao with
      | none =>
        obtain rfl := unhide HN rfl
        go_wp2_with (at_builtin; refine wpList_append_row _ rfl _ _ 22 rfl w.heap.size 5 i0 Try.underlying22 (unhide HI) hz0 hz1 hz2 (.slice (some ⟨w.heap.size, 0, none⟩) 0 0) 0 [] rfl (unhide HO) none g 0 0 (ints []) rfl (by rw [ints_len]; exact rfl) (by first | exact .inl rfl | exact row_front (unhide HR2)) (fun _ => ⟨rfl, rfl⟩) (by omega) (by simp) ?_)
        intro v' w' ho hg hv
        have HF : Hid (Fr w.heap.size w' v' (trim s)) := by rw [unhide ht]; exact (owns_fr (by simpa using ho)).2
        have HB := hide (((Kp.refl [] w).alloc _).grown hg (by intro k hk; cases hk; exact .inr (Nat.le_refl _))).below
        clear ho hg hv
        go_wp2
        go_ret
        exact ⟨_, rfl, unhide HF, unhide HB⟩
      | some ad =>
        go_wp2_with (at_builtin; refine wpList_append_row _ rfl _ _ 22 rfl w.heap.size 5 i0 Try.underlying22 (unhide HI) hz0 hz1 hz2 (.slice (some ⟨w.heap.size, 0, none⟩) 0 0) 0 [] rfl (unhide HO) (some ad) g 0 c (ints []) rfl (by rw [ints_len]; exact rfl) (by first | exact .inl rfl | exact row_front (unhide HR2)) (fun h => by simp at h) (by omega) (by simp) ?_)
        intro v' w' ho hg hv
        have HF : Hid (Fr w.heap.size w' v' (trim s)) := by rw [unhide ht]; exact (owns_fr (by simpa using ho)).2
        have HB := hide (((Kp.refl [] w).alloc _).grown hg (by intro k hk; cases hk; exact .inr (Nat.le_refl _))).below
        clear ho hg hv
        go_wp2
        go_ret
        exact ⟨_, rfl, unhide HF, unhide HB⟩
    · obtain ⟨k, rfl⟩ : ∃ k, e = k + 1 := ⟨e - 1, by omega⟩
      have HL' := unhide HL
      obtain ⟨o, rfl⟩ := row_some (unhide HR) (by omega)
      have hc := row_cell (unhide HR) (j := k) (by omega)
      have h3 : (k : Int) < (n : Int) := by omega
      have h4 : (k : Int) + 1 ≤ (c : Int) := by omega
      clear HL' h0
      by_cases hk : cf s k = 0
      · have hk' : (((cf s k : Nat) : Int) == 0) = true := by rw [hk]; rfl
        go_wp2
        go_round
        case rel => exact ⟨k, by go_num, by omega, fun j hj => by
          by_cases e : j = k
          · rw [e]; exact hk
          · exact unhide HZ j (by omega)⟩
        case measure => simp [intOf]
      · have hk' : (((cf s k : Nat) : Int) == 0) = false := by rw [beq_eq_false_iff_ne]; omega
        have ht : Hid (trim s = s.take (k + 1)) := trim_take (by rw [unhide HL]; exact he) (unhide HZ) (.inr hk)
        have HTL : Hid ((s.take (k + 1)).length = k + 1) := by show _ = _; rw [List.length_take, unhide HL, Nat.min_eq_left he]
        go_wp2_with (at_builtin; refine wpList_append_row _ rfl _ _ 22 rfl w.heap.size 5 i0 Try.underlying22 (unhide HI) hz0 hz1 hz2 (.slice (some ⟨w.heap.size, 0, none⟩) 0 0) 0 [] rfl (unhide HO) (some ⟨g, o, none⟩) g (k + 1) c (ints (s.take (k + 1))) rfl (by rw [ints_len]; exact unhide HTL) (by first | exact .inl rfl | exact row_front (unhide HR2)) (fun h => by simp at h) (by omega) (by simp) ?_)
        intro v' w' ho hg hv
        have HF : Hid (Fr w.heap.size w' v' (trim s)) := by rw [unhide ht]; exact (owns_fr (by simpa using ho)).2
        have HB := hide (((Kp.refl [] w).alloc _).grown hg (by intro k hk; cases hk; exact .inr (Nat.le_refl _))).below
        clear ho hg hv
        go_wp2
        go_ret
        exact ⟨_, rfl, unhide HF, unhide HB⟩

end Go.Proofs.Ytkhpoomajebgoab
