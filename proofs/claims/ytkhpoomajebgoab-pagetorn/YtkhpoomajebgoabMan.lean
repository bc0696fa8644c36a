/-
  bch.numbers, walk[byte].first, bch.values.
  poly.Mul.
  poly.doublings, round.all: n doubled, modulo 255, till it is n again.
-/
import Derived.Test.YtkhpoomajebgoabMam
import Derived.Test.YtkhpoomajebgoabMal
namespace Go.Proofs.Ytkhpoomajebgoab
open Go.RowKit Go.Shelf
attribute [local go_sem] Oper.semAt_some

theorem bit_u32 {r : Nat} (m : Nat) (hr : r < 4294967296) : bits .and .u32 ((r : Int) / 2 ^ m) 1 = ((bt r m : Nat) : Int) := by
  have h := (bits_nat .u32 32 (by decide) (fun n h0 h1 => IntWalk.u32_in _ ⟨h0, by omega⟩) (r / 2 ^ m) 1 (Nat.lt_of_le_of_lt (Nat.div_le_self _ _) hr) (by omega)).1
  rw [Nat.and_one_is_mod] at h
  rw [show (r : Int) / 2 ^ m = ((r / 2 ^ m : Nat) : Int) from by simp]
  exact h

set_option maxRecDepth 100000 in
set_option maxHeartbeats 4000000 in
theorem bnumbers_any (r : Nat) (hr : r < 4294967296) (w : World) :
    Calls Try.prog 54 #[.int .u32 r] w fun e w' => e = .returned (.slice (some ⟨w.heap.size, 0, none⟩) 32 32) ∧ Blk w' w.heap.size (nb 32 r) ∧ Below w.heap.size w w' := by
  have hmk : ∀ w : World, (Instr.makeSlice 22 (.int .i64 32) (.int .i64 32)).run Try.prog w = .ok (.slice (some ⟨w.heap.size, 0, none⟩) 32 32) (w.alloc (.cells (List.replicate 32 (Value.int .u8 0)).toArray 5)) := run_zeros 32 (by omega)
  have HZ := hide (blk_zeros 32 w)
  have HK1 : Hid (Kp [] w (w.alloc (.cells (List.replicate 32 (Value.int .u8 0)).toArray 5))) := (Kp.refl [] w).alloc _
  go_enter Try.func54, Try.ntmps54
  go_wp2_with fail
  clear hmk
  go_loopw [8] (fun p wr => ∃ (i : Nat) (s : List Nat), p = .int .i64 i ∧ i ≤ 32 ∧ s.length = 32 ∧ (∀ j, cf s j = if j < i then bt r j else 0) ∧ Blk wr w.heap.size s ∧ Kp [] w wr) (fun p _ => 32 - (intOf p).toNat)
  case atStart => exact ⟨0, _, rfl, by omega, by simp, fun j => by rw [cf_zeros]; rfl, unhide HZ, unhide HK1⟩
  case round =>
    obtain ⟨i, s, rfl, hi, hsl, hsc, hB, hK⟩ := hrel
    have HSC := hide hsc
    have HB := hide hB
    have HK := hide hK
    clear hsc hB hK
    by_cases hlt : i < 32
    · have hi1 : (i : Int) < 32 := by omega
      have q1 := bit_u32 i hr
      have hc := (unhide HB).cell (j := i) (by omega)
      have hf := (unhide HB).free (j := i)
      have hbl := bt_le r i
      go_wp2_with fail
      go_roundw
      case rel =>
        refine ⟨i + 1, s.set i (bt r i), by go_num, by omega, by simp [hsl], ?_, (unhide HB).set i _ (by omega), (unhide HK).setCell _ _ (.inr (Nat.le_refl _))⟩
        intro j
        rw [cf_set _ _ _ _ (by omega), unhide HSC]
        by_cases e : j = i
        · rw [if_pos e, if_pos (by omega), e]
        · rw [if_neg e]
          by_cases e2 : j < i
          · rw [if_pos e2, if_pos (by omega)]
          · rw [if_neg e2, if_neg (by omega)]
      case measure => simp [intOf]; omega
    · have hi2 : i = 32 := by omega
      subst hi2
      have hs2 : s = nb 32 r := eq_of_cf (by rw [hsl, nb_len]) (fun j => by rw [unhide HSC, cf_nb])
      subst hs2
      go_wp2
      go_ret
      exact ⟨rfl, unhide HB, (unhide HK).below⟩

set_option maxHeartbeats 1000000 in
theorem next_any (x : Nat) (hx : x < 256) (w : World) : Calls Try.prog 55 #[.int .u8 x] w fun e w' => e = .returned (.int .u8 (gmul x 2 : Nat)) ∧ Below w.heap.size w w' := by
  go_enter Try.func55, Try.ntmps55
  go_wp2_with fail
  refine (mul_any x 2 hx (by omega) _).mono ?_
  rintro e w' ⟨rfl, hk⟩
  go_wp2
  go_ret
  exact ⟨rfl, hk⟩

set_option maxHeartbeats 1000000 in
theorem first_any (a : Int) (g : Nat) (y : Int) (w : World) : Calls Try.prog 56 #[.agg #[.int .u8 a, .func (.func g) #[] #[]], .int .i64 y] w fun e w' =>
    ∃ Bc Bm, e = .returned (.func (.func 63) #[] #[.pointer (some ⟨Bc, 0, none⟩), .pointer (some ⟨Bm, 0, none⟩)]) ∧ Cap w' Bc Bm a g (.int .i64 y) ∧ w.heap.size ≤ Bc ∧ w.heap.size ≤ Bm ∧ Bc < w'.heap.size ∧ Bm < w'.heap.size ∧ Below w.heap.size w w' := by
  go_enter Try.func56, Try.ntmps56
  go_wp2
  go_ret
  exact ⟨_, _, rfl, cap_new w a g _ _ _, Nat.le_refl _, by omega, by simp; omega, by simp, ((Below.refl _ w).alloc (Nat.le_refl _) _).alloc (by simp) _⟩

/-- So many of which each is the double of the one ahead, with their places. -/
def fstL : Nat → Nat → Nat → List (Nat × Nat)
  | 0, _, _ => []
  | n + 1, i, x => (i, x) :: fstL n (i + 1) (gmul x 2)

set_option maxRecDepth 100000 in
set_option maxHeartbeats 4000000 in
theorem first_in (S : List Nat) (n l Bc Bm n₀ a : Nat) (ha : a < 256) (J Jx : List (Fin 8 × Fin 256) → World → Prop)
    (hY : ∀ pre (x : Fin 8 × Fin 256) W, J pre W → pre.length < 8 → YieldAt Fence.wide (n - 1) Try.prog l #[.int .i64 x.1.val, .int .u8 x.2.val] W fun e W' =>
      (e = .returned (.bool true) ∧ J (pre ++ [x]) W' ∧ Kq S n₀ W W') ∨ (e = .returned (.bool false) ∧ Jx (pre ++ [x]) W'))
    (hJ : ∀ pre W W', J pre W → Below W.heap.size W W' → J pre W')
    (W : World) (hcap : Cap W Bc Bm a 55 (.int .i64 8)) (hBc : Bc < n₀) (hBm : Bm < n₀) (hn₀ : n₀ ≤ W.heap.size) (sc : Bc ∉ S) (sm : Bm ∉ S) (h0 : J [] W) :
    CallsIn Fence.wide n Try.prog 63 #[.func (.yield l) #[] #[], .pointer (some ⟨Bc, 0, none⟩), .pointer (some ⟨Bm, 0, none⟩)] W fun e W' => (∃ v, e = .returned v) ∧
      ((∃ ys, ys.map it = fstL 8 0 a ∧ J ys W') ∨ (∃ pre, True ∧ Jx pre W')) := by
  have hc0 := hcap.c0
  have hm0 := hcap.m0
  refine callsIn_of_wp Try.func63 rfl trivial ?_ rfl
  simp only [Try.ntmps63, List.size_toArray, List.length_cons, List.length_nil, Nat.reduceAdd, Nat.reduceSub, Array.replicate_succ, Array.replicate_zero, List.push_toArray, List.append_toArray, List.nil_append, List.cons_append]
  gi_wp2
  gi_loopw [4, 9] (fun p q wr => ∃ (pre : List (Fin 8 × Fin 256)) (x i : Nat), p = .int .u8 x ∧ q = .int .i64 i ∧ x < 256 ∧ i ≤ 8 ∧ pre.length = i ∧ pre.map it ++ fstL (8 - i) i x = fstL 8 0 a ∧ J pre wr ∧ Cap wr Bc Bm a 55 (.int .i64 8) ∧ n₀ ≤ wr.heap.size)
    (fun _ q _ => 8 - (intOf q).toNat)
  case atStart => exact ⟨[], a, 0, rfl, rfl, ha, by omega, rfl, by simp, h0, hcap, hn₀⟩
  case round =>
    obtain ⟨pre, x, i, rfl, rfl, hx, hi, hl, hp, hJ1, hc, hs⟩ := hrel
    have HP := hide hp
    have HL := hide hl
    clear hp hl
    have c1 := hc.c1
    by_cases hlt : i < 8
    · have hi1 : (i : Int) < 8 := by omega
      have HP' : Hid ((pre ++ [((⟨i, hlt⟩ : Fin 8), (⟨x, hx⟩ : Fin 256))]).map it ++ fstL (8 - (i + 1)) (i + 1) (gmul x 2) = fstL 8 0 a) := by
        show _ = _
        rw [← unhide HP, List.map_append, List.append_assoc, show 8 - i = (8 - (i + 1)) + 1 from by omega]
        rfl
      obtain ⟨fn, tmps, assign, body, hy1, hR⟩ := hY pre (⟨i, hlt⟩, ⟨x, hx⟩) wr hJ1 (by rw [unhide HL]; exact hlt)
      dsimp only at hy1
      gi_wp2
      refine ⟨fun h => absurd h (by simp [Fence.wide]), hR.mono ?_⟩
      rintro e W3 (⟨rfl, hJ3, hk3⟩ | ⟨rfl, hJx3⟩)
      · have hc3 := hc.kq hk3 hBc hBm sc sm
        have c3 := hc3.c1
        have hs3 := hk3.size
        gi_wp2
        refine ⟨trivial, fun h => absurd h (by simp [Fence.wide]), (callsIn_wide.2 (next_any x hx W3)).mono ?_⟩
        rintro e W4 ⟨rfl, hk4⟩
        gi_wp2
        have hs4 := hk4.size
        go_roundw
        case rel => exact ⟨pre ++ [(⟨i, hlt⟩, ⟨x, hx⟩)], gmul x 2, i + 1, rfl, by go_num, gmul_lt hx, by omega, by simp [unhide HL], unhide HP', hJ _ _ _ hJ3 hk4, hc3.below hk4 (by omega) (by omega), by omega⟩
        case measure => simp [intOf]; omega
      · gi_wp2
        refine bodyPost_ret (results_none rfl _ _ _) rfl ?_
        exact ⟨⟨_, rfl⟩, .inr ⟨pre ++ [(⟨i, hlt⟩, ⟨x, hx⟩)], trivial, hJx3⟩⟩
    · have hi2 : i = 8 := by omega
      subst hi2
      have HP' := hide ((List.append_nil _).symm.trans (unhide HP))
      gi_wp2
      go_end0
      exact ⟨⟨_, rfl⟩, .inl ⟨pre, unhide HP', hJ1⟩⟩

theorem first_stops (S : List Nat) (n Bc Bm n₀ a : Nat) (ha : a < 256) (w : World) (hcap : Cap w Bc Bm a 55 (.int .i64 8)) (hBc : Bc < n₀) (hBm : Bm < n₀) (hn₀ : n₀ ≤ w.heap.size) (sc : Bc ∉ S) (sm : Bm ∉ S) :
    SeqStopsK Fence.wide n Try.prog 63 #[.pointer (some ⟨Bc, 0, none⟩), .pointer (some ⟨Bm, 0, none⟩)] (fun x : Fin 8 × Fin 256 => #[Value.int .i64 x.1.val, Value.int .u8 x.2.val]) (Kq S n₀) (fun ys => ys.map it = fstL 8 0 a) (fun _ => True) 8 w := fun l J Jx W hW hJ _ hY h0 =>
  first_in S n l Bc Bm n₀ a ha J Jx hY (fun pre A B hj hb => hJ pre A B none hj (grown_of_below hb) (fun r e => by cases e)) W (hcap.below hW (by omega) (by omega)) hBc hBm (Nat.le_trans hn₀ hW.size) sc sm h0

/-- What the syndromes' row is when some have come. -/
def valF (p : List Nat) (s : List Nat) (y : Nat × Nat) : List Nat := s.set y.1 (ev p y.2)
theorem valF_len (p : List Nat) (l : List (Nat × Nat)) (s : List Nat) : (l.foldl (valF p) s).length = s.length := by
  induction l generalizing s with
  | nil => rfl
  | cons y l ih => rw [List.foldl_cons, ih, valF, List.length_set]
/-- The syndromes by what is left. -/
def valL (r : Nat) : List Nat := [vals r 1, vals r 2, vals r 3, vals r 4, vals r 5, vals r 6, vals r 7, vals r 8]
theorem val_made (r : Nat) : (fstL 8 0 2).foldl (valF (nb 32 r)) (List.replicate 8 0) = valL r := by
  have : fstL 8 0 2 = [(0, E 1), (1, E 2), (2, E 3), (3, E 4), (4, E 5), (5, E 6), (6, E 7), (7, E 8)] := by decide +kernel
  rw [this]
  rfl
theorem valL_bs (r : Nat) : Bs (valL r) := Bs.of (fun x hx => by
  simp only [valL, List.mem_cons, List.mem_nil_iff, or_false] at hx
  rcases hx with h | h | h | h | h | h | h | h <;> rw [h] <;> exact vals_lt _ _)

theorem val_post {w W w4 : World} {g k v b3 b4 : Nat} {s' : List Nat} {h3 h4 : Value} {f : List (Fin 8 × Fin 256) → List Nat} {pre' : List (Fin 8 × Fin 256)} {w2 : World}
    (hB : Blk W g s') (hk : k < s'.length) (h4' : Below W.drew.heap.size W.drew w4) (c3 : W.cell? ⟨b3, 0, none⟩ = some h3) (c4 : W.cell? ⟨b4, 0, none⟩ = some h4) (hBw : Below w.heap.size w W) (hg : w.heap.size ≤ g) (hg3 : b3 ≠ g) (hg4 : b4 ≠ g) (hn : Below 0 w2 W) {q : Nat} {p : List Nat} (hQ : Blk W q p) (hq : q ≠ g) (hf : f pre' = s'.set k v) :
    KeepsOthers W (w4.setCell ⟨g, k, none⟩ (.int .u8 (v : Int))) ∧ Kq [g] w2.heap.size W (w4.setCell ⟨g, k, none⟩ (.int .u8 (v : Int))) ∧
      Blk (w4.setCell ⟨g, k, none⟩ (.int .u8 (v : Int))) g (f pre') ∧ ((w4.setCell ⟨g, k, none⟩ (.int .u8 (v : Int))).cell? ⟨b3, 0, none⟩ = some h3 ∧ (w4.setCell ⟨g, k, none⟩ (.int .u8 (v : Int))).cell? ⟨b4, 0, none⟩ = some h4) ∧ Blk (w4.setCell ⟨g, k, none⟩ (.int .u8 (v : Int))) q p ∧ Below w.heap.size w (w4.setCell ⟨g, k, none⟩ (.int .u8 (v : Int))) ∧ Below 0 w2 (w4.setCell ⟨g, k, none⟩ (.int .u8 (v : Int))) := by
  have h4 : Below W.heap.size W w4 := (Below.refl _ W).drew.trans h4'
  refine ⟨(kept_of_below h4).trans (KeepsOthers.setCell _ _ _), ((Kq.refl _ _ W).below h4 hn.size).setCell ⟨g, k, none⟩ _ (by simp), ?_, ⟨?_, ?_⟩, ?_, (hBw.trans (h4.mono hBw.size)).setCell (p := ⟨g, k, none⟩) hg _, (hn.trans (h4.mono (by omega))).setCell (p := ⟨g, k, none⟩) (by omega) _⟩
  · rw [hf]
    exact (hB.below h4 hB.lt).set k v hk
  · rw [World.cell?_setCell_other _ _ _ _ (by simp)]
    exact (h4.cell (block_lt_of_cell c3)).trans c3
  · rw [World.cell?_setCell_other _ _ _ _ (by simp)]
    exact (h4.cell (block_lt_of_cell c4)).trans c4
  · exact (hQ.below h4 hQ.lt).of (Below.heap_setCell _ _ _ _ hq)

/-- The boxes that values lays. -/
theorem val_boxes (w1 : World) (v3 v4 x5 y5 : Value) : ∀ W, W = (((w1.alloc (.cells #[v3] 22)).alloc (.cells #[.int .u8 0, .int .u8 0, .int .u8 0, .int .u8 0, .int .u8 0, .int .u8 0, .int .u8 0, .int .u8 0] 5)).alloc (.cells #[v4] 22)).alloc (.cells #[x5, y5] 87) →
    W.cell? ⟨w1.heap.size, 0, none⟩ = some v3 ∧ Blk W (w1.heap.size + 1) (List.replicate 8 0) ∧ W.cell? ⟨w1.heap.size + 1 + 1, 0, none⟩ = some v4 ∧ Below w1.heap.size w1 W ∧ W.heap.size = w1.heap.size + 4 := by
  intro W e
  subst e
  refine ⟨?_, ?_, ?_, ((((Below.refl _ w1).alloc (Nat.le_refl _) _).alloc (by simp) _).alloc (by simp; omega) _).alloc (by simp; omega) _, by simp⟩
  · refine (World.cell?_of_block (Below.heap_alloc _ _ _ (by simp; omega))).trans ?_
    refine (World.cell?_of_block (Below.heap_alloc _ _ _ (by simp; omega))).trans ?_
    refine (World.cell?_of_block (Below.heap_alloc _ _ _ (by simp))).trans (cell_new' w1 _ _).1
  · have h := World.alloc_heap_new (w1.alloc (.cells #[v3] 22)) (.cells #[.int .u8 0, .int .u8 0, .int .u8 0, .int .u8 0, .int .u8 0, .int .u8 0, .int .u8 0, .int .u8 0] 5)
    rw [World.size_alloc] at h
    have hb : Blk ((w1.alloc (.cells #[v3] 22)).alloc (.cells #[.int .u8 0, .int .u8 0, .int .u8 0, .int .u8 0, .int .u8 0, .int .u8 0, .int .u8 0, .int .u8 0] 5)) (w1.heap.size + 1) (List.replicate 8 0) := ⟨_, h, fun j hj => by
      have hj' : j < 8 := by simpa using hj
      rw [cf_zeros]
      match j, hj' with
      | 0, _ => rfl
      | 1, _ => rfl
      | 2, _ => rfl
      | 3, _ => rfl
      | 4, _ => rfl
      | 5, _ => rfl
      | 6, _ => rfl
      | 7, _ => rfl⟩
    refine (hb.of (Below.heap_alloc _ _ _ (by simp))).of (Below.heap_alloc _ _ _ (by simp))
  · have h := (cell_new' ((w1.alloc (.cells #[v3] 22)).alloc (.cells #[.int .u8 0, .int .u8 0, .int .u8 0, .int .u8 0, .int .u8 0, .int .u8 0, .int .u8 0, .int .u8 0] 5)) v4 22).1
    rw [World.size_alloc, World.size_alloc] at h
    exact (World.cell?_of_block (Below.heap_alloc _ _ _ (by simp))).trans h

set_option maxRecDepth 100000 in
set_option maxHeartbeats 4000000 in
theorem values_any (r : Nat) (hr : r < 4294967296) (w : World) :
    Calls Try.prog 47 #[.int .u32 r] w fun e W' => ∃ v, e = .returned v ∧ Fr w.heap.size W' v (valL r) ∧ Below w.heap.size w W' := by
  have hmk : ∀ w : World, (Instr.makeSlice 22 (.int .i64 8) (.int .i64 8)).run Try.prog w = .ok (.slice (some ⟨w.heap.size, 0, none⟩) 8 8) (w.alloc (.cells (List.replicate 8 (Value.int .u8 0)).toArray 5)) := run_zeros 8 (by omega)
  refine (callsIn_wide (n := 3)).1 ?_
  refine callsIn_of_wp_marks Try.func47 rfl trivial ?_ rfl
  simp only [Try.ntmps47, List.size_toArray, List.length_cons, List.length_nil, Nat.reduceAdd, Nat.reduceSub, Array.replicate_succ, Array.replicate_zero, List.push_toArray, List.append_toArray, List.nil_append, List.cons_append]
  gi_wp2
  refine ⟨trivial, (callsIn_wide.2 (bnumbers_any r hr _)).mono ?_⟩
  rintro e w1 ⟨rfl, hN, hk1⟩
  have hz1 := hk1.size
  have hNl := hN.lt
  have HN := hide hN
  have HK1 := hide hk1
  clear hN hk1
  gi_wp2
  clear hmk
  refine ⟨trivial, (callsIn_wide.2 (first_any 2 55 8 _)).mono ?_⟩
  rintro e w2 ⟨Bc, Bm, rfl, hcap, hc1, hm1, hc2, hm2, hk2⟩
  obtain ⟨b3, bl, b4, hbb, hbz⟩ := val_boxes w1 _ _ _ _ _ rfl
  rw [hbz] at hk2 hc1 hm1
  have hz2 := hk2.size
  rw [hbz] at hz2
  have s3 := (hk2.cell (p := ⟨w1.heap.size, 0, none⟩) (by simp)).trans b3
  have s4 := (hk2.cell (p := ⟨w1.heap.size + 1 + 1, 0, none⟩) (by simp)).trans b4
  have sl := bl.below hk2 (by omega)
  have hk3 : Below w1.heap.size w1 w2 := hbb.trans (hk2.mono (by omega))
  have hw2 : Below w.heap.size w w2 := (unhide HK1).trans (hk3.mono hz1)
  have hQ2 := (unhide HN).below hk3 hNl
  clear hk2 hbb b3 b4 bl hbz hk3 HK1
  gi_wp2
  refine wpIn_rangeFunc_ownF rfl (by omega) (gf := 63) (lb := #[.pointer (some ⟨Bc, 0, none⟩), .pointer (some ⟨Bm, 0, none⟩)]) rfl trivial (enters_of Try.func63 (by kernel_rfl) rfl)
    (first_stops [w1.heap.size + 1] 2 Bc Bm w2.heap.size 2 (by omega) w2 hcap hc2 hm2 (Nat.le_refl _) (by simp; omega) (by simp; omega))
    (fun h k => h.trans k) (kq_b (Nat.le_refl _)) (Below.refl _ _) (fun _ => rfl)
    (fun pre W => Blk W (w1.heap.size + 1) ((pre.map it).foldl (valF (nb 32 r)) (List.replicate 8 0)) ∧ (W.cell? ⟨w1.heap.size, 0, none⟩ = some (.slice (some ⟨w.heap.size, 0, none⟩) 32 32) ∧ W.cell? ⟨w1.heap.size + 1 + 1, 0, none⟩ = some (.slice (some ⟨w1.heap.size + 1, 0, none⟩) 8 8)) ∧ Blk W w.heap.size (nb 32 r) ∧ Below w.heap.size w W ∧ Below 0 w2 W)
    (fun _ _ _ => False)
    (OwnFrom.and (Own.from (own_blk (w1.heap.size + 1) _) _) (OwnFrom.and (Own.from (fun s A B row hs hg hr => ⟨cell_kept hs.1 hg hr, cell_kept hs.2 hg hr⟩) _) (OwnFrom.and (Own.from (own_blk w.heap.size _) _) (OwnFrom.and (ownFrom_below (Nat.le_refl _) (by omega)) (ownFrom_below (by omega) (by omega))))))
    (fun _ _ _ _ _ hs _ _ => hs)
    ⟨sl, ⟨s3, s4⟩, hQ2, hw2, Below.refl _ _⟩
    (fun x => { tmps := #[.int .u32 r, undef, .slice none 0 0, .pointer (some ⟨w1.heap.size, 0, none⟩), .pointer (some ⟨w1.heap.size + 1 + 1, 0, none⟩), .pointer (some ⟨w1.heap.size + 1 + 1 + 1, 0, none⟩), .int .i64 x.1.val, .int .u8 x.2.val, .int .u32 r, .slice (some ⟨w.heap.size, 0, none⟩) 32 32, .slice (some ⟨w1.heap.size + 1, 0, none⟩) 8 8, .agg #[.int .u8 2, .func (.func 55) #[] #[]], .agg #[.int .u8 2, .func (.func 55) #[] #[]], .func (.func 63) #[] #[.pointer (some ⟨Bc, 0, none⟩), .pointer (some ⟨Bm, 0, none⟩)], .int .i64 x.1.val, .int .u8 x.2.val, undef, undef, undef, undef, undef, undef, undef], defers := [] }) ?assign ?body ?done ?stop
  case assign =>
    intro l x W K hK
    gi_wp2
    exact hK
  case body =>
    rintro l pre ⟨⟨i, hi⟩, ⟨y, hy⟩⟩ W ⟨hB, ⟨hs3, hs4⟩, hQ, hKW, hB0⟩ _
    obtain ⟨s', hs'⟩ : ∃ s', (pre.map it).foldl (valF (nb 32 r)) (List.replicate 8 0) = s' := ⟨_, rfl⟩
    have hlen : s'.length = 8 := by rw [← hs', valF_len]; rfl
    rw [hs'] at hB
    have HBK := hide hB
    have HS3 := hide hs3
    have HS4 := hide hs4
    have HKW := hide hKW
    have HS' := hide hs'
    have HQB := hide hQ
    have HQ : Hid (Arg W.drew (.slice (some ⟨w.heap.size, 0, none⟩) 32 32) w.heap.size (nb 32 r)) := ⟨⟨some ⟨w.heap.size, 0, none⟩, 32, by rw [nb_len], by rw [nb_len]; omega, by unfold maxLen; omega, fun h => by simp at h, by
      have h := (hQ.of (w' := W.drew) rfl).row (o := 0) (n := 32)
      rwa [List.drop_zero, List.take_of_length_le (by rw [nb_len]; omega)] at h⟩, (nb_bin 32 r).bs⟩
    have hzB := hB.lt
    clear hB hs3 hs4 hKW hs' hQ
    have hin : (i : Int) < 8 := by omega
    gi_wp2
    refine wpIn_region_round (S := fun W' => Kp [w1.heap.size + 1] W W') (by kernel_rfl) (by kernel_rfl) (fun ⟨_, _, h⟩ => h) ((Kp.refl _ _).drew) (fun hHeld => ?_)
    have HH := hide hHeld
    clear hHeld
    refine takeL (i := 0) (v := ?_) rfl (by kernel_rfl) (by kernel_rfl) (by kernel_rfl) (fun _ _ _ h => h) (Or.inl ⟨by rfl, ?_⟩) (unhide HH) ?_
    rotate_left 1
    · intro W1 hSW; have hc := hSW.cell (unhide HS4) (by simp); clear hSW; go_simp; all_goals (with_reducible rfl)
    (try simp only [Act.put, List.setIfInBounds_toArray, List.set_cons_zero, List.set_cons_succ])
    refine takeL (i := 1) (v := ?_) rfl (by kernel_rfl) (by kernel_rfl) (by kernel_rfl) (fun _ _ _ h => h) (Or.inl ⟨by rfl, ?_⟩) (unhide HH) ?_
    rotate_left 1
    · intro W hSW; go_simp; all_goals (with_reducible rfl)
    (try simp only [Act.put, List.setIfInBounds_toArray, List.set_cons_zero, List.set_cons_succ])
    refine takeL (i := 2) (v := ?_) rfl (by kernel_rfl) (by kernel_rfl) (by kernel_rfl) (fun _ _ _ h => h) (Or.inl ⟨by rfl, ?_⟩) (unhide HH) ?_
    rotate_left 1
    · intro W1 hSW; have hc := hSW.cell (unhide HS3) (by simp); clear hSW; go_simp; all_goals (with_reducible rfl)
    (try simp only [Act.put, List.setIfInBounds_toArray, List.set_cons_zero, List.set_cons_succ])
    refine takeL (i := 3) (v := ?_) rfl (by kernel_rfl) (by kernel_rfl) (by kernel_rfl) (fun _ _ _ h => h) (Or.inl ⟨by rfl, ?_⟩) (unhide HH) ?_
    rotate_left 1
    · intro W hSW; go_simp; all_goals (with_reducible rfl)
    (try simp only [Act.put, List.setIfInBounds_toArray, List.set_cons_zero, List.set_cons_succ])
    refine wpAnyH_ready (rs := [4]) (by kernel_rfl) (by simp) ?_
    refine consL rfl (fun K hK => ?_) AllReadyH.nil
    go_simp
    refine (eval_any _ _ (nb 32 r) y _ (unhide HQ) (by rw [nb_len]; omega) hy).mono ?_
    rintro e w4 ⟨rfl, hk4⟩
    have HK4 := hide hk4
    clear hk4
    go_wp2_with fail
    refine hK.out _ _ ((unhide HH).ofBelow (unhide HK4)) (fun hHeld => ?_)
    clear hK K HH
    have HH := hide hHeld
    clear hHeld
    (try simp only [Act.put, List.setIfInBounds_toArray, List.set_cons_zero, List.set_cons_succ])
    refine takeL (i := 5) (v := ?_) rfl (by kernel_rfl) (by kernel_rfl) (by kernel_rfl) (fun _ _ _ h => h) (Or.inl ⟨by rfl, ?_⟩) (unhide HH) ?_
    rotate_left 1
    · intro W hSW; go_simp; all_goals (with_reducible rfl)
    (try simp only [Act.put, List.setIfInBounds_toArray, List.set_cons_zero, List.set_cons_succ])
    refine wpAnyH_ready (rs := [6]) (by kernel_rfl) (by simp) ?_
    refine consL rfl (fun K hK => ?_) AllReadyH.nil
    have HH2 := HH
    have hB4 := (unhide HBK).below ((Below.refl _ W).drew.trans (unhide HK4)) (unhide HBK).lt
    have hf4 := hB4.free (j := i)
    have hc4 := hB4.cell (j := i) (by omega)
    clear hB4
    go_simp
    refine hK.out _ _ ((unhide HH2).setCell ⟨w1.heap.size + 1, i, none⟩ _ (.inl (by simp))) (fun hHeld => ?_)
    clear hHeld hK K
    (try simp only [Act.put, List.setIfInBounds_toArray, List.set_cons_zero, List.set_cons_succ])
    refine wpAnyH_done (by kernel_rfl) ?_ _
    exact val_post (f := fun pre => (pre.map it).foldl (valF (nb 32 r)) (List.replicate 8 0)) (k := i) (v := ev (nb 32 r) y) (unhide HBK) (by omega) (unhide HK4) (unhide HS3) (unhide HS4) (unhide HKW) (by omega) (by omega) (by omega) hB0 (unhide HQB) (by omega) (by show ((pre ++ [((⟨i, hi⟩ : Fin 8), (⟨y, hy⟩ : Fin 256))]).map it).foldl (valF (nb 32 r)) (List.replicate 8 0) = _; rw [List.map_append, List.foldl_append, unhide HS']; rfl)
  case done =>
    rintro D ys W hD hys ⟨hB, ⟨_, hs4⟩, _, hKW, _⟩ hK
    rw [hys, val_made] at hB
    have HB := hide hB
    clear hys hB
    gi_wp2
    refine ⟨by simp, .inl ⟨_, _, rfl, run_takeDeferred hK, ?_⟩⟩
    refine ⟨_, results_tmp rfl _ _ _, _, rfl, .inr ⟨w1.heap.size + 1, 8, rfl, by simp [valL], by unfold maxLen; omega, (unhide HB).of (World.putObj_heap_other (by omega)), by omega⟩, hKW.trans (belowK_b (w := w) (Nat.le_refl _) W D _ _ (by omega) hK rfl rfl)⟩
  case stop =>
    rintro D c pre W _ _ h _
    exact h.elim
end Go.Proofs.Ytkhpoomajebgoab

namespace Go.Proofs.Ytkhpoomajebgoab
open Go.RowKit Go.Shelf
attribute [local go_sem] Oper.semAt_some

end Go.Proofs.Ytkhpoomajebgoab

namespace Go.Proofs.Ytkhpoomajebgoab
open Go.RowKit Go.Shelf
attribute [local go_sem] Oper.semAt_some

theorem mod_eq (n : Int) : (wrap64 (n.tmod 255 + 255)).tmod 255 = n % 255 := by
  have h1 := Int.tmod_lt_of_pos n (show (0 : Int) < 255 by omega)
  have h2 : -255 < n.tmod 255 := by
    have := Int.lt_tmod_of_pos n (show (0 : Int) < 255 by omega)
    omega
  have h3 : (n.tmod 255) % 255 = n % 255 := by rw [Int.tmod_def, Int.sub_mul_emod_self_left]
  rw [IntWalk.wrap64_in _ ⟨by omega, by omega⟩, Int.tmod_eq_emod_of_nonneg (by omega), Int.add_emod_right, h3]

theorem twice_eq {m : Nat} (h : m < 255) : ((2 : Int) * (m : Int)).tmod 255 = ((2 * m % 255 : Nat) : Int) := by
  rw [Int.tmod_eq_emod_of_nonneg (by omega)]
  omega

/-- The box that the round's iterator has caught. -/
structure CapR (w : World) (B : Nat) (a : Int) (g : Nat) : Prop where
  c0 : w.cell? ⟨B, 0, none⟩ = some (.int .i64 a)
  c1 : w.cell? ⟨B, 1, none⟩ = some (.func (.func g) #[] #[])

theorem CapR.kq {S : List Nat} {n : Nat} {w w' : World} {B : Nat} {a : Int} {g : Nat} (h : CapR w B a g) (k : Kq S n w w') (hc : B < n) (sc : B ∉ S) : CapR w' B a g :=
  ⟨k.cell h.c0 hc sc, k.cell h.c1 hc sc⟩
theorem CapR.below {w w' : World} {B : Nat} {a : Int} {g : Nat} (h : CapR w B a g) (k : Below w.heap.size w w') : CapR w' B a g :=
  ⟨(k.cell (block_lt_of_cell h.c0)).trans h.c0, (k.cell (block_lt_of_cell h.c1)).trans h.c1⟩

theorem orb_facts : ∀ n : Fin 255, ∀ i : Fin 8, 2 * (n.val * 2 ^ i.val % 255) % 255 = n.val ∨ (i.val < 7 ∧ (orbF 8 n.val (2 * (n.val * 2 ^ i.val % 255) % 255)).length < (orbF 8 n.val (n.val * 2 ^ i.val % 255)).length) := by decide +kernel
theorem orb_next (n i : Nat) : 2 * (n * 2 ^ i % 255) % 255 = n * 2 ^ (i + 1) % 255 := by
  rw [Nat.mul_mod, Nat.mod_mod, ← Nat.mul_mod, show 2 * (n * 2 ^ i) = n * 2 ^ (i + 1) from by rw [Nat.pow_succ]; ac_rfl]

end Go.Proofs.Ytkhpoomajebgoab
