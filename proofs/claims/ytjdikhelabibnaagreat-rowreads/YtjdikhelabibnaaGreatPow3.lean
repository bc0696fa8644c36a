/-
  gf.Pow, gf.Exp, gf.Inv: powers of any number.
-/
import Derived.Test.YtjdikhelabibnaaGreatMul3
namespace Go.Proofs.YtjdikhelabibnaaGreat
open Go.RowKit Go.Shelf


set_option maxRecDepth 100000 in
set_option maxHeartbeats 1000000 in
theorem square_any (a : Nat) (w : World) (ha : a < 256) : Calls Tryz.prog 163 #[.int .u8 a] w fun e w' => e = .returned (.int .u8 (sqr a : Nat)) ∧ Below w.heap.size w w' := by
  go_enter Tryz.func163, Tryz.ntmps163
  go_wp2_with fail
  refine (mul_any a a ha ha w).mono ?_
  rintro e w1 ⟨rfl, hk⟩
  go_wp2
  go_ret
  exact ⟨rfl, hk⟩

section
attribute [local go_sem] Oper.semAt_some

/-- The product of what has come. -/
def prodX (pre : List (Fin 256)) : Nat := (pre.map Fin.val).foldl gmul 1

theorem prodX_snoc (pre : List (Fin 256)) (x : Fin 256) : prodX (pre ++ [x]) = gmul (prodX pre) x.val := by simp [prodX, List.foldl_append]

theorem prodX_lt (pre : List (Fin 256)) : prodX pre < 256 := by
  have : ∀ (l : List (Fin 256)) (s : Nat), s < 256 → (l.map Fin.val).foldl gmul s < 256 := by
    intro l
    induction l with
    | nil => intro s h; simpa using h
    | cons x l ih => intro s h; simp only [List.map_cons, List.foldl_cons]; exact ih _ (gmul_lt h)
  exact this pre 1 (by omega)

set_option maxRecDepth 100000 in
set_option maxHeartbeats 4000000 in
/-- Where it isn't of nought: the product of the squares that the bits pick. -/
theorem pow_loop (a : Nat) (n : Int) (ha : a < 256) (h : ¬ (a = 0 ∧ n ≠ 0)) (w : World) :
    Calls Tryz.prog 158 #[.int .u8 a, .int .i64 n] w fun e W' => e = .returned (.int .u8 ((picks sqr 8 a (n % 255).toNat).foldl gmul 1 : Nat)) ∧ Below w.heap.size w W' := by
  obtain ⟨m, hm⟩ : ∃ m : Nat, n % 255 = m := ⟨(n % 255).toNat, by omega⟩
  have hm1 : m < 256 := by omega
  have e : (n % 255).toNat = m := by omega
  rw [e]
  refine (callsIn_wide (n := 3)).1 ?_
  refine callsIn_of_wp_marks Tryz.func158 rfl trivial ?_ rfl
  simp only [Tryz.ntmps158, List.size_toArray, List.length_cons, List.length_nil, Nat.reduceAdd, Nat.reduceSub, Array.replicate_succ, Array.replicate_zero, List.push_toArray, List.append_toArray, List.nil_append, List.cons_append]
  have s0 := cell_new' w (.int .u8 1) 5
  by_cases h0 : a = 0
  · obtain rfl : n = 0 := Classical.byContradiction fun hn => h ⟨h0, hn⟩
    subst h0
    gi_wp2
    refine ⟨trivial, (callsIn_wide.2 (squares_any 0 _)).mono ?_⟩
    rintro e w1 ⟨rfl, hk1⟩
    gi_wp2
    refine ⟨trivial, (callsIn_wide.2 (around_any 0 _)).mono ?_⟩
    rintro e w1' ⟨rfl, hw1⟩
    subst hw1
    rw [hm]
    gi_wp2
    refine ⟨trivial, (callsIn_wide.2 (picked_any 0 163 m _)).mono ?_⟩
    rintro e w2 ⟨Bc, Bm, rfl, hcap, hc1, hm1', hc2, hm2, hk2⟩
    have hz := hk1.size
    have hz2 := hk2.size
    simp only [World.size_alloc] at hz
    have hB2 : Below w.heap.size w w2 := (((Below.refl _ w).alloc (Nat.le_refl _) _).trans (hk1.mono (by simp))).trans (hk2.mono (by omega))
    have s2 := box_below (box_below s0 hk1 (by simp)) hk2 (by omega)
    clear hk1 hk2 s0
    gi_wp2
    refine wpIn_rangeFunc_ownF rfl (by omega) (gf := 160) (lb := #[.pointer (some ⟨Bc, 0, none⟩), .pointer (some ⟨Bm, 0, none⟩)]) rfl trivial (enters_of Tryz.func160 (by kernel_rfl) rfl)
      (picked_square_stops (fun x w hx => square_any x w hx) (fun x hx => gmul_lt hx) [w.heap.size] 2 Bc Bm w2.heap.size 0 m 8 ha hm1 (by omega) w2 hcap hc2 hm2 (Nat.le_refl _) (by simp; omega) (by simp; omega))
      (fun h k => h.trans k) (kq_b (Nat.le_refl _)) (Below.refl _ _) (fun _ => rfl)
      (fun pre W => (W.cell? ⟨w.heap.size, 0, none⟩ = some (.int .u8 (prodX pre : Nat)) ∧ W.frozen? ⟨w.heap.size, 0, none⟩ = false) ∧ (Below w.heap.size w W ∧ w2.heap.size ≤ W.heap.size))
      (fun _ _ _ => False)
      (OwnFrom.and (Own.from (fun s A B row hs hg hr => ⟨cell_kept hs.1 hg hr, (frozen_kept hs.1 hg hr).trans hs.2⟩) _) (OwnFrom.and (ownFrom_below (Nat.le_refl _) hB2.size) (fun _ A B row hs hg hr => Nat.le_trans hs hg.size)))
      (fun _ _ _ _ _ hs _ _ => hs)
      ⟨s2, hB2, Nat.le_refl _⟩
      (fun x => { tmps := #[.int .u8 0, .int .i64 0, undef, undef, .int .u8 0, .pointer (some ⟨w.heap.size, 0, none⟩), .int .u8 x.val, .int .u8 0, .bool true, .bool true, .int .i64 0, .bool false, .bool false, .int .u8 0, .agg #[.int .u8 0, .func (.func 163) #[] #[]], .int .i64 0, .int .u64 m, .func (.func 160) #[] #[.pointer (some ⟨Bc, 0, none⟩), .pointer (some ⟨Bm, 0, none⟩)], .int .u8 x.val, undef, undef, undef, undef], defers := [] }) ?assign ?body ?done ?stop
    case assign =>
      intro l x W K hK
      gi_wp2
      exact hK
    case body =>
      rintro l pre x W ⟨⟨hc, hf⟩, hB, hS⟩ _
      have hx := x.isLt
      have hs := prodX_lt pre
      have hsz : w.heap.size < W.heap.size := by have := block_lt_of_cell hc; simpa using this
      gi_wp2
      refine ⟨trivial, CallsIn.inRound l ((callsIn_wide.2 (mul_any (prodX pre) x.val hs hx W)).mono ?_)⟩
      rintro e W2 ⟨rfl, hk⟩
      obtain ⟨hc', hf'⟩ := box_below ⟨hc, hf⟩ hk hsz
      gi_wp2
      refine ⟨(kept_of_below hk).trans (KeepsOthers.setCell _ _ _), ((Kq.refl _ _ W).below hk hS).setCell ⟨w.heap.size, 0, none⟩ _ (by simp), ⟨?_, by rw [World.frozen?_setCell]; exact hf'⟩, (hB.trans (hk.mono hB.size)).setCell (p := ⟨w.heap.size, 0, none⟩) (Nat.le_refl _) _, Nat.le_trans hS (Nat.le_trans hk.size (by simp [World.setCell]))⟩
      rw [prodX_snoc]
      exact World.cell?_setCell_same' _ _ _ (by rw [hc']; rfl)
    case done =>
      rintro D ys W hD hys ⟨⟨hc, _⟩, hB, _⟩ hK
      gi_wp2
      refine ⟨by simp, .inl ⟨_, _, rfl, run_takeDeferred hK, ?_⟩⟩
      refine ⟨_, results_tmp rfl _ _ _, ?_, hB.trans (belowK_b (w := w) (Nat.le_refl _) W D _ _ (by omega) hK rfl rfl)⟩
      rw [← hys]
      rfl
    case stop =>
      rintro D c pre W _ _ h _
      exact h.elim
  · have h0' : ((a : Int) == 0) = false := by rw [beq_eq_false_iff_ne]; omega
    gi_wp2
    refine ⟨trivial, (callsIn_wide.2 (squares_any a _)).mono ?_⟩
    rintro e w1 ⟨rfl, hk1⟩
    gi_wp2
    refine ⟨trivial, (callsIn_wide.2 (around_any n _)).mono ?_⟩
    rintro e w1' ⟨rfl, hw1⟩
    subst hw1
    rw [hm]
    gi_wp2
    refine ⟨trivial, (callsIn_wide.2 (picked_any a 163 m _)).mono ?_⟩
    rintro e w2 ⟨Bc, Bm, rfl, hcap, hc1, hm1', hc2, hm2, hk2⟩
    have hz := hk1.size
    have hz2 := hk2.size
    simp only [World.size_alloc] at hz
    have hB2 : Below w.heap.size w w2 := (((Below.refl _ w).alloc (Nat.le_refl _) _).trans (hk1.mono (by simp))).trans (hk2.mono (by omega))
    have s2 := box_below (box_below s0 hk1 (by simp)) hk2 (by omega)
    clear hk1 hk2 s0
    gi_wp2
    refine wpIn_rangeFunc_ownF rfl (by omega) (gf := 160) (lb := #[.pointer (some ⟨Bc, 0, none⟩), .pointer (some ⟨Bm, 0, none⟩)]) rfl trivial (enters_of Tryz.func160 (by kernel_rfl) rfl)
      (picked_square_stops (fun x w hx => square_any x w hx) (fun x hx => gmul_lt hx) [w.heap.size] 2 Bc Bm w2.heap.size a m 8 ha hm1 (by omega) w2 hcap hc2 hm2 (Nat.le_refl _) (by simp; omega) (by simp; omega))
      (fun h k => h.trans k) (kq_b (Nat.le_refl _)) (Below.refl _ _) (fun _ => rfl)
      (fun pre W => (W.cell? ⟨w.heap.size, 0, none⟩ = some (.int .u8 (prodX pre : Nat)) ∧ W.frozen? ⟨w.heap.size, 0, none⟩ = false) ∧ (Below w.heap.size w W ∧ w2.heap.size ≤ W.heap.size))
      (fun _ _ _ => False)
      (OwnFrom.and (Own.from (fun s A B row hs hg hr => ⟨cell_kept hs.1 hg hr, (frozen_kept hs.1 hg hr).trans hs.2⟩) _) (OwnFrom.and (ownFrom_below (Nat.le_refl _) hB2.size) (fun _ A B row hs hg hr => Nat.le_trans hs hg.size)))
      (fun _ _ _ _ _ hs _ _ => hs)
      ⟨s2, hB2, Nat.le_refl _⟩
      (fun x => { tmps := #[.int .u8 a, .int .i64 n, undef, undef, .int .u8 0, .pointer (some ⟨w.heap.size, 0, none⟩), .int .u8 x.val, .int .u8 a, .bool false, .bool false, undef, undef, .bool false, .int .u8 a, .agg #[.int .u8 a, .func (.func 163) #[] #[]], .int .i64 n, .int .u64 m, .func (.func 160) #[] #[.pointer (some ⟨Bc, 0, none⟩), .pointer (some ⟨Bm, 0, none⟩)], .int .u8 x.val, undef, undef, undef, undef], defers := [] }) ?assign ?body ?done ?stop
    case assign =>
      intro l x W K hK
      gi_wp2
      exact hK
    case body =>
      rintro l pre x W ⟨⟨hc, hf⟩, hB, hS⟩ _
      have hx := x.isLt
      have hs := prodX_lt pre
      have hsz : w.heap.size < W.heap.size := by have := block_lt_of_cell hc; simpa using this
      gi_wp2
      refine ⟨trivial, CallsIn.inRound l ((callsIn_wide.2 (mul_any (prodX pre) x.val hs hx W)).mono ?_)⟩
      rintro e W2 ⟨rfl, hk⟩
      obtain ⟨hc', hf'⟩ := box_below ⟨hc, hf⟩ hk hsz
      gi_wp2
      refine ⟨(kept_of_below hk).trans (KeepsOthers.setCell _ _ _), ((Kq.refl _ _ W).below hk hS).setCell ⟨w.heap.size, 0, none⟩ _ (by simp), ⟨?_, by rw [World.frozen?_setCell]; exact hf'⟩, (hB.trans (hk.mono hB.size)).setCell (p := ⟨w.heap.size, 0, none⟩) (Nat.le_refl _) _, Nat.le_trans hS (Nat.le_trans hk.size (by simp [World.setCell]))⟩
      rw [prodX_snoc]
      exact World.cell?_setCell_same' _ _ _ (by rw [hc']; rfl)
    case done =>
      rintro D ys W hD hys ⟨⟨hc, _⟩, hB, _⟩ hK
      gi_wp2
      refine ⟨by simp, .inl ⟨_, _, rfl, run_takeDeferred hK, ?_⟩⟩
      refine ⟨_, results_tmp rfl _ _ _, ?_, hB.trans (belowK_b (w := w) (Nat.le_refl _) W D _ _ (by omega) hK rfl rfl)⟩
      rw [← hys]
      rfl
    case stop =>
      rintro D c pre W _ _ h _
      exact h.elim
end

set_option maxRecDepth 100000 in
set_option maxHeartbeats 1000000 in
theorem pow_any (a : Nat) (n : Int) (ha : a < 256) (w : World) :
    Calls Tryz.prog 158 #[.int .u8 a, .int .i64 n] w fun e W' => e = .returned (.int .u8 (pw a n : Nat)) ∧ Below w.heap.size w W' := by
  by_cases h : a = 0 ∧ n ≠ 0
  · obtain ⟨rfl, hn⟩ := h
    have hn1 : (n != 0) = true := by rw [bne_iff_ne]; exact hn
    rw [pw_zero hn]
    go_enter Tryz.func158, Tryz.ntmps158
    go_wp2
    go_ret
    exact ⟨rfl, Below.refl _ _⟩
  · have e : (picks sqr 8 a (n % 255).toNat).foldl gmul 1 = pw a n := by
      by_cases hn : n = 0
      · subst hn
        rw [show ((0 : Int) % 255).toNat = 0 from rfl, picks_nought, pw_nought]
        rfl
      · have h0 : a ≠ 0 := fun e => h ⟨e, hn⟩
        rw [pow_picks (by omega) ha]
        unfold pw
        rw [if_neg hn, if_neg h0]
    have := pow_loop a n ha h w
    rw [e] at this
    exact this

set_option maxRecDepth 100000 in
set_option maxHeartbeats 1000000 in
theorem exp_any (n : Int) (w : World) : Calls Tryz.prog 146 #[.int .i64 n] w fun e W' => e = .returned (.int .u8 (X n : Nat)) ∧ Below w.heap.size w W' := by
  go_enter Tryz.func146, Tryz.ntmps146
  go_wp2_with fail
  refine (pow_any 2 n (by omega) w).mono ?_
  rintro e w1 ⟨rfl, hk⟩
  rw [pw_two]
  go_wp2
  go_ret
  exact ⟨rfl, hk⟩

set_option maxRecDepth 100000 in
set_option maxHeartbeats 1000000 in
theorem inv_any (a : Nat) (ha : a < 256) (w : World) : Calls Tryz.prog 151 #[.int .u8 a] w fun e W' => e = .returned (.int .u8 (pw a (-1) : Nat)) ∧ Below w.heap.size w W' := by
  go_enter Tryz.func151, Tryz.ntmps151
  go_wp2_with fail
  refine (pow_any a (-1) ha w).mono ?_
  rintro e w1 ⟨rfl, hk⟩
  go_wp2
  go_ret
  exact ⟨rfl, hk⟩

end Go.Proofs.YtjdikhelabibnaaGreat
