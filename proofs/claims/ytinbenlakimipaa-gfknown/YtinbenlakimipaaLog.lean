/-
  gf.Log: which power of 2 it is.
-/
import Derived.Test.YtinbenlakimipaaMul
namespace Go.Proofs.Ytinbenlakimipaa
open Go.RowKit Go.Shelf
attribute [local go_sem] Oper.semAt_some

theorem lg_at {a i : Nat} (h : E i = a) (hi : i < 255) : lg a = i := by
  have h0 := E_ne i
  unfold lg
  rw [if_neg (by omega), ← h, L_E hi]

theorem lg_none {a : Nat} (ha : a < 256) (h : ∀ i, i < 255 → E i ≠ a) : lg a = -1 := by
  unfold lg
  by_cases h0 : a = 0
  · rw [if_pos h0]
  · exact absurd (E_L (by omega) ha).1 (h _ (E_L (by omega) ha).2)

set_option maxRecDepth 100000 in
set_option maxHeartbeats 4000000 in
theorem log_any (a : Nat) (ha : a < 256) (w : World) :
    Calls Try.prog 14 #[.int .u8 a] w fun e W' => e = .returned (.int .i64 (lg a)) ∧ Below w.heap.size w W' := by
  refine (callsIn_wide (n := 3)).1 ?_
  refine callsIn_of_wp_marks Try.func14 rfl trivial ?_ rfl
  simp only [Try.ntmps14, List.size_toArray, List.length_cons, List.length_nil, Nat.reduceAdd, Nat.reduceSub, Array.replicate_succ, Array.replicate_zero, List.push_toArray, List.append_toArray, List.nil_append, List.cons_append]
  gi_wp2
  obtain ⟨w0, hw0⟩ : ∃ w0, ((w.alloc (.cells #[.int .u8 a] 5)).alloc (.cells #[.int .i64 0] 3)).alloc (.cells #[.int .i64 0] 3) = w0 := ⟨_, rfl⟩
  have c0 := box_below (box_below (cell_new' w (.int .u8 a) 5) ((Below.refl _ _).alloc (Nat.le_refl _) (.cells #[.int .i64 0] 3)) (by simp)) ((Below.refl _ _).alloc (Nat.le_refl _) (.cells #[.int .i64 0] 3)) (by simp; omega)
  have c1 := box_below (cell_new' (w.alloc (.cells #[.int .u8 a] 5)) (.int .i64 0) 3) ((Below.refl _ _).alloc (Nat.le_refl _) (.cells #[.int .i64 0] 3)) (by simp)
  have c2 := cell_new' ((w.alloc (.cells #[.int .u8 a] 5)).alloc (.cells #[.int .i64 0] 3)) (.int .i64 0) 3
  have hB0 : Below w.heap.size w w0 := by rw [← hw0]; exact (((Below.refl _ w).alloc (Nat.le_refl _) _).alloc (by simp) _).alloc (by simp; omega) _
  have hz0 : w.heap.size + 3 ≤ w0.heap.size := by rw [← hw0]; simp
  simp only [World.size_alloc] at c1 c2
  rw [hw0] at c0 c1 c2 ⊢
  clear hw0
  refine ⟨trivial, (callsIn_wide.2 (doubles_any 1 _)).mono ?_⟩
  rintro e w1 ⟨rfl, hk1⟩
  gi_wp2
  refine ⟨trivial, (callsIn_wide.2 (first_any 1 26 255 _)).mono ?_⟩
  rintro e w2 ⟨Bc, Bm, rfl, hcap, hc1, hm1, hc2, hm2, hk2⟩
  have hz1 := hk1.size
  have hz2 := hk2.size
  have hB2 : Below w.heap.size w w2 := (hB0.trans (hk1.mono (by omega))).trans (hk2.mono (by omega))
  have s0 := box_below (box_below c0 hk1 (by omega)) hk2 (by omega)
  have s1 := box_below (box_below c1 hk1 (by omega)) hk2 (by omega)
  have s2 := box_below (box_below c2 hk1 (by omega)) hk2 (by omega)
  clear hk1 hk2 c0 c1 c2 hB0
  gi_wp2
  refine wpIn_rangeFunc_ownF rfl (by omega) (gf := 28) (lb := #[.pointer (some ⟨Bc, 0, none⟩), .pointer (some ⟨Bm, 0, none⟩)]) rfl trivial (enters_of Try.func28 (by kernel_rfl) rfl)
    (first_double_stops [w.heap.size + 1, w.heap.size + 1 + 1] 2 Bc Bm w2.heap.size w2 hcap hc2 hm2 (Nat.le_refl _) (by simp; omega) (by simp; omega))
    (fun h k => h.trans k) (kq_b (Nat.le_refl _)) (Below.refl _ _) (fun _ => rfl)
    (fun pre W => ((∀ y ∈ pre, y.val ≠ a) ∧ W.cell? ⟨w.heap.size, 0, none⟩ = some (.int .u8 a) ∧ (W.cell? ⟨w.heap.size + 1, 0, none⟩ = some (.int .i64 0) ∧ W.frozen? ⟨w.heap.size + 1, 0, none⟩ = false) ∧ (W.cell? ⟨w.heap.size + 1 + 1, 0, none⟩ = some (.int .i64 (pre.length : Nat)) ∧ W.frozen? ⟨w.heap.size + 1 + 1, 0, none⟩ = false)) ∧ Below w.heap.size w W)
    (fun c pre W => (c = .ret ∧ ∃ (q : List (Fin 256)) (x : Fin 256), pre = q ++ [x] ∧ x.val = a ∧ W.cell? ⟨w.heap.size + 1, 0, none⟩ = some (.int .i64 (q.length : Nat))) ∧ Below w.heap.size w W)
    (OwnFrom.and (Own.from (fun s A B row hs hg hr => ⟨hs.1, cell_kept hs.2.1 hg hr, ⟨cell_kept hs.2.2.1.1 hg hr, (frozen_kept hs.2.2.1.1 hg hr).trans hs.2.2.1.2⟩, cell_kept hs.2.2.2.1 hg hr, (frozen_kept hs.2.2.2.1 hg hr).trans hs.2.2.2.2⟩) _) (ownFrom_below (Nat.le_refl _) hB2.size))
    (fun c => OwnFrom.and (Own.from (fun s A B row hs hg hr => ⟨hs.1, by obtain ⟨_, q, x, h1, h2, h3⟩ := hs; exact ⟨q, x, h1, h2, cell_kept h3 hg hr⟩⟩) _) (ownFrom_below (Nat.le_refl _) hB2.size))
    ⟨⟨by simp, s0.1, s1, s2⟩, hB2⟩
    (fun x => { tmps := #[.int .u8 a, .pointer (some ⟨w.heap.size, 0, none⟩), .pointer (some ⟨w.heap.size + 1, 0, none⟩), .pointer (some ⟨w.heap.size + 1 + 1, 0, none⟩), .int .u8 x.val, .agg #[.int .u8 1, .func (.func 26) #[] #[]], .func (.func 28) #[] #[.pointer (some ⟨Bc, 0, none⟩), .pointer (some ⟨Bm, 0, none⟩)], .int .u8 x.val, undef, undef, undef, undef, undef, undef], defers := [] }) ?assign ?body ?done ?stop
  case assign =>
    intro l x W K hK
    gi_wp2
    exact hK
  case body =>
    rintro l pre x W ⟨⟨hp, hca, ⟨hcr, hfr⟩, hcn, hfn⟩, hB⟩ hlt
    have hx := x.isLt
    by_cases hxa : x.val = a
    · have hxa' : (((x.val : Nat) : Int) == (a : Int)) = true := by rw [beq_iff_eq, hxa]
      gi_wp2
      exact ⟨KeepsOthers.setCell _ _ _, ⟨rfl, pre, x, rfl, hxa, World.cell?_setCell_same' _ _ _ (by rw [hcr]; rfl)⟩, hB.setCell (p := ⟨w.heap.size + 1, 0, none⟩) (by simp) _⟩
    · have hxa' : (((x.val : Nat) : Int) == (a : Int)) = false := by rw [beq_eq_false_iff_ne]; omega
      gi_wp2
      refine ⟨KeepsOthers.setCell _ _ _, (Kq.refl _ _ W).setCell ⟨w.heap.size + 1 + 1, 0, none⟩ _ (by simp), ⟨?_, ?_, ⟨?_, by rw [World.frozen?_setCell]; exact hfr⟩, ?_, by rw [World.frozen?_setCell]; exact hfn⟩, hB.setCell (p := ⟨w.heap.size + 1 + 1, 0, none⟩) (by simp; omega) _⟩
      · intro y hy
        rcases List.mem_append.1 hy with h | h
        · exact hp y h
        · rw [List.mem_singleton.1 h]; exact hxa
      · exact (World.cell?_of_block (Below.heap_setCell _ _ _ _ (by simp; omega))).trans hca
      · exact (World.cell?_of_block (Below.heap_setCell _ _ _ _ (by simp))).trans hcr
      · rw [show (pre ++ [x]).length = pre.length + 1 from by simp, Int.natCast_add]
        exact World.cell?_setCell_same' _ _ _ (by rw [hcn]; rfl)
  case done =>
    rintro D ys W hD hys ⟨⟨hne, _, ⟨hcr, hfr⟩, _⟩, hB⟩ hK
    gi_wp2
    have hK' := (KeepsOthers.setCell W ⟨w.heap.size + 1, 0, none⟩ (.int .i64 (-1))).same D _ hK rfl
    refine ⟨by simp, .inl ⟨_, _, rfl, run_takeDeferred hK', ?_⟩⟩
    have hc5 := cell_kept (World.cell?_setCell_same' W ⟨w.heap.size + 1, 0, none⟩ (.int .i64 (-1)) (by rw [hcr]; rfl)) (grownBy_putObj' _ D (.deferred none)) (fun r e => by cases e; exact ⟨_, hK', rfl⟩)
    refine ⟨.int .i64 (-1), ?_, ?_, (hB.setCell (p := ⟨w.heap.size + 1, 0, none⟩) (by simp) _).trans (belowK_b (w := w) (Nat.le_refl _) _ D _ _ (by omega) hK' rfl rfl)⟩
    · simp [results, Try.f14, go_sem, hc5]
    · rw [lg_none ha]
      intro i hi e
      have hm : E i ∈ ys.map Fin.val := by rw [hys]; exact List.mem_map.2 ⟨i, List.mem_range.2 hi, rfl⟩
      obtain ⟨y, hy, hye⟩ := List.mem_map.1 hm
      exact hne y hy (hye.trans e)
  case stop =>
    rintro D c pre W hD hpre ⟨⟨rfl, q, x, rfl, hxa, hcr⟩, hB⟩ hK
    gi_wp2
    refine ⟨by simp, .inl ⟨_, _, rfl, run_takeDeferred hK, ?_⟩⟩
    have hc5 := cell_kept hcr (grownBy_putObj' _ D (.deferred none)) (fun r e => by cases e; exact ⟨_, hK, rfl⟩)
    refine ⟨.int .i64 (q.length : Nat), ?_, ?_, hB.trans (belowK_b (w := w) (Nat.le_refl _) W D _ _ (by omega) hK rfl rfl)⟩
    · simp [results, Try.f14, go_sem, hc5]
    · obtain ⟨h1, h2⟩ := hpre
      have hl : (q ++ [x]).length = q.length + 1 := by simp
      rw [hl] at h1 h2
      have h3 := congrArg (fun l => l[q.length]?) h1
      simp at h3
      rw [lg_at (h3.symm.trans hxa) (by omega)]

end Go.Proofs.Ytinbenlakimipaa
