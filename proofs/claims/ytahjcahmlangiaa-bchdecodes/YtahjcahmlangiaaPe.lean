/-
  poly.Eval.
-/
import Derived.Test.YtahjcahmlangiaaPs
namespace Go.Proofs.Ytahjcahmlangiaa
open Go.RowKit Go.Shelf
attribute [local go_sem] Oper.semAt_some

theorem hor_lt {x : Nat} (l : List (Nat × Nat)) (h : ∀ y ∈ l, y.2 < 256) {v : Nat} (hv : v < 256) : l.foldl (hor x) v < 256 := by
  induction l generalizing v with
  | nil => exact hv
  | cons y l ih => exact ih (fun z hz => h z (List.mem_cons_of_mem _ hz)) (xor_lt (gmul_lt hv) (h y List.mem_cons_self))

set_option maxRecDepth 100000 in
set_option maxHeartbeats 4000000 in
theorem eval_any (v : Value) (g : Nat) (s : List Nat) (x : Nat) (w : World) (hA : Arg w v g s) (hs : s.length ≤ 100000) (hx : x < 256) :
    Calls Try.prog 24 #[v, .int .u8 x] w fun e W' => e = .returned (.int .u8 (ev s x : Nat)) ∧ Below w.heap.size w W' := by
  obtain ⟨⟨ao, c, rfl, hc1, hc2, hnil, hr⟩, hbs⟩ := hA
  have HR := hide hr
  clear hr hnil
  refine (callsIn_wide (n := 3)).1 ?_
  refine callsIn_of_wp_marks Try.func24 rfl trivial ?_ rfl
  simp only [Try.ntmps24, List.size_toArray, List.length_cons, List.length_nil, Nat.reduceAdd, Nat.reduceSub, Array.replicate_succ, Array.replicate_zero, List.push_toArray, List.append_toArray, List.nil_append, List.cons_append]
  gi_wp2
  have HC3 : Hid (((w.alloc (.cells #[.int .u8 (x : Int)] 5)).alloc (.cells #[.int .u8 0] 5)).cell? ⟨w.heap.size, 0, none⟩ = some (.int .u8 (x : Int))) :=
    (World.cell?_of_block (Below.heap_alloc _ _ _ (by simp))).trans (cell_new' w _ _).1
  have HC5 : Hid (((w.alloc (.cells #[.int .u8 (x : Int)] 5)).alloc (.cells #[.int .u8 0] 5)).cell? ⟨w.heap.size + 1, 0, none⟩ = some (.int .u8 0) ∧ ((w.alloc (.cells #[.int .u8 (x : Int)] 5)).alloc (.cells #[.int .u8 0] 5)).frozen? ⟨w.heap.size + 1, 0, none⟩ = false) := by
    have h := cell_new' (w.alloc (.cells #[.int .u8 (x : Int)] 5)) (.int .u8 0) 5
    rw [World.size_alloc] at h
    exact h
  have HW2 : Hid (Below w.heap.size w ((w.alloc (.cells #[.int .u8 (x : Int)] 5)).alloc (.cells #[.int .u8 0] 5))) := ((Below.refl _ w).alloc (Nat.le_refl _) _).alloc (by simp) _
  refine ⟨trivial, (callsIn_wide.2 (back_any _ _ ⟨_, _, _, rfl⟩)).mono ?_⟩
  rintro e w2 ⟨b1, rfl, hcb, hb1, hb2, hk2⟩
  have hz2 := hk2.size
  simp only [World.size_alloc] at hz2 hb1
  have hw2 : Below w.heap.size w w2 := (unhide HW2).trans (hk2.mono (by simp; omega))
  have c3 := (hk2.cell (block_lt_of_cell (unhide HC3))).trans (unhide HC3)
  have c5 := box_below (unhide HC5) hk2 (block_lt_of_cell (unhide HC5).1)
  have hr2 := (unhide HR).below hw2
  clear hk2 HW2 HC3 HC5
  gi_wp2
  refine wpIn_rangeFunc_ownF rfl (by omega) (gf := 64) (lb := #[.pointer (some ⟨b1, 0, none⟩)]) rfl trivial (enters_of Try.func64 (by kernel_rfl) rfl)
    (back_stops [w.heap.size + 1] 2 b1 w2.heap.size ao g s.length c s rfl hbs (by omega) w2 hcb hr2 (fun h => ⟨hr2.block_lt h, by have := (unhide HR).block_lt h; simp; omega⟩) hb2 (by simp; omega))
    (fun h k => h.trans k) (kq_b (Nat.le_refl _)) (Below.refl _ _) (fun _ => rfl)
    (fun pre W => ((W.cell? ⟨w.heap.size + 1, 0, none⟩ = some (.int .u8 ((pre.map it).foldl (hor x) 0 : Nat)) ∧ W.frozen? ⟨w.heap.size + 1, 0, none⟩ = false) ∧ W.cell? ⟨w.heap.size, 0, none⟩ = some (.int .u8 (x : Int))) ∧ Below w.heap.size w W ∧ Below 0 w2 W)
    (fun _ _ _ => False)
    (OwnFrom.and (Own.from (fun s A B row hs hg hr => ⟨⟨cell_kept hs.1.1 hg hr, (frozen_kept hs.1.1 hg hr).trans hs.1.2⟩, cell_kept hs.2 hg hr⟩) _) (OwnFrom.and (ownFrom_below (Nat.le_refl _) (by omega)) (ownFrom_below (by omega) (by omega))))
    (fun _ _ _ _ _ hs _ _ => hs)
    ⟨⟨c5, c3⟩, hw2, Below.refl _ _⟩
    (fun y => { tmps := #[.slice ao s.length c, .int .u8 x, undef, .pointer (some ⟨w.heap.size, 0, none⟩), .int .u8 0, .pointer (some ⟨w.heap.size + 1, 0, none⟩), undef, .int .u8 y.2.val, .slice ao s.length c, .func (.func 64) #[] #[.pointer (some ⟨b1, 0, none⟩)], .int .i64 y.1.val, .int .u8 y.2.val, undef, undef, undef, undef, undef, undef], defers := [] }) ?assign ?body ?done ?stop
  case assign =>
    intro l x W K hK
    gi_wp2
    exact hK
  case body =>
    rintro l pre ⟨⟨i, hi⟩, ⟨y, hy⟩⟩ W ⟨⟨⟨hc, hf⟩, hc3⟩, hB, hB0⟩ _
    have hz := hB0.size
    obtain ⟨t, ht⟩ : ∃ t, (pre.map it).foldl (hor x) 0 = t := ⟨_, rfl⟩
    have hlt : t < 256 := by rw [← ht]; exact hor_lt _ (fun z hz => by obtain ⟨q, _, rfl⟩ := List.mem_map.1 hz; exact q.2.isLt) (by omega)
    rw [ht] at hc
    have HT := hide ht
    clear ht
    have hxor := bits_xor_u8 (gmul_lt (b := x) hlt) hy
    gi_wp2
    refine ⟨trivial, (CallsIn.inRound l (callsIn_wide.2 (mul_any t x hlt hx W))).mono ?_⟩
    rintro e w4 ⟨rfl, hk4⟩
    have hc4 := (hk4.cell (block_lt_of_cell hc)).trans hc
    have hf4 := (World.frozen?_of_block (a := ⟨w.heap.size + 1, 0, none⟩) (hk4.block (w.heap.size + 1) (block_lt_of_cell hc))).trans hf
    have hc34 := (hk4.cell (block_lt_of_cell hc3)).trans hc3
    gi_wp2
    refine ⟨(kept_of_below hk4).trans (KeepsOthers.setCell _ _ _), ((Kq.refl _ _ W).below hk4 hz).setCell ⟨w.heap.size + 1, 0, none⟩ _ (by simp), ⟨⟨?_, by rw [World.frozen?_setCell]; exact hf4⟩, ?_⟩, (hB.trans (hk4.mono hB.size)).setCell (p := ⟨w.heap.size + 1, 0, none⟩) (by simp) _, (hB0.trans (hk4.mono (by omega))).setCell (p := ⟨w.heap.size + 1, 0, none⟩) (by omega) _⟩
    · rw [List.map_append, List.foldl_append, unhide HT]
      exact World.cell?_setCell_same' _ _ _ (by rw [hc4]; rfl)
    · rw [World.cell?_setCell_other _ _ _ _ (by simp)]
      exact hc34
  case done =>
    rintro D ys W hD hys ⟨⟨⟨hc, _⟩, _⟩, hB, _⟩ hK
    rw [hys, ev_made] at hc
    clear hys
    gi_wp2
    refine ⟨by simp, .inl ⟨_, _, rfl, run_takeDeferred hK, ?_⟩⟩
    exact ⟨_, results_tmp rfl _ _ _, rfl, hB.trans (belowK_b (w := w) (Nat.le_refl _) W D _ _ (by omega) hK rfl rfl)⟩
  case stop =>
    rintro D c pre W _ _ h _
    exact h.elim

end Go.Proofs.Ytahjcahmlangiaa
