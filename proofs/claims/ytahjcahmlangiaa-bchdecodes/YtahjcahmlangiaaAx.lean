/-
  poly.addTimes: x times p is added to sum.
-/
import Derived.Test.YtahjcahmlangiaaSd
namespace Go.Proofs.Ytahjcahmlangiaa
open Go.RowKit Go.Shelf
attribute [local go_sem] Oper.semAt_some

/-- Block g begins with the bytes s. -/
def Blk (w : World) (g : Nat) (s : List Nat) : Prop := ∃ cur, w.heap[g]? = some (.cells cur 5 (0, 0)) ∧ ∀ j, j < s.length → cur[j]? = some (.int .u8 ((cf s j : Nat) : Int))
theorem Blk.lt {w : World} {g : Nat} {s : List Nat} (h : Blk w g s) : g < w.heap.size := by
  obtain ⟨cur, h, _⟩ := h
  exact lt_of_block h
theorem Blk.cell {w : World} {g : Nat} {s : List Nat} (h : Blk w g s) {j : Nat} (hj : j < s.length) : w.cell? ⟨g, j, none⟩ = some (.int .u8 ((cf s j : Nat) : Int)) := by
  obtain ⟨cur, h, hc⟩ := h
  simp [World.cell?, h, hc j hj]
theorem Blk.free {w : World} {g : Nat} {s : List Nat} (h : Blk w g s) {j : Nat} : w.frozen? ⟨g, j, none⟩ = false := by
  obtain ⟨cur, h, hc⟩ := h
  simp [World.frozen?, h]
theorem Blk.of {w w' : World} {g : Nat} {s : List Nat} (h : Blk w g s) (e : w'.heap[g]? = w.heap[g]?) : Blk w' g s := by
  obtain ⟨cur, h, hc⟩ := h
  exact ⟨cur, e.trans h, hc⟩
theorem Blk.below {w w' : World} {g n : Nat} {s : List Nat} (h : Blk w g s) (k : Below n w w') (hn : g < n) : Blk w' g s := h.of (k.block g hn)
theorem Blk.set {w : World} {g : Nat} {s : List Nat} (h : Blk w g s) (j v : Nat) (hj : j < s.length) : Blk (w.setCell ⟨g, j, none⟩ (.int .u8 (v : Int))) g (s.set j v) := by
  obtain ⟨cur, h, hc⟩ := h
  refine ⟨cur.setIfInBounds j (.int .u8 (v : Int)), heap_setCell_same w g j _ _ _ h, fun i hi => ?_⟩
  rw [List.length_set] at hi
  have hj2 : j < cur.size := by
    have := hc j hj
    exact (Array.getElem?_eq_some_iff.1 this).1
  rw [Array.getElem?_setIfInBounds, cf_set _ _ _ _ hj]
  by_cases e : j = i
  · subst e; rw [if_pos rfl, if_pos hj2, if_pos rfl]
  · rw [if_neg e, if_neg (fun k => e k.symm)]; exact hc i hi
theorem Blk.row {w : World} {g o n : Nat} {s : List Nat} (h : Blk w g s) : Row w (some ⟨g, o, none⟩) g (ints ((s.drop o).take n)) := by
  refine .inr ⟨o, rfl, fun j hj => ?_⟩
  rw [ints_len, List.length_take, List.length_drop] at hj
  rw [h.cell (by omega), ints_getD, cf_take, if_pos (by omega), cf_drop]

theorem keeps_of_kp {w w' : World} {g : Nat} {s : List Nat} (h : Kp [g] w w') (hb : Blk w g s) : KeepsOthers w w' :=
  ⟨h.size, fun k o ho hc => by
    by_cases e : k = g
    · subst e
      obtain ⟨cur, h1, _⟩ := hb
      rw [h1] at ho
      cases ho
      simp [Obj.isCells] at hc
    · exact h.heap ho (by simpa using e)⟩

theorem kp_kq {S : List Nat} {n : Nat} {w w' : World} (h : Kp S w w') (hn : n ≤ w.heap.size) : Kq S n w w' := ⟨h.size, fun k hk hs => h.block k (by omega) hs⟩

theorem ownFrom_kp {β : Type} {S : List Nat} {B : Nat} {w₀ : World} (hB : w₀.heap.size ≤ B) : OwnFrom B (fun (_ : β) W => Kp S w₀ W) :=
  fun _ _ _ _ hs hg hr => hs.grown hg (fun k e => .inr (Nat.le_trans hB (hr k e).1))
theorem own_blk {β : Type} (g : Nat) (f : β → List Nat) : Own (fun (s : β) W => Blk W g (f s)) := fun s W W' row hs hg hr => by
  refine hs.of (hg.block g hs.lt (fun e => ?_))
  obtain ⟨o, ho, hc⟩ := hr g e.symm
  obtain ⟨cur, h1, _⟩ := hs
  rw [h1] at ho
  cases ho
  simp [Obj.isCells] at hc

/-- Behind a round's store. -/
theorem ax_post {N : Nat} {w W w4 : World} {g k v b3 b5 : Nat} {s' : List Nat} {h3 h5 : Value} {f : List (Fin N × Fin 256) → List Nat} {pre' : List (Fin N × Fin 256)}
    (hB : Blk W g s') (hk : k < s'.length) (h4 : Below W.drew.heap.size W.drew w4) (c3 : W.cell? ⟨b3, 0, none⟩ = some h3) (c5 : W.cell? ⟨b5, 0, none⟩ = some h5) (hK : Kp [g] w W)
    (e3 : b3 ≠ g) (e5 : b5 ≠ g) (hf : f pre' = s'.set k v) :
    KeepsOthers W (w4.setCell ⟨g, k, none⟩ (.int .u8 (v : Int))) ∧ Kq [g] w.heap.size W (w4.setCell ⟨g, k, none⟩ (.int .u8 (v : Int))) ∧ Blk (w4.setCell ⟨g, k, none⟩ (.int .u8 (v : Int))) g (f pre') ∧
      ((w4.setCell ⟨g, k, none⟩ (.int .u8 (v : Int))).cell? ⟨b3, 0, none⟩ = some h3 ∧ (w4.setCell ⟨g, k, none⟩ (.int .u8 (v : Int))).cell? ⟨b5, 0, none⟩ = some h5) ∧ Kp [g] w (w4.setCell ⟨g, k, none⟩ (.int .u8 (v : Int))) := by
  have hW : Kp [] W w4 := (Kp.refl [] W).drew.ofBelow h4
  have h1 : Kp [g] W (w4.setCell ⟨g, k, none⟩ (.int .u8 (v : Int))) := (hW.mono (by simp)).setCell _ _ (.inl (by simp))
  refine ⟨keeps_of_kp h1 hB, kp_kq h1 hK.size, ?_, ⟨h1.cell c3 (by simpa using e3), h1.cell c5 (by simpa using e5)⟩, hK.trans h1 (by simp)⟩
  rw [hf]
  exact (hB.of (hW.block g hB.lt (by simp))).set k v hk

set_option maxRecDepth 100000 in
set_option maxHeartbeats 4000000 in
theorem addTimes_any (g o n c : Nat) (s : List Nat) (ap : Option Addr) (gp np cp : Nat) (p : List Nat) (x : Nat) (w : World) (hBl : Blk w g s) (hs : Bs s) (hp : p.length = np) (hpb : Bs p) (hr : Row w ap gp (ints p)) (hne : p ≠ [] → gp ≠ g) (hx : x < 256)
    (hop : o + np ≤ s.length) (hnp : np ≤ n) (hcm : np ≤ 281474976710656) :
    Calls Try.prog 46 #[.slice (some ⟨g, o, none⟩) n c, .slice ap np cp, .int .u8 x] w fun e W' => (∃ v, e = .returned v) ∧ Blk W' g (addAt s o p x) ∧ Kp [g] w W' := by
  have hglt := hBl.lt
  refine (callsIn_wide (n := 3)).1 ?_
  refine callsIn_of_wp_marks Try.func46 rfl trivial ?_ rfl
  simp only [Try.ntmps46, List.size_toArray, List.length_cons, List.length_nil, Nat.reduceAdd, Nat.reduceSub, Array.replicate_succ, Array.replicate_zero, List.push_toArray, List.append_toArray, List.nil_append, List.cons_append]
  gi_wp2
  refine ⟨trivial, (callsIn_wide.2 (numbers_any _ _)).mono ?_⟩
  rintro e w1 ⟨rfl, rfl⟩
  gi_wp2
  refine ⟨trivial, (callsIn_wide.2 (said_any _ _ ⟨_, _, _, rfl⟩)).mono ?_⟩
  rintro e w2 ⟨b, rfl, hcb, hb1, hb2, hk2⟩
  have hz2 := hk2.size
  simp only [World.size_alloc] at hz2 hb1
  have h12 : Kp [] w w2 := (((Kp.refl [] w).alloc _).alloc _).ofBelow hk2
  have c3 : w2.cell? ⟨w.heap.size, 0, none⟩ = some (.slice (some ⟨g, o, none⟩) n c) := by
    have h := (cell_new' w (.slice (some ⟨g, o, none⟩) n c) 22).1
    exact (hk2.cell (p := ⟨w.heap.size, 0, none⟩) (by simp; omega)).trans ((World.cell?_of_block (Below.heap_alloc _ _ _ (by simp))).trans h)
  have c5 : w2.cell? ⟨w.heap.size + 1, 0, none⟩ = some (.int .u8 (x : Int)) := by
    have h := (cell_new' (w.alloc (.cells #[.slice (some ⟨g, o, none⟩) n c] 22)) (.int .u8 (x : Int)) 5).1
    rw [World.size_alloc] at h
    exact (hk2.cell (p := ⟨w.heap.size + 1, 0, none⟩) (by simp)).trans h
  have hr2 := hr.keep h12 (by simp)
  have hB2 : Blk w2 g s := hBl.of (h12.block g hglt (by simp))
  clear hk2
  gi_wp2
  refine wpIn_rangeFunc_ownF rfl (by omega) (gf := 69) (lb := #[.pointer (some ⟨b, 0, none⟩)]) rfl trivial (enters_of Try.func69 (by kernel_rfl) rfl)
    (said_stops [g] 2 b w2.heap.size ap gp np cp p hp hpb (by omega) w2 hcb hr2 (fun h => ⟨hr2.block_lt h, by simpa using hne h⟩))
    (fun h k => h.trans k) (kq_b (Nat.le_refl _)) (Below.refl _ _) (fun _ => rfl)
    (fun pre W => Blk W g ((pre.map it).foldl (axs o x) s) ∧ (W.cell? ⟨w.heap.size, 0, none⟩ = some (.slice (some ⟨g, o, none⟩) n c) ∧ W.cell? ⟨w.heap.size + 1, 0, none⟩ = some (.int .u8 (x : Int))) ∧ Kp [g] w2 W)
    (fun _ _ _ => False)
    (OwnFrom.and (Own.from (own_blk g _) _) (OwnFrom.and (Own.from (fun s A B row hs hg hr => ⟨cell_kept hs.1 hg hr, cell_kept hs.2 hg hr⟩) _) (ownFrom_kp (Nat.le_refl _))))
    (fun _ _ _ _ _ hs _ _ => hs)
    ⟨hB2, ⟨c3, c5⟩, Kp.refl _ _⟩
    (fun y => { tmps := #[.slice (some ⟨g, o, none⟩) n c, .slice ap np cp, .int .u8 x, .pointer (some ⟨w.heap.size, 0, none⟩), undef, .pointer (some ⟨w.heap.size + 1, 0, none⟩), .int .i64 y.1.val, .int .u8 y.2.val, .slice ap np cp, .slice ap np cp, .func (.func 69) #[] #[.pointer (some ⟨b, 0, none⟩)], .int .i64 y.1.val, .int .u8 y.2.val, undef, undef, undef, undef, undef, undef, undef, undef, undef], defers := [] }) ?assign ?body ?done ?stop
  case assign =>
    intro l x W K hK
    gi_wp2
    exact hK
  case body =>
    have hg3 : w.heap.size ≠ g := by omega
    have hg5 : w.heap.size + 1 ≠ g := by omega
    rintro l pre ⟨⟨i, hi⟩, ⟨y, hy⟩⟩ W ⟨hB, ⟨hs3, hs5⟩, hKW⟩ _
    obtain ⟨s', hs'⟩ : ∃ s', (pre.map it).foldl (axs o x) s = s' := ⟨_, rfl⟩
    have hlen : s'.length = s.length := by rw [← hs']; exact axf_len _ _ _ _
    have hbs' : Bs s' := by rw [← hs']; exact axf_bs hs (fun z hz => by obtain ⟨q, _, rfl⟩ := List.mem_map.1 hz; exact q.2.isLt)
    rw [hs'] at hB
    have HE := hide (hB.cell (j := o + i) (by omega))
    have HF := hide (hB.free (j := o + i))
    have HBK := hide hB
    have HS3 := hide hs3
    have HS5 := hide hs5
    have HKW := hide hKW
    have HS' := hide hs'
    have hzW := hKW.size
    clear hB hs3 hs5 hKW hs'
    have hin : (i : Int) < (n : Int) := by omega
    have hv := hbs' (o + i)
    have hxl : gmul y x < 256 := gmul_lt hy
    have hxor := bits_xor_u8 hv hxl
    gi_wp2
    refine wpIn_region_round (S := fun W' => Kp [g] W W') (by kernel_rfl) (by kernel_rfl) (fun ⟨_, _, h⟩ => h) ((Kp.refl _ _).drew) (fun hHeld => ?_)
    have HH := hide hHeld
    clear hHeld
    refine takeL (i := 0) (v := ?_) rfl (by kernel_rfl) (by kernel_rfl) (by kernel_rfl) (fun _ _ _ h => h) (Or.inl ⟨by rfl, ?_⟩) (unhide HH) ?_
    rotate_left 1
    · intro W1 hSW; have hc := hSW.cell (unhide HS3) (by simp; omega); clear hSW; go_simp; all_goals (with_reducible rfl)
    (try simp only [Act.put, List.setIfInBounds_toArray, List.set_cons_zero, List.set_cons_succ])
    refine takeL (i := 1) (v := ?_) rfl (by kernel_rfl) (by kernel_rfl) (by kernel_rfl) (fun _ _ _ h => h) (Or.inl ⟨by rfl, ?_⟩) (unhide HH) ?_
    rotate_left 1
    · intro W hSW; go_simp; all_goals (with_reducible rfl)
    (try simp only [Act.put, List.setIfInBounds_toArray, List.set_cons_zero, List.set_cons_succ])
    refine takeL (i := 2) (v := ?_) rfl (by kernel_rfl) (by kernel_rfl) (by kernel_rfl) (fun _ _ _ h => h) (Or.inl ⟨by rfl, ?_⟩) (unhide HH) ?_
    rotate_left 1
    · intro W hSW; go_simp; all_goals (with_reducible rfl)
    (try simp only [Act.put, List.setIfInBounds_toArray, List.set_cons_zero, List.set_cons_succ])
    refine takeL (i := 4) (v := ?_) rfl (by kernel_rfl) (by kernel_rfl) (by kernel_rfl) (fun _ _ _ h => h) (Or.inl ⟨by rfl, ?_⟩) (unhide HH) ?_
    rotate_left 1
    · intro W hSW; go_simp; all_goals (with_reducible rfl)
    (try simp only [Act.put, List.setIfInBounds_toArray, List.set_cons_zero, List.set_cons_succ])
    refine takeL (i := 5) (v := ?_) rfl (by kernel_rfl) (by kernel_rfl) (by kernel_rfl) (fun _ _ _ h => h) (Or.inl ⟨by rfl, ?_⟩) (unhide HH) ?_
    rotate_left 1
    · intro W1 hSW; have hc := hSW.cell (unhide HS5) (by simp; omega); clear hSW; go_simp; all_goals (with_reducible rfl)
    (try simp only [Act.put, List.setIfInBounds_toArray, List.set_cons_zero, List.set_cons_succ])
    refine wpAnyH_ready (rs := [3, 6]) (by kernel_rfl) (by simp) ?_
    refine consL rfl (fun K hK => ?_) (consL rfl (fun K hK => ?_) AllReadyH.nil)
    focus
      have he := unhide HE
      go_simp
      refine hK.out _ _ (unhide HH) (fun hHeld => ?_)
      clear hK K HH
      have HH := hide hHeld
      clear hHeld
      (try simp only [Act.put, List.setIfInBounds_toArray, List.set_cons_zero, List.set_cons_succ])
      clear he
      refine wpAnyH_ready (rs := [6]) (by kernel_rfl) (by simp) ?_
      refine consL rfl (fun K hK => ?_) AllReadyH.nil
      go_simp
      refine (mul_any y x hy hx _).mono ?_
      rintro e w4 ⟨rfl, hk4⟩
      have HK4 := hide hk4
      have HE4 := hide ((hk4.cell (block_lt_of_cell (unhide HE))).trans (unhide HE))
      have HF4 := hide ((World.frozen?_of_block (a := ⟨g, o + i, none⟩) (hk4.block g (block_lt_of_cell (unhide HE)))).trans (unhide HF))
      clear hk4
      go_wp2_with fail
      refine hK.out _ _ ((unhide HH).ofBelow (unhide HK4)) (fun hHeld => ?_)
      clear hK K HH
      have HH := hide hHeld
      clear hHeld
      (try simp only [Act.put, List.setIfInBounds_toArray, List.set_cons_zero, List.set_cons_succ])
      refine takeL (i := 7) (v := ?_) rfl (by kernel_rfl) (by kernel_rfl) (by kernel_rfl) (fun _ _ _ h => h) (Or.inl ⟨by rfl, ?_⟩) (unhide HH) ?_
      rotate_left 1
      · intro W hSW; go_simp; all_goals (with_reducible rfl)
      (try simp only [Act.put, List.setIfInBounds_toArray, List.set_cons_zero, List.set_cons_succ])
      refine takeL (i := 8) (v := ?_) rfl (by kernel_rfl) (by kernel_rfl) (by kernel_rfl) (fun _ _ _ h => h) (Or.inl ⟨by rfl, ?_⟩) (unhide HH) ?_
      rotate_left 1
      · intro W hSW; go_simp; all_goals (with_reducible rfl)
      (try simp only [Act.put, List.setIfInBounds_toArray, List.set_cons_zero, List.set_cons_succ])
      refine wpAnyH_ready (rs := [9]) (by kernel_rfl) (by simp) ?_
      refine consL rfl (fun K hK => ?_) AllReadyH.nil
      have HH2 := HH
      have hf4 : (w4).frozen? ⟨g, o + i, none⟩ = false := unhide HF4
      have hc4 := unhide HE4
      go_simp
      refine hK.out _ _ ((unhide HH2).setCell ⟨g, o + i, none⟩ _ (.inl (by simp))) (fun hHeld => ?_)
      clear hHeld hK K
      (try simp only [Act.put, List.setIfInBounds_toArray, List.set_cons_zero, List.set_cons_succ])
      refine wpAnyH_done (by kernel_rfl) ?_ _
      exact ax_post (f := fun pre => (pre.map it).foldl (axs o x) s) (k := o + i) (v := cf s' (o + i) ^^^ gmul y x) (unhide HBK) (by omega) (unhide HK4) (unhide HS3) (unhide HS5) (unhide HKW) hg3 hg5 (by show ((pre ++ [((⟨i, hi⟩ : Fin np), (⟨y, hy⟩ : Fin 256))]).map it).foldl (axs o x) s = _; rw [List.map_append, List.foldl_append, unhide HS']; rfl)
    focus
      go_simp
      refine (mul_any y x hy hx _).mono ?_
      rintro e w4 ⟨rfl, hk4⟩
      have HK4 := hide hk4
      have HE4 := hide ((hk4.cell (block_lt_of_cell (unhide HE))).trans (unhide HE))
      have HF4 := hide ((World.frozen?_of_block (a := ⟨g, o + i, none⟩) (hk4.block g (block_lt_of_cell (unhide HE)))).trans (unhide HF))
      clear hk4
      go_wp2_with fail
      refine hK.out _ _ ((unhide HH).ofBelow (unhide HK4)) (fun hHeld => ?_)
      clear hK K HH
      have HH := hide hHeld
      clear hHeld
      (try simp only [Act.put, List.setIfInBounds_toArray, List.set_cons_zero, List.set_cons_succ])
      refine wpAnyH_ready (rs := [3]) (by kernel_rfl) (by simp) ?_
      refine consL rfl (fun K hK => ?_) AllReadyH.nil
      have he := unhide HE4
      go_simp
      refine hK.out _ _ (unhide HH) (fun hHeld => ?_)
      clear hK K HH
      have HH := hide hHeld
      clear hHeld
      (try simp only [Act.put, List.setIfInBounds_toArray, List.set_cons_zero, List.set_cons_succ])
      clear he
      refine takeL (i := 7) (v := ?_) rfl (by kernel_rfl) (by kernel_rfl) (by kernel_rfl) (fun _ _ _ h => h) (Or.inl ⟨by rfl, ?_⟩) (unhide HH) ?_
      rotate_left 1
      · intro W hSW; go_simp; all_goals (with_reducible rfl)
      (try simp only [Act.put, List.setIfInBounds_toArray, List.set_cons_zero, List.set_cons_succ])
      refine takeL (i := 8) (v := ?_) rfl (by kernel_rfl) (by kernel_rfl) (by kernel_rfl) (fun _ _ _ h => h) (Or.inl ⟨by rfl, ?_⟩) (unhide HH) ?_
      rotate_left 1
      · intro W hSW; go_simp; all_goals (with_reducible rfl)
      (try simp only [Act.put, List.setIfInBounds_toArray, List.set_cons_zero, List.set_cons_succ])
      refine wpAnyH_ready (rs := [9]) (by kernel_rfl) (by simp) ?_
      refine consL rfl (fun K hK => ?_) AllReadyH.nil
      have HH2 := HH
      have hf4 : (w4).frozen? ⟨g, o + i, none⟩ = false := unhide HF4
      have hc4 := unhide HE4
      go_simp
      refine hK.out _ _ ((unhide HH2).setCell ⟨g, o + i, none⟩ _ (.inl (by simp))) (fun hHeld => ?_)
      clear hHeld hK K
      (try simp only [Act.put, List.setIfInBounds_toArray, List.set_cons_zero, List.set_cons_succ])
      refine wpAnyH_done (by kernel_rfl) ?_ _
      exact ax_post (f := fun pre => (pre.map it).foldl (axs o x) s) (k := o + i) (v := cf s' (o + i) ^^^ gmul y x) (unhide HBK) (by omega) (unhide HK4) (unhide HS3) (unhide HS5) (unhide HKW) hg3 hg5 (by show ((pre ++ [((⟨i, hi⟩ : Fin np), (⟨y, hy⟩ : Fin 256))]).map it).foldl (axs o x) s = _; rw [List.map_append, List.foldl_append, unhide HS']; rfl)
  case done =>
    rintro D ys W hD hys ⟨hB, _, hK⟩ hKD
    gi_wp2
    refine ⟨by simp, .inl ⟨_, _, rfl, run_takeDeferred hKD, ?_⟩⟩
    refine ⟨_, results_none rfl _ _ _, ⟨_, rfl⟩, ?_, ?_⟩
    · rw [hys] at hB
      exact hB.of (World.putObj_heap_other (by omega))
    · exact ((h12.mono (by simp)).trans hK (by simp)).grown (grownBy_putObj' _ D _) (fun k e => by cases e; exact .inr (by omega))
  case stop =>
    rintro D c pre W _ _ h _
    exact h.elim

end Go.Proofs.Ytahjcahmlangiaa
