/-
  rs.sizeOf; the sums: second, shares.
-/
import Derived.Test.YtjdikhelabibnaaGreatS5a
namespace Go.Proofs.YtjdikhelabibnaaGreat
open Go.RowKit Go.Shelf
attribute [local go_sem] Oper.semAt_some

theorem four_boxes (w : World) (a b c d : Value) (t1 t2 t3 t4 : TypeId) : ∃ W, (((w.alloc (.cells #[a] t1)).alloc (.cells #[b] t2)).alloc (.cells #[c] t3)).alloc (.cells #[d] t4) = W ∧ W.heap.size = w.heap.size + 4 ∧ Below w.heap.size w W ∧
    (W.cell? ⟨w.heap.size, 0, none⟩ = some a ∧ W.frozen? ⟨w.heap.size, 0, none⟩ = false) ∧ (W.cell? ⟨w.heap.size + 1, 0, none⟩ = some b ∧ W.frozen? ⟨w.heap.size + 1, 0, none⟩ = false) ∧
    (W.cell? ⟨w.heap.size + 1 + 1, 0, none⟩ = some c ∧ W.frozen? ⟨w.heap.size + 1 + 1, 0, none⟩ = false) ∧ (W.cell? ⟨w.heap.size + 1 + 1 + 1, 0, none⟩ = some d ∧ W.frozen? ⟨w.heap.size + 1 + 1 + 1, 0, none⟩ = false) := by
  refine ⟨_, rfl, by simp, ((((Below.refl _ w).alloc (Nat.le_refl _) _).alloc (by simp) _).alloc (by simp only [World.size_alloc]; omega) _).alloc (by simp only [World.size_alloc]; omega) _, ?_, ?_, ?_, ?_⟩
  · exact box_below (box_below (box_below (cell_new' w a t1) ((Below.refl _ _).alloc (Nat.le_refl _) _) (by simp)) ((Below.refl _ _).alloc (Nat.le_refl _) _) (by simp only [World.size_alloc]; omega)) ((Below.refl _ _).alloc (Nat.le_refl _) _) (by simp only [World.size_alloc]; omega)
  · have := cell_new' (w.alloc (.cells #[a] t1)) b t2
    rw [World.size_alloc] at this
    exact box_below (box_below this ((Below.refl _ _).alloc (Nat.le_refl _) _) (by simp)) ((Below.refl _ _).alloc (Nat.le_refl _) _) (by simp only [World.size_alloc]; omega)
  · have := cell_new' ((w.alloc (.cells #[a] t1)).alloc (.cells #[b] t2)) c t3
    rw [World.size_alloc, World.size_alloc] at this
    exact box_below this ((Below.refl _ _).alloc (Nat.le_refl _) _) (by simp)
  · have := cell_new' (((w.alloc (.cells #[a] t1)).alloc (.cells #[b] t2)).alloc (.cells #[c] t3)) d t4
    rw [World.size_alloc, World.size_alloc, World.size_alloc] at this
    exact this

/-- A cell of its own. -/
structure Box (W : World) (b : Nat) (v : Value) : Prop where
  c : W.cell? ⟨b, 0, none⟩ = some v
  f : W.frozen? ⟨b, 0, none⟩ = false
theorem Box.of {W : World} {b : Nat} {v : Value} (h : W.cell? ⟨b, 0, none⟩ = some v ∧ W.frozen? ⟨b, 0, none⟩ = false) : Box W b v := ⟨h.1, h.2⟩
theorem Box.lt {W : World} {b : Nat} {v : Value} (h : Box W b v) : b < W.heap.size := block_lt_of_cell h.c
theorem Box.kept {W W' : World} {b : Nat} {v : Value} {row : Option Nat} (h : Box W b v) (hg : W.grownBy W' row) (hr : ∀ r, row = some r → ∃ o : Obj, W.heap[r]? = some o ∧ o.isCells = false) : Box W' b v :=
  ⟨cell_kept h.c hg hr, (frozen_kept h.c hg hr).trans h.f⟩
theorem Box.same {W W' : World} {b : Nat} {v : Value} (h : Box W b v) (e : W'.heap[b]? = W.heap[b]?) : Box W' b v :=
  ⟨(World.cell?_of_block e).trans h.c, (World.frozen?_of_block (a := ⟨b, 0, none⟩) e).trans h.f⟩
theorem Box.below {n : Nat} {W W' : World} {b : Nat} {v : Value} (h : Box W b v) (k : Below n W W') (hn : b < n) : Box W' b v := h.same (k.block b hn)
theorem Box.kp {S : List Nat} {W W' : World} {b : Nat} {v : Value} (h : Box W b v) (k : Kp S W W') (hn : b ∉ S) : Box W' b v := h.same (k.block b h.lt hn)
theorem Box.set {W : World} {b : Nat} {v : Value} (h : Box W b v) (u : Value) : Box (W.setCell ⟨b, 0, none⟩ u) b u :=
  ⟨World.cell?_setCell_same' _ _ _ (by rw [h.c]; rfl), by rw [World.frozen?_setCell]; exact h.f⟩
theorem Box.other {W : World} {b : Nat} {v : Value} (h : Box W b v) {p : Addr} (u : Value) (hp : p.block ≠ b) : Box (W.setCell p u) b v :=
  h.same (Below.heap_setCell _ _ _ _ (fun e => hp e.symm))
theorem Box.put {W : World} {b : Nat} {v : Value} (h : Box W b v) {D : Nat} {o : Obj} (o' : Obj) (hD : W.heap[D]? = some o) (ho : o.isCells = false) : Box (W.putObj D o') b v :=
  h.kept (grownBy_putObj' _ D _) (fun r e => by cases e; exact ⟨_, hD, ho⟩)

/-- What all that came are of. -/
def lastLn {N : Nat} {K : Nat → Bool} (Ln : Nat → Nat) (pre : List (It5 N K)) : Nat := match pre.getLast? with
  | none => 0
  | some x => Ln x.val
theorem lastLn_snoc {N : Nat} {K : Nat → Bool} (Ln : Nat → Nat) (pre : List (It5 N K)) (x : It5 N K) : lastLn Ln (pre ++ [x]) = Ln x.val := by simp [lastLn]
theorem lastLn_of {N : Nat} {K : Nat → Bool} {Ln : Nat → Nat} {pre : List (It5 N K)} (h : pre ≠ []) : ∃ x ∈ pre, lastLn Ln pre = Ln x.val := by
  refine ⟨pre.getLast h, List.getLast_mem h, ?_⟩
  simp [lastLn, List.getLast?_eq_some_getLast h]

set_option maxRecDepth 100000 in
set_option maxHeartbeats 4000000 in
theorem sizeOf_any (gf : Nat) (lb : Array Value) (N : Nat) (A : Nat → Option Addr) (Ln C : Nat → Nat) (K : Nat → Bool) (w : World) (hs : Seq5 gf lb N A Ln C K w) (hLn : ∀ i, Ln i ≤ 9223372036854775807) :
    Calls Tryz.prog 92 #[.func (.func gf) #[] lb] w fun e w' => Below w.heap.size w w' ∧
      ((∃ n : Nat, e = .returned (.tuple #[.int .i64 n, .bool true]) ∧ (∀ i, i < N → K i = true → Ln i = n) ∧ ((∃ i, i < N ∧ K i = true) → ∃ i, i < N ∧ K i = true ∧ Ln i = n)) ∨
       (e = .returned (.tuple #[.int .i64 0, .bool false]) ∧ ∃ i j, i < N ∧ j < N ∧ K i = true ∧ K j = true ∧ Ln i ≠ Ln j)) := by
  have HS := hide hs
  clear hs
  refine (callsIn_wide (n := 3)).1 ?_
  refine callsIn_of_wp_marks Tryz.func92 rfl trivial ?_ rfl
  simp only [Tryz.ntmps92, List.size_toArray, List.length_cons, List.length_nil, Nat.reduceAdd, Nat.reduceSub, Array.replicate_succ, Array.replicate_zero, List.push_toArray, List.append_toArray, List.nil_append, List.cons_append]
  gi_wp2
  obtain ⟨W0, hW0, hz0, hB0, c2, c3, c4, c5⟩ := four_boxes w (.int .i64 0) (.bool false) (.int .i64 0) (.bool false) 3 4 3 4
  rw [hW0]
  clear hW0
  have HLN := hide hLn
  clear hLn
  refine wpIn_rangeFunc_ownF rfl (by omega) (gf := gf) (lb := lb) rfl trivial (unhide HS).enters
    ((unhide HS).seq W0 [w.heap.size + 1 + 1, w.heap.size + 1 + 1 + 1] W0.heap.size hB0 (by simp; omega) (by omega))
    (fun h k => h.trans k) (kq_b (Nat.le_refl _)) (Below.refl _ _) (fun _ => rfl)
    (fun pre W => (Box W w.heap.size (.int .i64 0) ∧ Box W (w.heap.size + 1) (.bool false) ∧ Box W (w.heap.size + 1 + 1) (.int .i64 (lastLn Ln pre : Nat)) ∧ Box W (w.heap.size + 1 + 1 + 1) (.bool (!pre.isEmpty)) ∧ ∀ x ∈ pre, Ln x.val = lastLn Ln pre) ∧ Below w.heap.size w W)
    (fun c pre W => (c = .ret ∧ Box W w.heap.size (.int .i64 0) ∧ Box W (w.heap.size + 1) (.bool false) ∧ ∃ x y : It5 N K, x ∈ pre ∧ y ∈ pre ∧ Ln x.val ≠ Ln y.val) ∧ Below w.heap.size w W)
    (OwnFrom.and (Own.from (fun s A B row hs hg hr => ⟨hs.1.kept hg hr, hs.2.1.kept hg hr, hs.2.2.1.kept hg hr, hs.2.2.2.1.kept hg hr, hs.2.2.2.2⟩) _) (ownFrom_below (Nat.le_refl _) hB0.size))
    (fun c => OwnFrom.and (Own.from (fun s A B row hs hg hr => ⟨hs.1, hs.2.1.kept hg hr, hs.2.2.1.kept hg hr, hs.2.2.2⟩) _) (ownFrom_below (Nat.le_refl _) hB0.size))
    ⟨⟨.of c2, .of c3, .of c4, .of c5, by simp⟩, hB0⟩
    (fun x => { tmps := #[.func (.func gf) #[] lb, undef, .pointer (some ⟨w.heap.size, 0, none⟩), .pointer (some ⟨w.heap.size + 1, 0, none⟩), .pointer (some ⟨w.heap.size + 1 + 1, 0, none⟩), .pointer (some ⟨w.heap.size + 1 + 1 + 1, 0, none⟩), undef, .slice (A x.val) (Ln x.val) (C x.val), .func (.func gf) #[] lb, .int .i64 x.val, .slice (A x.val) (Ln x.val) (C x.val), undef, undef, undef, undef, undef, undef, undef, undef, undef, undef], defers := [] }) ?assign ?body ?done ?stop
  case assign =>
    intro l x W K hK
    gi_wp2
    exact hK
  case body =>
    rintro l pre x W ⟨⟨b2, b3, b4, b5, hall⟩, hB⟩ _
    have HALL := hide hall
    have HB := hide hB
    have HX := hide (unhide HLN x.val)
    clear hall hB
    obtain ⟨m, hm⟩ : ∃ m, Ln x.val = m := ⟨_, rfl⟩
    have HM := hide hm
    rw [hm] at HX ⊢
    clear hm
    have H2 := hide b2
    have H3 := hide b3
    have H4 := hide b4
    have H5 := hide b5
    have go1 : ∀ (hh : ∀ y ∈ pre, Ln y.val = m), KeepsOthers W ((W.setCell ⟨w.heap.size + 1 + 1, 0, none⟩ (.int .i64 (m : Int))).setCell ⟨w.heap.size + 1 + 1 + 1, 0, none⟩ (.bool true)) ∧ Kq [w.heap.size + 1 + 1, w.heap.size + 1 + 1 + 1] W0.heap.size W ((W.setCell ⟨w.heap.size + 1 + 1, 0, none⟩ (.int .i64 (m : Int))).setCell ⟨w.heap.size + 1 + 1 + 1, 0, none⟩ (.bool true)) ∧
        (Box ((W.setCell ⟨w.heap.size + 1 + 1, 0, none⟩ (.int .i64 (m : Int))).setCell ⟨w.heap.size + 1 + 1 + 1, 0, none⟩ (.bool true)) w.heap.size (.int .i64 0) ∧ Box ((W.setCell ⟨w.heap.size + 1 + 1, 0, none⟩ (.int .i64 (m : Int))).setCell ⟨w.heap.size + 1 + 1 + 1, 0, none⟩ (.bool true)) (w.heap.size + 1) (.bool false) ∧
          Box ((W.setCell ⟨w.heap.size + 1 + 1, 0, none⟩ (.int .i64 (m : Int))).setCell ⟨w.heap.size + 1 + 1 + 1, 0, none⟩ (.bool true)) (w.heap.size + 1 + 1) (.int .i64 (lastLn Ln (pre ++ [x]) : Nat)) ∧ Box ((W.setCell ⟨w.heap.size + 1 + 1, 0, none⟩ (.int .i64 (m : Int))).setCell ⟨w.heap.size + 1 + 1 + 1, 0, none⟩ (.bool true)) (w.heap.size + 1 + 1 + 1) (.bool (!(pre ++ [x]).isEmpty)) ∧ ∀ y ∈ pre ++ [x], Ln y.val = lastLn Ln (pre ++ [x])) ∧ Below w.heap.size w ((W.setCell ⟨w.heap.size + 1 + 1, 0, none⟩ (.int .i64 (m : Int))).setCell ⟨w.heap.size + 1 + 1 + 1, 0, none⟩ (.bool true)) := fun hh => by
      refine ⟨(KeepsOthers.setCell _ _ _).trans (KeepsOthers.setCell _ _ _), ((Kq.refl _ _ W).setCell _ _ (by simp)).setCell _ _ (by simp), ⟨?_, ?_, ?_, ?_, ?_⟩, ((unhide HB).setCell (p := ⟨w.heap.size + 1 + 1, 0, none⟩) (by simp; omega) _).setCell (p := ⟨w.heap.size + 1 + 1 + 1, 0, none⟩) (by simp; omega) _⟩
      · exact ((unhide H2).other _ (by simp; omega)).other _ (by simp; omega)
      · exact ((unhide H3).other _ (by simp)).other _ (by simp; omega)
      · rw [lastLn_snoc, unhide HM]; exact ((unhide H4).set _).other _ (by simp)
      · rw [show (!(pre ++ [x]).isEmpty) = true from by simp]; exact ((unhide H5).other _ (by simp)).set _
      · intro y hy
        rw [lastLn_snoc, unhide HM]
        rcases List.mem_append.1 hy with h | h
        · exact hh y h
        · rw [List.mem_singleton.1 h]; exact unhide HM
    have GO1 := hide go1
    clear go1
    have c4 := b4.c
    have f4 := b4.f
    have c5 := b5.c
    have f5 := b5.f
    have f5' : (W.setCell ⟨w.heap.size + 1 + 1, 0, none⟩ (.int .i64 (m : Int))).frozen? ⟨w.heap.size + 1 + 1 + 1, 0, none⟩ = false := by rw [World.frozen?_setCell]; exact f5
    have c5' := (b5.other (p := ⟨w.heap.size + 1 + 1, 0, none⟩) (.int .i64 (m : Int)) (by simp)).c
    clear b2 b3 b4 b5
    by_cases he : pre = []
    · have e5 : (!pre.isEmpty) = false := by rw [he]; rfl
      rw [e5] at c5 c5'
      have HE := hide he
      clear he e5
      gi_wp2
      exact unhide GO1 (fun y hy => by rw [unhide HE] at hy; simp at hy)
    · have e5 : (!pre.isEmpty) = true := by cases pre with
        | nil => exact absurd rfl he
        | cons _ _ => rfl
      rw [e5] at c5 c5'
      have HE := hide he
      clear he e5
      obtain ⟨q, hq⟩ : ∃ q, lastLn Ln pre = q := ⟨_, rfl⟩
      have HQ := hide hq
      rw [hq] at c4
      clear hq
      by_cases hmq : m = q
      · have e1 : ((m : Int) != (q : Int)) = false := by rw [hmq]; simp
        have HMQ := hide hmq
        clear hmq
        gi_wp2
        exact unhide GO1 (fun y hy => by rw [unhide HALL y hy, unhide HQ, unhide HMQ])
      · have e1 : ((m : Int) != (q : Int)) = true := by rw [bne_iff_ne]; omega
        have HMQ := hide hmq
        clear hmq
        have c2 := (unhide H2).c
        have f2 := (unhide H2).f
        have c3 := ((unhide H3).other (p := ⟨w.heap.size, 0, none⟩) (.int .i64 0) (by simp)).c
        have f3 := ((unhide H3).other (p := ⟨w.heap.size, 0, none⟩) (.int .i64 0) (by simp)).f
        gi_wp2
        refine ⟨(KeepsOthers.setCell _ _ _).trans (KeepsOthers.setCell _ _ _), ⟨rfl, ((unhide H2).set _).other _ (by simp), ((unhide H3).other _ (by simp)).set _, ?_⟩, ((unhide HB).setCell (p := ⟨w.heap.size, 0, none⟩) (by simp) _).setCell (p := ⟨w.heap.size + 1, 0, none⟩) (by simp) _⟩
        obtain ⟨y, hy, hyl⟩ := lastLn_of (Ln := Ln) (unhide HE)
        exact ⟨x, y, by simp, by simp [hy], by rw [← hyl, unhide HM, unhide HQ]; exact unhide HMQ⟩
  case done =>
    rintro D ys W hD hys ⟨⟨b2, b3, b4, _, hall⟩, hB⟩ hK
    have c4 := b4.c
    have c2 := b2.c
    have f2 := b2.f
    have b3' := b3.other (p := ⟨w.heap.size, 0, none⟩) (.int .i64 (lastLn Ln ys : Nat)) (by simp)
    have c3 := b3'.c
    have f3 := b3'.f
    have HALL := hide hall
    clear hall
    gi_wp2
    have hK' := ((KeepsOthers.setCell W ⟨w.heap.size, 0, none⟩ (.int .i64 (lastLn Ln ys : Nat))).trans (KeepsOthers.setCell _ ⟨w.heap.size + 1, 0, none⟩ (.bool true))).same D _ hK rfl
    refine ⟨by simp, .inl ⟨_, _, rfl, run_takeDeferred hK', ?_⟩⟩
    have d2 := (((b2.set (.int .i64 (lastLn Ln ys : Nat))).other (p := ⟨w.heap.size + 1, 0, none⟩) (.bool true) (by simp)).put (.deferred none) hK' rfl).c
    have d3 := ((b3'.set (.bool true)).put (.deferred none) hK' rfl).c
    refine ⟨.tuple #[.int .i64 (lastLn Ln ys : Nat), .bool true], ?_, ((hB.setCell (p := ⟨w.heap.size, 0, none⟩) (by simp) _).setCell (p := ⟨w.heap.size + 1, 0, none⟩) (by simp) _).trans (belowK_b (w := w) (Nat.le_refl _) _ D _ _ (by omega) hK' rfl rfl), .inl ⟨_, rfl, ?_, ?_⟩⟩
    · simp [results, Tryz.f92, go_sem, d2, d3]
    · intro i hi hk
      have hm : i ∈ ys.map Subtype.val := by rw [hys]; exact List.mem_filter.2 ⟨List.mem_range.2 hi, hk⟩
      obtain ⟨x, hx, rfl⟩ := List.mem_map.1 hm
      exact unhide HALL x hx
    · rintro ⟨i, hi, hk⟩
      have hm : i ∈ ys.map Subtype.val := by rw [hys]; exact List.mem_filter.2 ⟨List.mem_range.2 hi, hk⟩
      obtain ⟨x, hx, rfl⟩ := List.mem_map.1 hm
      exact ⟨x.val, hi, hk, unhide HALL x hx⟩
  case stop =>
    rintro D c pre W hD _ ⟨⟨rfl, b2, b3, x, y, _, _, hne⟩, hB⟩ hK
    gi_wp2
    refine ⟨by simp, .inl ⟨_, _, rfl, run_takeDeferred hK, ?_⟩⟩
    have d2 := (b2.put (.deferred none) hK rfl).c
    have d3 := (b3.put (.deferred none) hK rfl).c
    refine ⟨.tuple #[.int .i64 0, .bool false], ?_, hB.trans (belowK_b (w := w) (Nat.le_refl _) W D _ _ (by omega) hK rfl rfl), .inr ⟨rfl, x.val, y.val, x.2.1, y.2.1, x.2.2, y.2.2, hne⟩⟩
    simp [results, Tryz.f92, go_sem, d2, d3]

/-- The sums as a value. -/
def sv (d : Nat) (vp vq : Value) : Value := .agg #[.int .i64 (d : Int), vp, vq]

set_option maxHeartbeats 1000000 in
theorem second_any (d : Nat) (hd : d ≤ 14) (po qo : Option Addr) (np cp nq cq : Nat) (w : World) :
    Calls Tryz.prog 137 #[sv d (.slice po np cp) (.slice qo nq cq)] w fun e w' => e = .returned (.int .i64 ((d + 1 : Nat) : Int)) ∧ Below w.heap.size w w' := by
  unfold sv
  go_enter Tryz.func137, Tryz.ntmps137
  go_wp2
  go_ret
  exact ⟨rfl, (Below.refl _ w).alloc (Nat.le_refl _) _⟩

set_option maxRecDepth 100000 in
set_option maxHeartbeats 2000000 in
theorem shares_any (d : Nat) (hd : d ≤ 14) (po qo : Option Addr) (np cp nq cq : Nat) (i : Nat) (hi : i ≤ 16) (w : World) :
    Calls Tryz.prog 130 #[sv d (.slice po np cp) (.slice qo nq cq), .int .i64 (i : Int)] w fun e w' => e = .returned (.tuple #[.int .u8 (shP d i : Nat), .int .u8 (shQ d i : Nat)]) ∧ Below w.heap.size w w' := by
  by_cases h1 : i = d
  · have e1 : ((i : Int) == (d : Int)) = true := by rw [h1]; simp
    have HP : Hid (shP d i = 1 ∧ shQ d i = 0) := by show _ ∧ _; subst h1; unfold shP shQ; simp
    clear h1
    unfold sv
    go_enter Tryz.func130, Tryz.ntmps130
    go_wp2
    go_returns
    rw [(unhide HP).1, (unhide HP).2]
    exact ⟨rfl, (Below.refl _ w).alloc (Nat.le_refl _) _⟩
  · have e1 : ((i : Int) == (d : Int)) = false := by rw [beq_eq_false_iff_ne]; omega
    by_cases h2 : i = d + 1
    · have e2 : ((i : Int) == ((d + 1 : Nat) : Int)) = true := by rw [h2]; simp
      have HP : Hid (shP d i = 0 ∧ shQ d i = 1) := by show _ ∧ _; subst h2; unfold shP shQ; simp
      clear h1 h2
      unfold sv
      go_enter Tryz.func130, Tryz.ntmps130
      go_wp2_with fail
      refine (second_any d hd po qo np cp nq cq _).mono ?_
      rintro e w2 ⟨rfl, hk⟩
      have HK := hide hk
      clear hk
      go_wp2
      go_returns
      rw [(unhide HP).1, (unhide HP).2]
      exact ⟨rfl, ((Below.refl _ w).alloc (Nat.le_refl _) _).trans ((unhide HK).mono (by simp))⟩
    · have e2 : ((i : Int) == ((d + 1 : Nat) : Int)) = false := by rw [beq_eq_false_iff_ne]; omega
      have HP : Hid (shP d i = 1 ∧ shQ d i = X (i : Int)) := by show _ ∧ _; unfold shP shQ; rw [if_neg h2, if_neg h1, if_neg h2, X_nat]; simp
      clear h1 h2
      unfold sv
      go_enter Tryz.func130, Tryz.ntmps130
      go_wp2_with fail
      refine (second_any d hd po qo np cp nq cq _).mono ?_
      rintro e w2 ⟨rfl, hk⟩
      have HK := hide (((Below.refl _ w).alloc (Nat.le_refl _) _).trans (hk.mono (by simp)))
      clear hk
      go_wp2_with fail
      refine (exp_any _ _).mono ?_
      rintro e w3 ⟨rfl, hk⟩
      have HK3 := hide ((unhide HK).trans (hk.mono (unhide HK).size))
      clear hk
      go_wp2
      go_returns
      rw [(unhide HP).1, (unhide HP).2]
      exact ⟨rfl, unhide HK3⟩

end Go.Proofs.YtjdikhelabibnaaGreat
