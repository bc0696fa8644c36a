/-
  bits.joined, its iterator.
-/
import Derived.Test.YtnondiaefpdlpaaB6a
namespace Go.Proofs.Ytnondiaefpdlpaa
open Go.RowKit Go.Shelf
attribute [local go_sem] Oper.semAt_some

theorem Row.ky {T : Nat → Prop} {n m : Nat} {w w' : World} (h : Ky T n m w w') {ao : Option Addr} {g : Nat} {s : List Nat} (hr : Row w ao g (ints s)) (hg : s ≠ [] → (n ≤ g ∧ g < m) ∨ T g) : Row w' ao g (ints s) := by
  rcases hr with h0 | ⟨o, rfl, hc⟩
  · exact .inl h0
  · by_cases hs : s = []
    · subst hs; exact .inl rfl
    · exact .inr ⟨o, rfl, fun j hj => h.cell (hc j hj) (hg hs)⟩

set_option maxHeartbeats 1000000 in
theorem xor_any (x y : Nat) (hx : x < 256) (hy : y < 256) (w : World) : Calls Try.prog 80 #[.int .u8 x, .int .u8 y] w fun e w' => e = .returned (.int .u8 (x ^^^ y : Nat)) ∧ w' = w := by
  have hq := bits_xor_u8 hx hy
  go_enter Try.func80, Try.ntmps80
  go_wp2
  go_ret
  exact ⟨rfl, rfl⟩

/-- What joined has caught. -/
structure Cap3 (w : World) (Ba Bb Bj : Nat) (u v : Value) : Prop where
  a : w.cell? ⟨Ba, 0, none⟩ = some u
  b : w.cell? ⟨Bb, 0, none⟩ = some v
  j : w.cell? ⟨Bj, 0, none⟩ = some (.func (.func 80) #[] #[])

theorem three_boxes (w : World) (a b c : Value) (s t u : TypeId) : ∀ W, W = ((w.alloc (.cells #[a] s)).alloc (.cells #[b] t)).alloc (.cells #[c] u) →
    W.cell? ⟨w.heap.size, 0, none⟩ = some a ∧ W.cell? ⟨w.heap.size + 1, 0, none⟩ = some b ∧ W.cell? ⟨w.heap.size + 1 + 1, 0, none⟩ = some c ∧ Below w.heap.size w W ∧ W.heap.size = w.heap.size + 3 := by
  rintro W rfl
  refine ⟨?_, ?_, ?_, (((Below.refl _ w).alloc (Nat.le_refl _) _).alloc (by simp) _).alloc (by simp; omega) _, by simp⟩
  · refine (World.cell?_of_block (Below.heap_alloc _ _ _ (by simp; omega))).trans ?_
    exact (World.cell?_of_block (Below.heap_alloc _ _ _ (by simp))).trans (cell_new' w _ _).1
  · have h := (cell_new' (w.alloc (.cells #[a] s)) b t).1
    rw [World.size_alloc] at h
    exact (World.cell?_of_block (Below.heap_alloc _ _ _ (by simp))).trans h
  · have h := (cell_new' ((w.alloc (.cells #[a] s)).alloc (.cells #[b] t)) c u).1
    rw [World.size_alloc, World.size_alloc] at h
    exact h

set_option maxHeartbeats 1000000 in
theorem joined_any (u v : Value) (w : World) (hu : ∃ ao n c, u = .slice ao n c) (hv : ∃ ao n c, v = .slice ao n c) : Calls Try.prog 79 #[u, v, .func (.func 80) #[] #[]] w fun e w' =>
    e = .returned (.func (.func 85) #[] #[.pointer (some ⟨w.heap.size, 0, none⟩), .pointer (some ⟨w.heap.size + 1 + 1, 0, none⟩), .pointer (some ⟨w.heap.size + 1, 0, none⟩)]) ∧ Cap3 w' w.heap.size (w.heap.size + 1) (w.heap.size + 1 + 1) u v ∧ w'.heap.size = w.heap.size + 3 ∧ Below w.heap.size w w' := by
  obtain ⟨ao, n, c, rfl⟩ := hu
  obtain ⟨bo, m, d, rfl⟩ := hv
  go_enter Try.func79, Try.ntmps79
  go_wp2
  go_ret
  obtain ⟨h1, h2, h3, h4, h5⟩ := three_boxes w (.slice ao n c) (.slice bo m d) (.func (.func 80) #[] #[]) 38 38 136 _ rfl
  exact ⟨rfl, ⟨h1, h2, h3⟩, h5, h4⟩

set_option maxRecDepth 100000 in
set_option maxHeartbeats 4000000 in
theorem joined_x (T : Nat → Prop) (Ba Bb Bj : Nat) (ao bo : Option Addr) (ga gb ca cb N : Nat) (a b : List Nat) (ha : a.length = N) (hb : b.length = N) (hba : Bs a) (hbb : Bs b) (hN : N ≤ 281474976710656) (w : World)
    (hcap : Cap3 w Ba Bb Bj (.slice ao N ca) (.slice bo N cb)) (hra : Row w ao ga (ints a)) (hrb : Row w bo gb (ints b)) (hTb : T Bb) (hTj : T Bj) (hga : a ≠ [] → T ga) (hgb : b ≠ [] → T gb) :
    Seq6 85 #[.pointer (some ⟨Ba, 0, none⟩), .pointer (some ⟨Bj, 0, none⟩), .pointer (some ⟨Bb, 0, none⟩)] N (fun i => cf a i ^^^ cf b i) T 0 w := by
  refine ⟨enters_of Try.func85 (by kernel_rfl) rfl, ?_⟩
  intro l J W hW hJ hY h0 n
  have hA := (hW.cell (p := ⟨Ba, 0, none⟩) (block_lt_of_cell hcap.a)).trans hcap.a
  have hB := (hW.cell (p := ⟨Bb, 0, none⟩) (block_lt_of_cell hcap.b)).trans hcap.b
  have hJb := (hW.cell (p := ⟨Bj, 0, none⟩) (block_lt_of_cell hcap.j)).trans hcap.j
  have HB := hide hB
  have HJB := hide hJb
  have HRA := hide (hra.below hW)
  have HRB := hide (hrb.below hW)
  have HLA := hide ha
  have HLB := hide hb
  clear hra hrb hB hJb ha hb
  show CallsIn Fence.wide n Try.prog 85 #[.func (.yield l) #[] #[], .pointer (some ⟨Ba, 0, none⟩), .pointer (some ⟨Bj, 0, none⟩), .pointer (some ⟨Bb, 0, none⟩)] W _
  refine callsIn_of_wp Try.func85 rfl trivial ?_ rfl
  simp only [Try.ntmps85, List.size_toArray, List.length_cons, List.length_nil, Nat.reduceAdd, Nat.reduceSub, Array.replicate_succ, Array.replicate_zero, List.push_toArray, List.append_toArray, List.nil_append, List.cons_append]
  gi_wp2
  gi_loopw [9] (fun q wr => ∃ (pre : List (Fin N)) (i : Nat), q = .int .i64 i ∧ i ≤ N ∧ pre.map Fin.val = List.range i ∧ J pre wr ∧ W.heap.size ≤ wr.heap.size ∧ Row wr ao ga (ints a) ∧ Row wr bo gb (ints b) ∧ wr.cell? ⟨Bb, 0, none⟩ = some (.slice bo N cb) ∧ wr.cell? ⟨Bj, 0, none⟩ = some (.func (.func 80) #[] #[])) (fun q _ => N - (intOf q).toNat)
  case atStart => exact ⟨[], 0, rfl, by omega, rfl, h0, Nat.le_refl _, unhide HRA, unhide HRB, unhide HB, unhide HJB⟩
  case round =>
    obtain ⟨pre, i, rfl, hi, hp, hJ1, hzW, hr1, hr2, hc1, hc2⟩ := hrel
    have hl : pre.length = i := by have := congrArg List.length hp; simpa using this
    have HP := hide hp
    have HR1 := hide hr1
    have HR2 := hide hr2
    have HL := hide hl
    have HC1 := hide hc1
    have HC2 := hide hc2
    have HJ1 := hide hJ1
    clear hp hr1 hr2 hl hJ1
    by_cases hlt : i < N
    · have hi1 : (i : Int) < (N : Int) := by omega
      obtain ⟨oa, rfl⟩ := row_some (unhide HR1) (by rw [unhide HLA]; omega)
      obtain ⟨ob, rfl⟩ := row_some (unhide HR2) (by rw [unhide HLB]; omega)
      have hca := row_cell (unhide HR1) (j := i) (by rw [unhide HLA]; exact hlt)
      have hcb := row_cell (unhide HR2) (j := i) (by rw [unhide HLB]; exact hlt)
      obtain ⟨fn, tmps, assign, body, hy1, hR⟩ := hY pre ⟨i, hlt⟩ wr.drew (hJ _ _ _ (unhide HJ1) (Ka.of_below ((Below.refl _ wr).drew))) (by rw [unhide HL]; exact hlt) (Nat.le_trans hzW (Nat.le_refl _))
      dsimp only at hy1
      have hbx := hba i
      have hby := hbb i
      have hmix : Try.prog.follows .mixedOrders = true := by kernel_rfl
      gi_wp2
      refine wpIn_mono (Q := Exit.then (fun aa W3 => J (pre ++ [⟨i, hlt⟩]) W3 ∧ Ky T W.heap.size (W.heap.size + 0) wr.drew W3 ∧ aa = { tmps := #[.func (.yield l) #[] #[], .pointer (some ⟨Ba, 0, none⟩), .pointer (some ⟨Bj, 0, none⟩), .pointer (some ⟨Bb, 0, none⟩), undef, .int .i64 (i : Nat), .int .u8 (cf a i : Nat), .slice (some ⟨ga, oa, none⟩) N ca, .int .i64 (N : Nat), .int .i64 (i : Nat), .bool true, .int .i64 (i : Nat), .pointer (some ⟨ga, oa + i, none⟩), .int .u8 (cf a i : Nat), .func (.yield l) #[] #[], .int .i64 (i : Nat), .func (.func 80) #[] #[], .int .u8 (cf a i : Nat), .slice (some ⟨gb, ob, none⟩) N cb, .int .i64 (i : Nat), .pointer (some ⟨gb, ob + i, none⟩), .int .u8 (cf b i : Nat), .int .u8 (cf a i ^^^ cf b i : Nat), .bool true, .bool false, u25], defers := [] }) (fun _ _ _ => False)) ?_ ?_
      · gi_region_with_o (first
          | (refine ⟨trivial, fun h => absurd h (by simp [Fence.wide]), (callsIn_wide.2 (xor_any (cf a i) (cf b i) hbx hby _)).mono ?_⟩; rintro e W2 ⟨rfl, hW2⟩; subst hW2)
          | (refine ⟨fun h => absurd h (by simp [Fence.wide]), (round_any hR).mono ?_⟩; rintro e W3 ⟨rfl, hJ3, hk3⟩))
        all_goals exact ⟨hJ3, hk3, rfl⟩
      · intro e aa W3 hQ
        cases e with
        | normal => ?_
        | _ => exact hQ.elim
        obtain ⟨hJ3, hk3, rfl⟩ := hQ
        have HR1' := hide (((unhide HR1).below ((Below.refl _ wr).drew)).ky hk3 (fun h => .inr (hga h)))
        have HR2' := hide (((unhide HR2).below ((Below.refl _ wr).drew)).ky hk3 (fun h => .inr (hgb h)))
        have HC1' := hide (hk3.cell (p := ⟨Bb, 0, none⟩) (unhide HC1) (.inr hTb))
        have HC2' := hide (hk3.cell (p := ⟨Bj, 0, none⟩) (unhide HC2) (.inr hTj))
        have HZ3 : Hid (W.heap.size ≤ W3.heap.size) := Nat.le_trans hzW hk3.size
        have HJ3 := hide hJ3
        clear hJ3 hk3 hy1 hR hca hcb hc1 hc2
        gi_wp2
        go_roundw
        case rel => exact ⟨pre ++ [⟨i, hlt⟩], i + 1, by go_num, by omega, by rw [List.map_append, unhide HP, List.range_succ]; rfl, unhide HJ3, unhide HZ3, unhide HR1', unhide HR2', unhide HC1', unhide HC2'⟩
        case measure => simp [intOf]; omega
    · have hi2 : i = N := by omega
      subst hi2
      gi_wp2
      go_end0
      exact ⟨⟨_, rfl⟩, pre, unhide HP, unhide HJ1⟩

end Go.Proofs.Ytnondiaefpdlpaa
