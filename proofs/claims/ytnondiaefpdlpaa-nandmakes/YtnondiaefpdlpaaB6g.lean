/-
  bits.again, its iterator.
-/
import Derived.Test.YtnondiaefpdlpaaB6b
import Derived.Test.YtnondiaefpdlpaaN6b
namespace Go.Proofs.Ytnondiaefpdlpaa
open Go.RowKit Go.Shelf
attribute [local go_sem] Oper.semAt_some

theorem two_boxes (w : World) (a b : Value) (s t : TypeId) : ∀ W, W = (w.alloc (.cells #[a] s)).alloc (.cells #[b] t) →
    W.cell? ⟨w.heap.size, 0, none⟩ = some a ∧ W.cell? ⟨w.heap.size + 1, 0, none⟩ = some b ∧ Below w.heap.size w W ∧ W.heap.size = w.heap.size + 2 := by
  rintro W rfl
  refine ⟨?_, ?_, ((Below.refl _ w).alloc (Nat.le_refl _) _).alloc (by simp) _, by simp⟩
  · exact (World.cell?_of_block (Below.heap_alloc _ _ _ (by simp))).trans (cell_new' w _ _).1
  · have h := (cell_new' (w.alloc (.cells #[a] s)) b t).1
    rw [World.size_alloc] at h
    exact h

set_option maxHeartbeats 1000000 in
theorem again_any (u : Value) (n : Nat) (w : World) (hu : ∃ ao n c, u = .slice ao n c) : Calls Try.prog 69 #[u, .int .i64 (n : Int)] w fun e w' =>
    e = .returned (.func (.func 74) #[] #[.pointer (some ⟨w.heap.size, 0, none⟩), .pointer (some ⟨w.heap.size + 1, 0, none⟩)]) ∧ w'.cell? ⟨w.heap.size, 0, none⟩ = some u ∧ w'.cell? ⟨w.heap.size + 1, 0, none⟩ = some (.int .i64 (n : Int)) ∧ w'.heap.size = w.heap.size + 2 ∧ Below w.heap.size w w' := by
  obtain ⟨ao, m, c, rfl⟩ := hu
  go_enter Try.func69, Try.ntmps69
  go_wp2
  go_ret
  obtain ⟨h1, h2, h3, h4⟩ := two_boxes w (.slice ao m c) (.int .i64 (n : Int)) 38 3 _ rfl
  exact ⟨rfl, h1, h2, h4, h3⟩

set_option maxRecDepth 100000 in
set_option maxHeartbeats 4000000 in
theorem again_x0 (T : Nat → Prop) (Ba Bn : Nat) (ao : Option Addr) (ca : Nat) (f : Nat → Nat) (w : World) (hcap : w.cell? ⟨Ba, 0, none⟩ = some (.slice ao 0 ca)) :
    Seq6 74 #[.pointer (some ⟨Ba, 0, none⟩), .pointer (some ⟨Bn, 0, none⟩)] 0 f T 0 w := by
  refine ⟨enters_of Try.func74 (by kernel_rfl) rfl, ?_⟩
  intro l J W hW hJ hY h0 n
  have hA := (hW.cell (p := ⟨Ba, 0, none⟩) (block_lt_of_cell hcap)).trans hcap
  show CallsIn Fence.wide n Try.prog 74 #[.func (.yield l) #[] #[], .pointer (some ⟨Ba, 0, none⟩), .pointer (some ⟨Bn, 0, none⟩)] W _
  refine callsIn_of_wp Try.func74 rfl trivial ?_ rfl
  simp only [Try.ntmps74, List.size_toArray, List.length_cons, List.length_nil, Nat.reduceAdd, Nat.reduceSub, Array.replicate_succ, Array.replicate_zero, List.push_toArray, List.append_toArray, List.nil_append, List.cons_append]
  gi_wp2
  refine bodyPost_ret (results_none rfl _ _ _) rfl ?_
  exact ⟨⟨_, rfl⟩, h0⟩

set_option maxRecDepth 100000 in
set_option maxHeartbeats 4000000 in
theorem again_x (T : Nat → Prop) (Ba Bn : Nat) (ao : Option Addr) (ga ca M N : Nat) (a : List Nat) (ha : a.length = M) (hM : 0 < M) (hM2 : M ≤ 9223372036854775807) (hN : N ≤ 281474976710656) (w : World)
    (hcap : w.cell? ⟨Ba, 0, none⟩ = some (.slice ao M ca)) (hcn : w.cell? ⟨Bn, 0, none⟩ = some (.int .i64 (N : Int))) (hra : Row w ao ga (ints a)) (hTa : T Ba) (hga : T ga) :
    Seq6 74 #[.pointer (some ⟨Ba, 0, none⟩), .pointer (some ⟨Bn, 0, none⟩)] N (mAt a) T 0 w := by
  refine ⟨enters_of Try.func74 (by kernel_rfl) rfl, ?_⟩
  intro l J W hW hJ hY h0 n
  have hA := (hW.cell (p := ⟨Ba, 0, none⟩) (block_lt_of_cell hcap)).trans hcap
  have hB := (hW.cell (p := ⟨Bn, 0, none⟩) (block_lt_of_cell hcn)).trans hcn
  have HA := hide hA
  have HRA := hide (hra.below hW)
  have HLA := hide ha
  have hM1 : ((M : Int) == 0) = false := by rw [beq_eq_false_iff_ne]; omega
  clear hra ha
  show CallsIn Fence.wide n Try.prog 74 #[.func (.yield l) #[] #[], .pointer (some ⟨Ba, 0, none⟩), .pointer (some ⟨Bn, 0, none⟩)] W _
  refine callsIn_of_wp Try.func74 rfl trivial ?_ rfl
  simp only [Try.ntmps74, List.size_toArray, List.length_cons, List.length_nil, Nat.reduceAdd, Nat.reduceSub, Array.replicate_succ, Array.replicate_zero, List.push_toArray, List.append_toArray, List.nil_append, List.cons_append]
  gi_wp2
  gi_loopw [9] (fun q wr => ∃ (pre : List (Fin N)) (i : Nat), q = .int .i64 i ∧ i ≤ N ∧ pre.map Fin.val = List.range i ∧ J pre wr ∧ W.heap.size ≤ wr.heap.size ∧ Row wr ao ga (ints a) ∧ wr.cell? ⟨Ba, 0, none⟩ = some (.slice ao M ca)) (fun q _ => N - (intOf q).toNat)
  case atStart => exact ⟨[], 0, rfl, by omega, rfl, h0, Nat.le_refl _, unhide HRA, unhide HA⟩
  case round =>
    obtain ⟨pre, i, rfl, hi, hp, hJ1, hzW, hr1, hc1⟩ := hrel
    have hl : pre.length = i := by have := congrArg List.length hp; simpa using this
    have HP := hide hp
    have HR1 := hide hr1
    have HL := hide hl
    have HC1 := hide hc1
    have HJ1 := hide hJ1
    clear hp hr1 hl hJ1 hA hB
    by_cases hlt : i < N
    · have hi1 : (i : Int) < (N : Int) := by omega
      obtain ⟨oa, rfl⟩ := row_some (unhide HR1) (by rw [unhide HLA]; omega)
      obtain ⟨r, hr⟩ : ∃ r, i % M = r := ⟨_, rfl⟩
      have hrM : r < M := by rw [← hr]; exact Nat.mod_lt _ hM
      have hrM1 : (r : Int) < (M : Int) := by omega
      have q1 : (i : Int) % (M : Int) = (r : Int) := by rw [← hr]; simp
      have q2 : (i : Int).tmod (M : Int) = (r : Int) := by rw [Int.tmod_eq_emod_of_nonneg (by omega), q1]
      have HE : Hid (mAt a i = cf a r) := by show _ = _; rw [mAt, unhide HLA, hr]
      have hca := row_cell (unhide HR1) (j := r) (by rw [unhide HLA]; exact hrM)
      obtain ⟨fn, tmps, assign, body, hy1, hR⟩ := hY pre ⟨i, hlt⟩ wr.drew (hJ _ _ _ (unhide HJ1) (Ka.of_below ((Below.refl _ wr).drew))) (by rw [unhide HL]; exact hlt) (Nat.le_trans hzW (Nat.le_refl _))
      dsimp only at hy1
      rw [unhide HE] at hy1
      have hmix : Try.prog.follows .mixedOrders = true := by kernel_rfl
      have hc1' : wr.drew.cell? ⟨Ba, 0, none⟩ = some (.slice (some ⟨ga, oa, none⟩) M ca) := hc1
      have hca' : wr.drew.cell? ⟨ga, oa + r, none⟩ = some (.int .u8 ((cf a r : Nat) : Int)) := hca
      clear hr hc1 hca
      gi_wp2
      refine wpIn_mono (Q := Exit.then (fun aa W3 => J (pre ++ [⟨i, hlt⟩]) W3 ∧ Ky T W.heap.size (W.heap.size + 0) wr.drew W3 ∧ ∃ x14 x15 x16 x17 x18 x19 x20, aa = { tmps := #[.func (.yield l) #[] #[], .pointer (some ⟨Ba, 0, none⟩), .pointer (some ⟨Bn, 0, none⟩), undef, .int .i64 (i : Nat), .slice (some ⟨ga, oa, none⟩) M ca, .int .i64 (M : Nat), .bool false, .int .i64 (N : Nat), .int .i64 (i : Nat), .bool true, .int .i64 (i : Nat), .func (.yield l) #[] #[], .int .i64 (i : Nat), x14, x15, x16, x17, x18, x19, x20, .bool true, .bool false, u23], defers := [] }) (fun _ _ _ => False)) ?_ ?_
      · gi_region_with_o (refine ⟨fun h => absurd h (by simp [Fence.wide]), (round_any hR).mono ?_⟩; rintro e W3 ⟨rfl, hJ3, hk3⟩)
        all_goals exact ⟨hJ3, hk3, _, _, _, _, _, _, _, rfl⟩
      · intro e aa W3 hQ
        cases e with
        | normal => ?_
        | _ => exact hQ.elim
        obtain ⟨hJ3, hk3, x14, x15, x16, x17, x18, x19, x20, rfl⟩ := hQ
        have HR1' := hide (((unhide HR1).below ((Below.refl _ wr).drew)).ky hk3 (fun h => .inr hga))
        have HC1' := hide (hk3.cell (p := ⟨Ba, 0, none⟩) (unhide HC1) (.inr hTa))
        have HZ3 : Hid (W.heap.size ≤ W3.heap.size) := Nat.le_trans hzW hk3.size
        have HJ3 := hide hJ3
        clear hJ3 hk3 hy1 hR hca' hc1'
        gi_wp2
        go_roundw
        case rel => exact ⟨pre ++ [⟨i, hlt⟩], i + 1, by go_num, by omega, by rw [List.map_append, unhide HP, List.range_succ]; rfl, unhide HJ3, unhide HZ3, unhide HR1', unhide HC1'⟩
        case measure => simp [intOf]; omega
    · have hi2 : i = N := by omega
      subst hi2
      gi_wp2
      go_end0
      exact ⟨⟨_, rfl⟩, pre, unhide HP, unhide HJ1⟩

end Go.Proofs.Ytnondiaefpdlpaa
