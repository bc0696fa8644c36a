/-
  The iterators over a row of bytes: line.said, slices.Backward.
-/
import Derived.Test.YtahjcahmlangiaaPb
namespace Go.Proofs.Ytahjcahmlangiaa
open Go.RowKit Go.Shelf
attribute [local go_sem] Oper.semAt_some

set_option maxHeartbeats 1000000 in
theorem said_any (v : Value) (w : World) (hv : ∃ ao n c, v = .slice ao n c) : Calls Try.prog 48 #[v] w fun e w' =>
    ∃ b, e = .returned (.func (.func 69) #[] #[.pointer (some ⟨b, 0, none⟩)]) ∧ w'.cell? ⟨b, 0, none⟩ = some v ∧ w.heap.size ≤ b ∧ b < w'.heap.size ∧ Below w.heap.size w w' := by
  obtain ⟨ao, n, c, rfl⟩ := hv
  go_enter Try.func48, Try.ntmps48
  go_wp2
  go_ret
  exact ⟨_, rfl, (cell_new' w _ _).1, Nat.le_refl _, by simp, (Below.refl _ w).alloc (Nat.le_refl _) _⟩

set_option maxHeartbeats 1000000 in
theorem back_any (v : Value) (w : World) (hv : ∃ ao n c, v = .slice ao n c) : Calls Try.prog 40 #[v] w fun e w' =>
    ∃ b, e = .returned (.func (.func 64) #[] #[.pointer (some ⟨b, 0, none⟩)]) ∧ w'.cell? ⟨b, 0, none⟩ = some v ∧ w.heap.size ≤ b ∧ b < w'.heap.size ∧ Below w.heap.size w w' := by
  obtain ⟨ao, n, c, rfl⟩ := hv
  go_enter Try.func40, Try.ntmps40
  go_wp2
  go_ret
  exact ⟨_, rfl, (cell_new' w _ _).1, Nat.le_refl _, by simp, (Below.refl _ w).alloc (Nat.le_refl _) _⟩

/-- An item as numbers. -/
def it {N : Nat} (x : Fin N × Fin 256) : Nat × Nat := (x.1.val, x.2.val)

theorem Row.kq {S : List Nat} {n : Nat} {w w' : World} (h : Kq S n w w') {ao : Option Addr} {g : Nat} {s : List Nat} (hr : Row w ao g (ints s)) (hg : s ≠ [] → g < n ∧ g ∉ S) : Row w' ao g (ints s) := by
  rcases hr with h0 | ⟨o, rfl, hc⟩
  · exact .inl h0
  · by_cases hs : s = []
    · subst hs; exact .inl rfl
    · exact .inr ⟨o, rfl, fun j hj => (World.cell?_of_block (h.block g (hg hs).1 (hg hs).2)).trans (hc j hj)⟩
theorem Kq.cell {S : List Nat} {n : Nat} {w w' : World} (h : Kq S n w w') {p : Addr} {v : Value} (hc : w.cell? p = some v) (hg : p.block < n) (hn : p.block ∉ S) : w'.cell? p = some v :=
  (World.cell?_of_block (h.block p.block hg hn)).trans hc
theorem Row.below {w w' : World} (h : Below w.heap.size w w') {ao : Option Addr} {g : Nat} {zs : List Int} (hr : Row w ao g zs) : Row w' ao g zs := by
  rcases hr with h0 | ⟨o, rfl, hc⟩
  · exact .inl h0
  · exact .inr ⟨o, rfl, fun j hj => (h.cell (block_lt_of_cell (hc j hj))).trans (hc j hj)⟩
theorem Row.block_lt {w : World} {ao : Option Addr} {g : Nat} {s : List Nat} (hr : Row w ao g (ints s)) (h : s ≠ []) : g < w.heap.size := by
  have hs : 0 < s.length := List.length_pos_iff.2 h
  obtain ⟨o, rfl⟩ := row_some hr hs
  exact block_lt_of_cell (row_cell hr hs)

set_option maxRecDepth 100000 in
set_option maxHeartbeats 4000000 in
theorem said_in (S : List Nat) (n l B n₀ : Nat) (ao : Option Addr) (g N c : Nat) (s : List Nat) (hs : s.length = N) (hbs : Bs s) (hNc : N ≤ 281474976710656) (J Jx : List (Fin N × Fin 256) → World → Prop)
    (hY : ∀ pre (x : Fin N × Fin 256) W, J pre W → pre.length < N → YieldAt Fence.wide (n - 1) Try.prog l #[.int .i64 x.1.val, .int .u8 x.2.val] W fun e W' =>
      (e = .returned (.bool true) ∧ J (pre ++ [x]) W' ∧ Kq S n₀ W W') ∨ (e = .returned (.bool false) ∧ Jx (pre ++ [x]) W'))
    (W : World) (hcap : W.cell? ⟨B, 0, none⟩ = some (.slice ao N c)) (hrow : Row W ao g (ints s)) (hg : s ≠ [] → g < n₀ ∧ g ∉ S) (h0 : J [] W) :
    CallsIn Fence.wide n Try.prog 69 #[.func (.yield l) #[] #[], .pointer (some ⟨B, 0, none⟩)] W fun e W' => (∃ v, e = .returned v) ∧
      ((∃ ys, ys.map it = saidL 0 s ∧ J ys W') ∨ (∃ pre, True ∧ Jx pre W')) := by
  have HR := hide hrow
  have HS := hide hs
  clear hrow hs
  refine callsIn_of_wp Try.func69 rfl trivial ?_ rfl
  simp only [Try.ntmps69, List.size_toArray, List.length_cons, List.length_nil, Nat.reduceAdd, Nat.reduceSub, Array.replicate_succ, Array.replicate_zero, List.push_toArray, List.append_toArray, List.nil_append, List.cons_append]
  gi_wp2
  gi_loopw [8] (fun q wr => ∃ (pre : List (Fin N × Fin 256)) (i : Nat), q = .int .i64 i ∧ i ≤ N ∧ pre.length ≤ i ∧ pre.map it ++ saidL i (s.drop i) = saidL 0 s ∧ J pre wr ∧ Row wr ao g (ints s)) (fun q _ => N - (intOf q).toNat)
  case atStart => exact ⟨[], 0, rfl, by omega, by simp, by simp, h0, unhide HR⟩
  case round =>
    obtain ⟨pre, i, rfl, hi, hl, hp, hJ1, hr1⟩ := hrel
    have HP := hide hp
    have HR1 := hide hr1
    clear hp hr1
    have HS' := unhide HS
    by_cases hlt : i < N
    · have hi1 : (i : Int) < (N : Int) := by omega
      obtain ⟨o, rfl⟩ := row_some (unhide HR1) (by omega)
      have hc := row_cell (unhide HR1) (j := i) (by omega)
      clear HS'
      by_cases hz : cf s i = 0
      · have hz' : (((cf s i : Nat) : Int) != 0) = false := by rw [hz]; rfl
        have HP' := hide ((congrArg (pre.map it ++ ·) (saidL_nought (s := s) (i := i) (by rw [unhide HS]; exact hlt) hz)).symm.trans (unhide HP))
        gi_wp2
        refine ⟨fun _ h => (by cases h), ?_⟩
        gi_wp2
        go_roundw
        case rel => exact ⟨pre, i + 1, by go_num, by omega, by omega, unhide HP', hJ1, unhide HR1⟩
        case measure => simp [intOf]; omega
      · have hz' : (((cf s i : Nat) : Int) != 0) = true := by rw [bne_iff_ne]; omega
        have HP' := hide ((congrArg (pre.map it ++ ·) (saidL_says (s := s) (i := i) (by rw [unhide HS]; exact hlt) hz)).symm.trans (unhide HP))
        obtain ⟨fn, tmps, assign, body, hy1, hR⟩ := hY pre (⟨i, hlt⟩, ⟨cf s i, hbs i⟩) wr hJ1 (by omega)
        dsimp only at hy1
        gi_wp2
        refine ⟨fun h => absurd h (by simp [Fence.wide]), hR.mono ?_⟩
        rintro e W3 (⟨rfl, hJ3, hk3⟩ | ⟨rfl, hJx3⟩)
        · have HR3 := hide ((unhide HR1).kq hk3 hg)
          gi_wp2
          go_roundw
          case rel => exact ⟨pre ++ [(⟨i, hlt⟩, ⟨cf s i, hbs i⟩)], i + 1, by go_num, by omega, by simp; omega, by rw [← unhide HP', List.map_append, List.append_assoc]; rfl, hJ3, unhide HR3⟩
          case measure => simp [intOf]; omega
        · gi_wp2
          refine bodyPost_ret (results_none rfl _ _ _) rfl ?_
          exact ⟨⟨_, rfl⟩, .inr ⟨pre ++ [(⟨i, hlt⟩, ⟨cf s i, hbs i⟩)], trivial, hJx3⟩⟩
    · have hi2 : i = N := by omega
      subst hi2
      have HP' := hide ((congrArg (pre.map it ++ ·) (saidL_end (s := s) (i := i) (by omega))).symm.trans (unhide HP))
      clear HS'
      gi_wp2
      go_end0
      exact ⟨⟨_, rfl⟩, .inl ⟨pre, by have h := unhide HP'; simpa using h, hJ1⟩⟩

theorem said_stops (S : List Nat) (n B n₀ : Nat) (ao : Option Addr) (g N c : Nat) (s : List Nat) (hs : s.length = N) (hbs : Bs s) (hNc : N ≤ 281474976710656) (w : World) (hcap : w.cell? ⟨B, 0, none⟩ = some (.slice ao N c)) (hrow : Row w ao g (ints s)) (hg : s ≠ [] → g < n₀ ∧ g ∉ S) :
    SeqStopsK Fence.wide n Try.prog 69 #[.pointer (some ⟨B, 0, none⟩)] (fun x : Fin N × Fin 256 => #[Value.int .i64 x.1.val, Value.int .u8 x.2.val]) (Kq S n₀) (fun ys => ys.map it = saidL 0 s) (fun _ => True) N w := fun l J Jx W hW _ _ hY h0 =>
  said_in S n l B n₀ ao g N c s hs hbs hNc J Jx hY W ((hW.cell (p := ⟨B, 0, none⟩) (block_lt_of_cell hcap)).trans hcap) (hrow.below hW) hg h0

set_option maxRecDepth 100000 in
set_option maxHeartbeats 4000000 in
theorem back_in (S : List Nat) (n l B n₀ : Nat) (ao : Option Addr) (g N c : Nat) (s : List Nat) (hs : s.length = N) (hbs : Bs s) (hNc : N ≤ 281474976710656) (J Jx : List (Fin N × Fin 256) → World → Prop)
    (hY : ∀ pre (x : Fin N × Fin 256) W, J pre W → pre.length < N → YieldAt Fence.wide (n - 1) Try.prog l #[.int .i64 x.1.val, .int .u8 x.2.val] W fun e W' =>
      (e = .returned (.bool true) ∧ J (pre ++ [x]) W' ∧ Kq S n₀ W W') ∨ (e = .returned (.bool false) ∧ Jx (pre ++ [x]) W'))
    (W : World) (hcap : W.cell? ⟨B, 0, none⟩ = some (.slice ao N c)) (hrow : Row W ao g (ints s)) (hg : s ≠ [] → g < n₀ ∧ g ∉ S) (hB : B < n₀) (sB : B ∉ S) (h0 : J [] W) :
    CallsIn Fence.wide n Try.prog 64 #[.func (.yield l) #[] #[], .pointer (some ⟨B, 0, none⟩)] W fun e W' => (∃ v, e = .returned v) ∧
      ((∃ ys, ys.map it = downL s N ∧ J ys W') ∨ (∃ pre, True ∧ Jx pre W')) := by
  have HR := hide hrow
  have HS := hide hs
  have HC := hide hcap
  clear hrow hs
  refine callsIn_of_wp Try.func64 rfl trivial ?_ rfl
  simp only [Try.ntmps64, List.size_toArray, List.length_cons, List.length_nil, Nat.reduceAdd, Nat.reduceSub, Array.replicate_succ, Array.replicate_zero, List.push_toArray, List.append_toArray, List.nil_append, List.cons_append]
  gi_wp2
  clear hcap
  gi_loopw [3] (fun q wr => ∃ (pre : List (Fin N × Fin 256)) (i : Nat), q = .int .i64 ((i : Int) - 1) ∧ i ≤ N ∧ pre.length + i = N ∧ pre.map it ++ downL s i = downL s N ∧ J pre wr ∧ Row wr ao g (ints s) ∧ wr.cell? ⟨B, 0, none⟩ = some (.slice ao N c)) (fun q _ => (intOf q + 1).toNat)
  case atStart => exact ⟨[], N, by go_num, by omega, by simp, by simp, h0, unhide HR, unhide HC⟩
  case round =>
    obtain ⟨pre, i, rfl, hi, hl, hp, hJ1, hr1, hc1⟩ := hrel
    have HP := hide hp
    have HR1 := hide hr1
    have HC1 := hide hc1
    clear hp hr1
    have HS' := unhide HS
    by_cases hlt : 0 < i
    · obtain ⟨k, rfl⟩ : ∃ k, i = k + 1 := ⟨i - 1, by omega⟩
      have hi1 : (k : Int) < (N : Int) := by omega
      obtain ⟨o, rfl⟩ := row_some (unhide HR1) (by omega)
      have hc := row_cell (unhide HR1) (j := k) (by omega)
      clear HS'
      have hkN : k < N := by omega
      obtain ⟨fn, tmps, assign, body, hy1, hR⟩ := hY pre (⟨k, hkN⟩, ⟨cf s k, hbs k⟩) wr hJ1 (by omega)
      dsimp only at hy1
      have HP' : Hid ((pre ++ [((⟨k, hkN⟩ : Fin N), (⟨cf s k, hbs k⟩ : Fin 256))]).map it ++ downL s k = downL s N) := by show _ = _; rw [← unhide HP, List.map_append, List.append_assoc]; rfl
      have e1 : ((k + 1 : Nat) : Int) - 1 = (k : Int) := by omega
      rw [e1]
      clear e1
      gi_wp2
      refine ⟨fun h => absurd h (by simp [Fence.wide]), hR.mono ?_⟩
      rintro e W3 (⟨rfl, hJ3, hk3⟩ | ⟨rfl, hJx3⟩)
      · have HR3 := hide ((unhide HR1).kq hk3 hg)
        have HC3 := hide (hk3.cell (unhide HC1) hB sB)
        gi_wp2
        go_roundw
        case rel => exact ⟨pre ++ [((⟨k, hkN⟩ : Fin N), (⟨cf s k, hbs k⟩ : Fin 256))], k, by go_num, by omega, by simp; omega, unhide HP', hJ3, unhide HR3, unhide HC3⟩
        case measure => simp [intOf]
      · gi_wp2
        refine bodyPost_ret (results_none rfl _ _ _) rfl ?_
        exact ⟨⟨_, rfl⟩, .inr ⟨pre ++ [((⟨k, hkN⟩ : Fin N), (⟨cf s k, hbs k⟩ : Fin 256))], trivial, hJx3⟩⟩
    · have hi2 : i = 0 := by omega
      subst hi2
      have HP' := hide ((List.append_nil _).symm.trans (unhide HP))
      clear HS'
      gi_wp2
      go_end0
      exact ⟨⟨_, rfl⟩, .inl ⟨pre, unhide HP', hJ1⟩⟩

theorem back_stops (S : List Nat) (n B n₀ : Nat) (ao : Option Addr) (g N c : Nat) (s : List Nat) (hs : s.length = N) (hbs : Bs s) (hNc : N ≤ 281474976710656) (w : World) (hcap : w.cell? ⟨B, 0, none⟩ = some (.slice ao N c)) (hrow : Row w ao g (ints s)) (hg : s ≠ [] → g < n₀ ∧ g ∉ S) (hB : B < n₀) (sB : B ∉ S) :
    SeqStopsK Fence.wide n Try.prog 64 #[.pointer (some ⟨B, 0, none⟩)] (fun x : Fin N × Fin 256 => #[Value.int .i64 x.1.val, Value.int .u8 x.2.val]) (Kq S n₀) (fun ys => ys.map it = downL s N) (fun _ => True) N w := fun l J Jx W hW _ _ hY h0 =>
  back_in S n l B n₀ ao g N c s hs hbs hNc J Jx hY W ((hW.cell (p := ⟨B, 0, none⟩) (block_lt_of_cell hcap)).trans hcap) (hrow.below hW) hg hB sB h0

end Go.Proofs.Ytahjcahmlangiaa
