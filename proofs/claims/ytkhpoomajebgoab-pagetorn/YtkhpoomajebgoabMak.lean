/-
  The iterators over a row of bytes: line.said, slices.Backward.
  poly.addTimes: x times p is added to sum.
-/
import Derived.Test.YtkhpoomajebgoabMag
import Derived.Test.YtkhpoomajebgoabMaj
namespace Go.Proofs.Ytkhpoomajebgoab
open Go.RowKit Go.Shelf
attribute [local go_sem] Oper.semAt_some

set_option maxHeartbeats 1000000 in
theorem back_any (v : Value) (w : World) (hv : ∃ ao n c, v = .slice ao n c) : Calls Try.prog 64 #[v] w fun e w' =>
    ∃ b, e = .returned (.func (.func 69) #[] #[.pointer (some ⟨b, 0, none⟩)]) ∧ w'.cell? ⟨b, 0, none⟩ = some v ∧ w.heap.size ≤ b ∧ b < w'.heap.size ∧ Below w.heap.size w w' := by
  obtain ⟨ao, n, c, rfl⟩ := hv
  go_enter Try.func64, Try.ntmps64
  go_wp2
  go_ret
  exact ⟨_, rfl, (cell_new' w _ _).1, Nat.le_refl _, by simp, (Below.refl _ w).alloc (Nat.le_refl _) _⟩

/-- An item as numbers. -/
def it {N : Nat} (x : Fin N × Fin 256) : Nat × Nat := (x.1.val, x.2.val)

set_option maxRecDepth 100000 in
set_option maxHeartbeats 4000000 in
theorem back_in (S : List Nat) (n l B n₀ : Nat) (ao : Option Addr) (g N c : Nat) (s : List Nat) (hs : s.length = N) (hbs : Bs s) (hNc : N ≤ 281474976710656) (J Jx : List (Fin N × Fin 256) → World → Prop)
    (hY : ∀ pre (x : Fin N × Fin 256) W, J pre W → pre.length < N → YieldAt Fence.wide (n - 1) Try.prog l #[.int .i64 x.1.val, .int .u8 x.2.val] W fun e W' =>
      (e = .returned (.bool true) ∧ J (pre ++ [x]) W' ∧ Kq S n₀ W W') ∨ (e = .returned (.bool false) ∧ Jx (pre ++ [x]) W'))
    (W : World) (hcap : W.cell? ⟨B, 0, none⟩ = some (.slice ao N c)) (hrow : Row W ao g (ints s)) (hg : s ≠ [] → g < n₀ ∧ g ∉ S) (hB : B < n₀) (sB : B ∉ S) (h0 : J [] W) :
    CallsIn Fence.wide n Try.prog 69 #[.func (.yield l) #[] #[], .pointer (some ⟨B, 0, none⟩)] W fun e W' => (∃ v, e = .returned v) ∧
      ((∃ ys, ys.map it = downL s N ∧ J ys W') ∨ (∃ pre, True ∧ Jx pre W')) := by
  have HR := hide hrow
  have HS := hide hs
  have HC := hide hcap
  clear hrow hs
  refine callsIn_of_wp Try.func69 rfl trivial ?_ rfl
  simp only [Try.ntmps69, List.size_toArray, List.length_cons, List.length_nil, Nat.reduceAdd, Nat.reduceSub, Array.replicate_succ, Array.replicate_zero, List.push_toArray, List.append_toArray, List.nil_append, List.cons_append]
  gi_wp2
  clear hcap
  gi_loopw [3] (fun q wr => ∃ (pre : List (Fin N × Fin 256)) (i : Nat), q = .int .i64 ((i : Int) - 1) ∧ i ≤ N ∧ pre.length + i = N ∧ pre.map it ++ downL s i = downL s N ∧ J pre wr ∧ Row wr ao g (ints s) ∧ wr.cell? ⟨B, 0, none⟩ = some (.slice ao N c)) (fun q _ => (intOf q + 1).toNat)
  case atStart => exact ⟨[], N, by go_num, by omega, by simp, by simp, h0, unhide HR, unhide HC⟩
  case round =>
    obtain ⟨pre, i, rfl, hi, hl, hp, hJ1, hr1, hc1⟩ := hrel
    have HP := hide hp
    have HR1 := hide hr1
    have HC1 := hide hc1
    clear hp hr1
    have HS' := unhide HS
    by_cases hlt : 0 < i
    · obtain ⟨k, rfl⟩ : ∃ k, i = k + 1 := ⟨i - 1, by omega⟩
      have hi1 : (k : Int) < (N : Int) := by omega
      obtain ⟨o, rfl⟩ := row_some (unhide HR1) (by omega)
      have hc := row_cell (unhide HR1) (j := k) (by omega)
      clear HS'
      have hkN : k < N := by omega
      obtain ⟨fn, tmps, assign, body, hy1, hR⟩ := hY pre (⟨k, hkN⟩, ⟨cf s k, hbs k⟩) wr hJ1 (by omega)
      dsimp only at hy1
      have HP' : Hid ((pre ++ [((⟨k, hkN⟩ : Fin N), (⟨cf s k, hbs k⟩ : Fin 256))]).map it ++ downL s k = downL s N) := by show _ = _; rw [← unhide HP, List.map_append, List.append_assoc]; rfl
      have e1 : ((k + 1 : Nat) : Int) - 1 = (k : Int) := by omega
      rw [e1]
      clear e1
      gi_wp2
      refine ⟨fun h => absurd h (by simp [Fence.wide]), hR.mono ?_⟩
      rintro e W3 (⟨rfl, hJ3, hk3⟩ | ⟨rfl, hJx3⟩)
      · have HR3 := hide ((unhide HR1).kq hk3 hg)
        have HC3 := hide (hk3.cell (unhide HC1) hB sB)
        gi_wp2
        go_roundw
        case rel => exact ⟨pre ++ [((⟨k, hkN⟩ : Fin N), (⟨cf s k, hbs k⟩ : Fin 256))], k, by go_num, by omega, by simp; omega, unhide HP', hJ3, unhide HR3, unhide HC3⟩
        case measure => simp [intOf]
      · gi_wp2
        refine bodyPost_ret (results_none rfl _ _ _) rfl ?_
        exact ⟨⟨_, rfl⟩, .inr ⟨pre ++ [((⟨k, hkN⟩ : Fin N), (⟨cf s k, hbs k⟩ : Fin 256))], trivial, hJx3⟩⟩
    · have hi2 : i = 0 := by omega
      subst hi2
      have HP' := hide ((List.append_nil _).symm.trans (unhide HP))
      clear HS'
      gi_wp2
      go_end0
      exact ⟨⟨_, rfl⟩, .inl ⟨pre, unhide HP', hJ1⟩⟩

theorem back_stops (S : List Nat) (n B n₀ : Nat) (ao : Option Addr) (g N c : Nat) (s : List Nat) (hs : s.length = N) (hbs : Bs s) (hNc : N ≤ 281474976710656) (w : World) (hcap : w.cell? ⟨B, 0, none⟩ = some (.slice ao N c)) (hrow : Row w ao g (ints s)) (hg : s ≠ [] → g < n₀ ∧ g ∉ S) (hB : B < n₀) (sB : B ∉ S) :
    SeqStopsK Fence.wide n Try.prog 69 #[.pointer (some ⟨B, 0, none⟩)] (fun x : Fin N × Fin 256 => #[Value.int .i64 x.1.val, Value.int .u8 x.2.val]) (Kq S n₀) (fun ys => ys.map it = downL s N) (fun _ => True) N w := fun l J Jx W hW _ _ hY h0 =>
  back_in S n l B n₀ ao g N c s hs hbs hNc J Jx hY W ((hW.cell (p := ⟨B, 0, none⟩) (block_lt_of_cell hcap)).trans hcap) (hrow.below hW) hg hB sB h0

end Go.Proofs.Ytkhpoomajebgoab

namespace Go.Proofs.Ytkhpoomajebgoab
open Go.RowKit Go.Shelf
attribute [local go_sem] Oper.semAt_some

/-- Behind a round's store. -/
theorem ax_post {N : Nat} {w W w4 : World} {g k v b3 b5 : Nat} {s' : List Nat} {h3 h5 : Value} {f : List (Fin N × Fin 256) → List Nat} {pre' : List (Fin N × Fin 256)}
    (hB : Blk W g s') (hk : k < s'.length) (h4 : Below W.drew.heap.size W.drew w4) (c3 : W.cell? ⟨b3, 0, none⟩ = some h3) (c5 : W.cell? ⟨b5, 0, none⟩ = some h5) (hK : Kp [g] w W)
    (e3 : b3 ≠ g) (e5 : b5 ≠ g) (hf : f pre' = s'.set k v) :
    KeepsOthers W (w4.setCell ⟨g, k, none⟩ (.int .u8 (v : Int))) ∧ Kq [g] w.heap.size W (w4.setCell ⟨g, k, none⟩ (.int .u8 (v : Int))) ∧ Blk (w4.setCell ⟨g, k, none⟩ (.int .u8 (v : Int))) g (f pre') ∧
      ((w4.setCell ⟨g, k, none⟩ (.int .u8 (v : Int))).cell? ⟨b3, 0, none⟩ = some h3 ∧ (w4.setCell ⟨g, k, none⟩ (.int .u8 (v : Int))).cell? ⟨b5, 0, none⟩ = some h5) ∧ Kp [g] w (w4.setCell ⟨g, k, none⟩ (.int .u8 (v : Int))) := by
  have hW : Kp [] W w4 := (Kp.refl [] W).drew.ofBelow h4
  have h1 : Kp [g] W (w4.setCell ⟨g, k, none⟩ (.int .u8 (v : Int))) := (hW.mono (by simp)).setCell _ _ (.inl (by simp))
  refine ⟨keeps_of_kp h1 hB, kp_kq h1 hK.size, ?_, ⟨h1.cell c3 (by simpa using e3), h1.cell c5 (by simpa using e5)⟩, hK.trans h1 (by simp)⟩
  rw [hf]
  exact (hB.of (hW.block g hB.lt (by simp))).set k v hk

end Go.Proofs.Ytkhpoomajebgoab
