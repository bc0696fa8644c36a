/-
  slices.Backward over a row that the loop itself writes: the places, from the last one down.
-/
import Derived.Test.YtahjcahmlangiaaPs
namespace Go.Proofs.Ytahjcahmlangiaa
open Go.RowKit Go.Shelf
attribute [local go_sem] Oper.semAt_some

/-- Block g begins with N bytes. -/
def U (g N : Nat) (W : World) : Prop := ∀ j, j < N → ∃ v : Fin 256, W.cell? ⟨g, j, none⟩ = some (.int .u8 (v.val : Int))
theorem Blk.u {g N : Nat} {s : List Nat} {W : World} (h : Blk W g s) (hb : Bs s) (hl : s.length = N) : U g N W := fun j hj => ⟨⟨cf s j, hb j⟩, h.cell (by omega)⟩

/-- What a round keeps. -/
def KqU (S : List Nat) (n g N : Nat) (W W' : World) : Prop := Kq S n W W' ∧ (U g N W → U g N W')
theorem KqU.trans {S : List Nat} {n g N : Nat} {A B C : World} (h : KqU S n g N A B) (k : KqU S n g N B C) : KqU S n g N A C := ⟨h.1.trans k.1, fun u => k.2 (h.2 u)⟩
theorem kqU_b {S : List Nat} {n g N : Nat} {w : World} (hn : n ≤ w.heap.size) (hg : g < n) (W : World) (l : Nat) (o o' : Obj) (hl : w.heap.size ≤ l) (h1 : W.heap[l]? = some o) (h2 : o.isCells = false) (h3 : o.isWalk = false) : KqU S n g N W (W.putObj l o') :=
  ⟨kq_b hn W l o o' hl h1 h2 h3, fun u j hj => by
    obtain ⟨v, hv⟩ := u j hj
    exact ⟨v, (World.cell?_of_block (World.putObj_heap_other (by simp; omega))).trans hv⟩⟩

set_option maxRecDepth 100000 in
set_option maxHeartbeats 4000000 in
theorem backU_in (S : List Nat) (n l B n₀ g N c : Nat) (hNc : N ≤ 281474976710656) (J Jx : List (Fin N × Fin 256) → World → Prop)
    (hY : ∀ pre (x : Fin N × Fin 256) W, J pre W → pre.length < N → YieldAt Fence.wide (n - 1) Try.prog l #[.int .i64 x.1.val, .int .u8 x.2.val] W fun e W' =>
      (e = .returned (.bool true) ∧ J (pre ++ [x]) W' ∧ KqU S n₀ g N W W') ∨ (e = .returned (.bool false) ∧ Jx (pre ++ [x]) W'))
    (W : World) (hcap : W.cell? ⟨B, 0, none⟩ = some (.slice (some ⟨g, 0, none⟩) N c)) (hrow : U g N W) (hB : B < n₀) (sB : B ∉ S) (h0 : J [] W) :
    CallsIn Fence.wide n Try.prog 64 #[.func (.yield l) #[] #[], .pointer (some ⟨B, 0, none⟩)] W fun e W' => (∃ v, e = .returned v) ∧
      ((∃ ys, ys.map (fun x => x.1.val) = downN N ∧ J ys W') ∨ (∃ pre, True ∧ Jx pre W')) := by
  have HR := hide hrow
  have HC := hide hcap
  clear hrow
  refine callsIn_of_wp Try.func64 rfl trivial ?_ rfl
  simp only [Try.ntmps64, List.size_toArray, List.length_cons, List.length_nil, Nat.reduceAdd, Nat.reduceSub, Array.replicate_succ, Array.replicate_zero, List.push_toArray, List.append_toArray, List.nil_append, List.cons_append]
  gi_wp2
  clear hcap
  gi_loopw [3] (fun q wr => ∃ (pre : List (Fin N × Fin 256)) (i : Nat), q = .int .i64 ((i : Int) - 1) ∧ i ≤ N ∧ pre.length + i = N ∧ pre.map (fun x => x.1.val) ++ downN i = downN N ∧ J pre wr ∧ U g N wr ∧ wr.cell? ⟨B, 0, none⟩ = some (.slice (some ⟨g, 0, none⟩) N c)) (fun q _ => (intOf q + 1).toNat)
  case atStart => exact ⟨[], N, by go_num, by omega, by simp, by simp, h0, unhide HR, unhide HC⟩
  case round =>
    obtain ⟨pre, i, rfl, hi, hl, hp, hJ1, hr1, hc1⟩ := hrel
    have HP := hide hp
    have HR1 := hide hr1
    have HC1 := hide hc1
    clear hp hr1
    by_cases hlt : 0 < i
    · obtain ⟨k, rfl⟩ : ∃ k, i = k + 1 := ⟨i - 1, by omega⟩
      have hi1 : (k : Int) < (N : Int) := by omega
      have hkN : k < N := by omega
      obtain ⟨⟨y, hyl⟩, hc⟩ := unhide HR1 k hkN
      dsimp only at hc
      obtain ⟨fn, tmps, assign, body, hy1, hR⟩ := hY pre (⟨k, hkN⟩, ⟨y, hyl⟩) wr hJ1 (by omega)
      dsimp only at hy1
      have HP' : Hid ((pre ++ [((⟨k, hkN⟩ : Fin N), (⟨y, hyl⟩ : Fin 256))]).map (fun x => x.1.val) ++ downN k = downN N) := by show _ = _; rw [← unhide HP, List.map_append, List.append_assoc]; rfl
      have e1 : ((k + 1 : Nat) : Int) - 1 = (k : Int) := by omega
      rw [e1]
      clear e1
      gi_wp2
      refine ⟨fun h => absurd h (by simp [Fence.wide]), hR.mono ?_⟩
      rintro e W3 (⟨rfl, hJ3, hk3, hu3⟩ | ⟨rfl, hJx3⟩)
      · have HR3 := hide (hu3 (unhide HR1))
        have HC3 := hide (hk3.cell (unhide HC1) hB sB)
        gi_wp2
        go_roundw
        case rel => exact ⟨pre ++ [((⟨k, hkN⟩ : Fin N), (⟨y, hyl⟩ : Fin 256))], k, by go_num, by omega, by simp; omega, unhide HP', hJ3, unhide HR3, unhide HC3⟩
        case measure => simp [intOf]
      · gi_wp2
        refine bodyPost_ret (results_none rfl _ _ _) rfl ?_
        exact ⟨⟨_, rfl⟩, .inr ⟨pre ++ [((⟨k, hkN⟩ : Fin N), (⟨y, hyl⟩ : Fin 256))], trivial, hJx3⟩⟩
    · have hi2 : i = 0 := by omega
      subst hi2
      have HP' := hide ((List.append_nil _).symm.trans (unhide HP))
      gi_wp2
      go_end0
      exact ⟨⟨_, rfl⟩, .inl ⟨pre, unhide HP', hJ1⟩⟩

theorem backU_stops (S : List Nat) (n B n₀ g N c : Nat) (hNc : N ≤ 281474976710656) (w : World) (hcap : w.cell? ⟨B, 0, none⟩ = some (.slice (some ⟨g, 0, none⟩) N c)) (hrow : U g N w) (hB : B < n₀) (sB : B ∉ S) :
    SeqStopsK Fence.wide n Try.prog 64 #[.pointer (some ⟨B, 0, none⟩)] (fun x : Fin N × Fin 256 => #[Value.int .i64 x.1.val, Value.int .u8 x.2.val]) (KqU S n₀ g N) (fun ys => ys.map (fun x => x.1.val) = downN N) (fun _ => True) N w := fun l J Jx W hW _ _ hY h0 =>
  backU_in S n l B n₀ g N c hNc J Jx hY W ((hW.cell (p := ⟨B, 0, none⟩) (block_lt_of_cell hcap)).trans hcap) (fun j hj => by
    obtain ⟨v, hv⟩ := hrow j hj
    exact ⟨v, (hW.cell (block_lt_of_cell hv)).trans hv⟩) hB sB h0

end Go.Proofs.Ytahjcahmlangiaa
