/-
  The walk of GfOnce.
-/
import Derived.Test.YtinbenlakimipabGlemB
namespace Go.Proofs.Ytinbenlakimipab
open Go.RowKit

theorem zeroA (w : World) : (zeroValue 24).run Try.prog w = .ok (.agg (Array.replicate 256 (.int .i64 0))) w := by kernel_rfl

/-- How often j came among the first k powers from N on. -/
def cnt (N : Int) (k j : Nat) : Int := if (List.range k).any (fun i => X (N + (i : Nat)) == j) then 1 else 0

theorem cnt_new {N : Int} {k : Nat} (hk : k < 255) : cnt N k (X (N + k)) = 0 := by
  unfold cnt
  rw [if_neg]
  intro h
  obtain ⟨i, hi, he⟩ := List.any_eq_true.1 h
  have hi' := List.mem_range.1 hi
  have := X_inj (beq_iff_eq.1 he)
  omega

theorem cnt_same (N : Int) (k : Nat) : cnt N (k + 1) (X (N + k)) = 1 := by
  unfold cnt
  rw [if_pos]
  exact List.any_eq_true.2 ⟨k, List.mem_range.2 (by omega), by simp⟩

theorem cnt_other {N : Int} {k j : Nat} (h : j ≠ X (N + k)) : cnt N (k + 1) j = cnt N k j := by
  unfold cnt
  rw [List.range_succ, List.any_append]
  have : ([k].any fun i => X (N + (i : Nat)) == j) = false := by simp; omega
  rw [this, Bool.or_false]

/-- The array of counts, in block b. -/
def Seen (w : World) (b : Nat) (N : Int) (k : Nat) : Prop := ∀ j, j < 256 → w.cell? ⟨b, j, none⟩ = some (.int .i64 (cnt N k j)) ∧ w.frozen? ⟨b, j, none⟩ = false

theorem Seen.below {w w' : World} {b n : Nat} {N : Int} {k : Nat} (h : Seen w b N k) (hk : Below n w w') (hb : b < n) : Seen w' b N k := fun j hj =>
  ⟨(hk.cell (p := ⟨b, j, none⟩) hb).trans (h j hj).1, (World.frozen?_of_block (hk.block b hb)).trans (h j hj).2⟩

theorem seen_new (w : World) (N : Int) (t : TypeId) : Seen (w.alloc (.cells (Array.replicate 256 (.int .i64 0)) t)) w.heap.size N 0 := by
  intro j hj
  have h := World.alloc_heap_new w (.cells (Array.replicate 256 (.int .i64 0)) t)
  have e : cnt N 0 j = 0 := rfl
  rw [e]
  constructor
  · unfold World.cell?
    dsimp only
    rw [h]
    simp [hj]
  · unfold World.frozen?
    dsimp only
    rw [h]
    simp

theorem Seen.step {w : World} {b : Nat} {N : Int} {k : Nat} (h : Seen w b N k) : Seen (w.setCell ⟨b, X (N + k), none⟩ (.int .i64 1)) b N (k + 1) := by
  intro j hj
  refine ⟨?_, by rw [World.frozen?_setCell]; exact (h j hj).2⟩
  by_cases e : j = X (N + k)
  · subst e
    rw [cnt_same]
    exact World.cell?_setCell_same' _ _ _ (by rw [(h _ hj).1]; rfl)
  · rw [cnt_other e]
    exact (World.cell?_setCell_other w ⟨b, X (N + k), none⟩ ⟨b, j, none⟩ _ (fun h' => e (congrArg Addr.off h').symm)).trans (h j hj).1

set_option maxRecDepth 100000 in
set_option maxHeartbeats 4000000 in
theorem once_walk (n : Int) (w : World) :
    Calls Try.prog 3 #[.int .i64 n] w fun x w' => x = .returned (.bool true) ∧ Below w.heap.size w w' := by
  have hn0 := Int.emod_nonneg n (show (1000 : Int) ≠ 0 by omega)
  have hn1 := Int.emod_lt_of_pos n (show (0 : Int) < 1000 by omega)
  have hzA := zeroA
  go_enter Try.func3, Try.ntmps3
  go_wp2_with fail
  refine (known_any w).mono ?_
  rintro x w1 ⟨rfl, hk1⟩
  have HK1 := hide hk1
  have hz1 := hk1.size
  clear hk1
  go_wp2_with fail
  refine (within_any n 1000 _ (by omega) (by omega)).mono ?_
  rintro x w2 ⟨rfl, rfl⟩
  go_wp2_with fail
  clear hzA
  have HS := hide (seen_new w2 (n % 1000 - 500) 24)
  have HB := hide ((unhide HK1).alloc (unhide HK1).size (.cells (Array.replicate 256 (.int .i64 0)) 24))
  obtain ⟨N, hN⟩ : ∃ N, n % 1000 - 500 = N := ⟨_, rfl⟩
  rw [hN] at HS ⊢
  have n0 : -500 ≤ N := by omega
  have n1 : N < 500 := by omega
  clear hN hn0 hn1
  have hb0 : w.heap.size ≤ w2.heap.size := hz1
  generalize w2.heap.size = b at *
  go_loopw [4] (fun i wr => ∃ k : Nat, k ≤ 255 ∧ i = .int .i64 k ∧ Seen wr b N k ∧ Below w.heap.size w wr) (fun i _ => 255 - (intOf i).toNat)
  case atStart => exact ⟨0, by omega, rfl, unhide HS, unhide HB⟩
  case round =>
    obtain ⟨k, hk, rfl, hs, hbl⟩ := hrel
    clear HS HB HK1
    have hlb : b < wr.heap.size := block_lt_of_cell (hs 0 (by omega)).1
    have HS := hide hs
    have HB := hide hbl
    clear hs hbl
    by_cases hlt : k < 255
    · have hlt' : (k : Int) < 255 := by omega
      have hX := X_lt (N + k)
      have hX0 := X_ne (N + k)
      have hX0' : (((X (N + k) : Nat) : Int) == 0) = false := by rw [beq_eq_false_iff_ne]; omega
      go_wp2_with fail
      refine (exp_any (N + k) _).mono ?_
      rintro x w3 ⟨rfl, hk3⟩
      have HS3 := hide ((unhide HS).below hk3 hlb)
      have HB3 := hide (Below.on (unhide HB) hk3)
      have hz3 := hk3.size
      clear hk3
      obtain ⟨hc3, hf3⟩ := unhide HS3 (X (N + k)) hX
      rw [cnt_new hlt] at hc3
      have HS4 := hide (unhide HS3).step
      have HB4 := hide ((unhide HB3).setCell (p := ⟨b, X (N + k), none⟩) hb0 (.int .i64 1))
      have hc4 := World.cell?_setCell_same' w3 ⟨b, X (N + k), none⟩ (.int .i64 1) (by rw [hc3]; rfl)
      have hz4 : w3.heap.size ≤ (w3.setCell ⟨b, X (N + k), none⟩ (.int .i64 1)).heap.size := by simp [World.setCell]
      go_wp2_with fail
      refine (log_any (X (N + k)) hX _).mono ?_
      rintro x w4 ⟨rfl, hk4⟩
      have HS5 := hide ((unhide HS4).below hk4 (by omega))
      have HB5 := hide (Below.on (unhide HB4) hk4)
      clear hk4 hc3 hf3 hc4 hz4
      go_wp2_with fail
      refine (rlog_any (X (N + k)) hX _).mono ?_
      rintro x w5 ⟨rfl, rfl⟩
      go_wp2
      go_roundw
      case rel => exact ⟨k + 1, by omega, by go_num, unhide HS5, unhide HB5⟩
      case measure => simp [intOf]; omega
    · have e : k = 255 := by omega
      subst e
      go_wp2
      go_ret
      exact ⟨rfl, unhide HB⟩

end Go.Proofs.Ytinbenlakimipab
