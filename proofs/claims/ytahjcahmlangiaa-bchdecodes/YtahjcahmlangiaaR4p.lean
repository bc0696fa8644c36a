/-
  The second telling's powers (ramekinref2.Powers), an array of 255.
-/
import Derived.Test.YtahjcahmlangiaaR4e
import Derived.Test.YtahjcahmlangiaaBw
import Derived.Laws.Tables
import Derived.Laws.Rows
namespace Go.Proofs.Ytahjcahmlangiaa
open Go.RowKit

theorem zeroP (w : World) : (zeroValue 50).run Try.prog w = .ok (.agg (Array.replicate 255 (.int .u8 0))) w := by kernel_rfl
theorem sizeA : (Try.prog.info? 50).map (·.size) = some 255 := by kernel_rfl

/-- The powers of 2 as an array. -/
def pwA : Array Value := ((List.range 255).map (fun i => Value.int .u8 ((E i : Nat) : Int))).toArray
theorem pwA_size : pwA.size = 255 := by simp [pwA]
theorem pwA_get {i : Nat} (h : i < 255) : pwA[i]? = some (.int .u8 ((E i : Nat) : Int)) := by simp [pwA, h]

theorem pwA_one : pwA.all (·.oneCell') = true := by
  rw [Array.all_eq_true_iff_forall_mem]
  intro v hv
  simp only [pwA, List.mem_toArray, List.mem_map] at hv
  obtain ⟨i, _, rfl⟩ := hv
  rfl

/-- The block while it is filled. -/
def PowB (w : World) (b k : Nat) : Prop := ∃ cur : Array Value, w.heap[b]? = some (.cells cur 50 (0, 0)) ∧ cur.size = 255 ∧ ∀ j, j < k → cur[j]? = some (.int .u8 ((E j : Nat) : Int))
theorem PowB.cell {w : World} {b k j : Nat} (h : PowB w b k) (hj : j < 255) : (∃ v, w.cell? ⟨b, j, none⟩ = some v) ∧ w.frozen? ⟨b, j, none⟩ = false := by
  obtain ⟨cur, h1, h2, _⟩ := h
  refine ⟨⟨cur[j]'(by omega), ?_⟩, by simp [World.frozen?, h1]⟩
  simp [World.cell?, h1, h2, hj]
theorem PowB.set {w : World} {b k : Nat} (h : PowB w b k) (hk : k < 255) : PowB (w.setCell ⟨b, k, none⟩ (.int .u8 ((E k : Nat) : Int))) b (k + 1) := by
  obtain ⟨cur, h1, h2, h3⟩ := h
  refine ⟨cur.setIfInBounds k (.int .u8 ((E k : Nat) : Int)), by rw [heap_setCell_same w b k _ 50 _ h1], by simpa using h2, fun j hj => ?_⟩
  rw [Array.getElem?_setIfInBounds]
  by_cases e : k = j
  · subst e; simp [h2, hk]
  · rw [if_neg e]; exact h3 j (by omega)
theorem PowB.all {w : World} {b : Nat} (h : PowB w b 255) : w.heap[b]? = some (.cells pwA 50 (0, 0)) := by
  obtain ⟨cur, h1, h2, h3⟩ := h
  rw [h1]
  congr 2
  apply Array.ext_getElem?
  intro j
  by_cases hj : j < 255
  · rw [h3 j hj, pwA_get hj]
  · rw [Array.getElem?_eq_none (by omega), Array.getElem?_eq_none (by rw [pwA_size]; omega)]
theorem PowB.zero (w : World) : PowB (w.alloc (.cells (Array.replicate 255 (.int .u8 0)) 50)) w.heap.size 0 := ⟨_, World.alloc_heap_new w _, by simp, fun j hj => by omega⟩
theorem PowB.of {w w' : World} {b k : Nat} (h : PowB w b k) (e : w'.heap[b]? = w.heap[b]?) : PowB w' b k := by
  obtain ⟨cur, h1, h2⟩ := h
  exact ⟨cur, e.trans h1, h2⟩

theorem load_pw {w : World} {b : Nat} (h : w.heap[b]? = some (.cells pwA 50 (0, 0))) : (loadVar 50 ⟨b, 0, none⟩).run Try.prog w = .ok (.agg pwA) w := by
  have hu := Try.underlying50
  have hl := run_loadCells_list (P := Try.prog) w ⟨b, 0, none⟩ pwA.toList (fun j v hv => by
    rw [Addr.add_lit, Nat.zero_add]
    rw [Array.getElem?_toList] at hv
    simp [World.cell?, h, hv])
  rw [Array.length_toList, pwA_size] at hl
  cases hq : Try.prog.info? 50 with
  | none => have := sizeA; rw [hq] at this; cases this
  | some i =>
    have hi : i.size = 255 := by have := sizeA; rw [hq] at this; simpa using this
    simp [loadVar, isAgg, run_underlying hu, sizeOf, typeInfo, hq, hi, hl]

set_option maxRecDepth 100000 in
set_option maxHeartbeats 4000000 in
theorem powers_any (w : World) : Calls Try.prog 34 #[] w fun e w' => e = .returned (.agg pwA) ∧ Below w.heap.size w w' := by
  have hz := zeroP
  have HB : Hid (Below w.heap.size w ((w.alloc (.cells (Array.replicate 255 (.int .u8 0)) 50)).alloc (.cells (Array.replicate 255 (.int .u8 0)) 50))) := ((Below.refl _ w).alloc (Nat.le_refl _) _).alloc (by simp) _
  have HP : Hid (PowB ((w.alloc (.cells (Array.replicate 255 (.int .u8 0)) 50)).alloc (.cells (Array.replicate 255 (.int .u8 0)) 50)) (w.heap.size + 1) 0) := by
    have h := PowB.zero (w.alloc (.cells (Array.replicate 255 (.int .u8 0)) 50))
    rw [World.size_alloc] at h
    exact h
  have HR : Hid (PowB ((w.alloc (.cells (Array.replicate 255 (.int .u8 0)) 50)).alloc (.cells (Array.replicate 255 (.int .u8 0)) 50)) w.heap.size 0) := (PowB.zero w).of (Below.heap_alloc _ _ _ (by simp))
  go_enter Try.func34, Try.ntmps34
  go_wp2_with fail
  obtain ⟨W0, hW0⟩ : ∃ W0, (w.alloc (.cells (Array.replicate 255 (.int .u8 0)) 50)).alloc (.cells (Array.replicate 255 (.int .u8 0)) 50) = W0 := ⟨_, rfl⟩
  have hz0 : w.heap.size + 2 ≤ W0.heap.size := by rw [← hW0]; simp
  rw [hW0] at HB HP HR ⊢
  clear hW0 hz
  go_loopw [2, 3] (fun x p wr => ∃ k : Nat, k ≤ 255 ∧ x = .int .u8 ((E k : Nat) : Int) ∧ p = .int .i64 k ∧ PowB wr (w.heap.size + 1) k ∧ PowB wr w.heap.size 0 ∧ Below w.heap.size w wr) (fun _ p _ => 255 - (intOf p).toNat)
  case atStart => exact ⟨0, by omega, rfl, rfl, unhide HP, unhide HR, unhide HB⟩
  case round =>
    obtain ⟨k, hk, rfl, rfl, hP, hR, hB⟩ := hrel
    have HP1 := hide hP
    have HR1 := hide hR
    have HB1 := hide hB
    clear hP hR hB
    by_cases hlt : k < 255
    · have hE := E_lt k
      have hlt' : (k : Int) < 255 := by omega
      obtain ⟨⟨v0, hc⟩, hf⟩ := (unhide HP1).cell hlt
      obtain ⟨x, hx⟩ : ∃ x, E k = x := ⟨_, rfl⟩
      have HX := hide hx
      rw [hx] at hE ⊢
      clear hx
      go_wp2_with fail
      refine (rmul_any x 2 hE (by omega) _).mono ?_
      rintro e w' ⟨rfl, rfl⟩
      have h2 : Hid (gmul x 2 = E (k + 1)) := by have := gmul_two_E k; rw [unhide HX] at this; exact this
      rw [unhide h2]
      go_wp2_with fail
      go_roundw
      case rel =>
        refine ⟨k + 1, by omega, rfl, by go_num, ?_, ?_, ?_⟩
        · have h := (unhide HP1).set hlt
          rw [unhide HX] at h
          exact h
        · exact (unhide HR1).of (Below.heap_setCell _ _ _ _ (by simp))
        · exact (unhide HB1).setCell (by simp) _
      case measure => simp [intOf]; omega
    · have hk5 : k = 255 := by omega
      subst hk5
      obtain ⟨cur, g1, g2, _⟩ := unhide HR1
      have G1 := hide g1
      have H9 := hide (setRow_heap wr w.heap.size cur pwA 50 _ g1)
      have HB9 : Hid (Below w.heap.size w (wr.setRow w.heap.size pwA)) := (unhide HB1).trans ⟨rfl, rfl, rfl, by simp, fun k hk => setRow_other wr _ k _ (by omega)⟩
      clear g1
      go_wp2_with (first | (refine wpList_load_row rfl 50 _ rfl (w.heap.size + 1) rfl 50 pwA _ _ ((unhide HP1).all) Try.underlying50 rfl (by rw [sizeA, pwA_size]) ?_) | (refine wpList_store_row rfl 50 _ _ rfl w.heap.size pwA rfl rfl 50 cur (unhide G1) (by rw [sizeA, pwA_size]) (by rw [g2, pwA_size]) pwA_one ?_))
      refine bodyPost_ret (results_cell rfl _ _ ⟨w.heap.size, 0, none⟩ _ rfl (load_pw (unhide H9))) rfl ?_
      exact ⟨rfl, unhide HB9⟩

end Go.Proofs.Ytahjcahmlangiaa
