/-
  The second telling's powers (ramekinref2.Powers), an array of 255.
  The second telling's Syndromes (ramekinref4).
  The second telling's zero, turned (ramekinref4).
-/
import Derived.Test.YtkhpoomajebgoabMat
import Derived.Test.YtkhpoomajebgoabMaq
import Derived.Laws.Tables
import Derived.Laws.Rows
namespace Go.Proofs.Ytkhpoomajebgoab
open Go.RowKit

theorem zeroP (w : World) : (zeroValue 63).run Try.prog w = .ok (.agg (Array.replicate 255 (.int .u8 0))) w := by kernel_rfl
theorem sizeA : (Try.prog.info? 63).map (·.size) = some 255 := by kernel_rfl

/-- The powers of 2 as an array. -/
def pwA : Array Value := ((List.range 255).map (fun i => Value.int .u8 ((E i : Nat) : Int))).toArray
theorem pwA_size : pwA.size = 255 := by simp [pwA]
theorem pwA_get {i : Nat} (h : i < 255) : pwA[i]? = some (.int .u8 ((E i : Nat) : Int)) := by simp [pwA, h]

theorem pwA_one : pwA.all (·.oneCell') = true := by
  rw [Array.all_eq_true_iff_forall_mem]
  intro v hv
  simp only [pwA, List.mem_toArray, List.mem_map] at hv
  obtain ⟨i, _, rfl⟩ := hv
  rfl

/-- The block while it is filled. -/
def PowB (w : World) (b k : Nat) : Prop := ∃ cur : Array Value, w.heap[b]? = some (.cells cur 63 (0, 0)) ∧ cur.size = 255 ∧ ∀ j, j < k → cur[j]? = some (.int .u8 ((E j : Nat) : Int))
theorem PowB.cell {w : World} {b k j : Nat} (h : PowB w b k) (hj : j < 255) : (∃ v, w.cell? ⟨b, j, none⟩ = some v) ∧ w.frozen? ⟨b, j, none⟩ = false := by
  obtain ⟨cur, h1, h2, _⟩ := h
  refine ⟨⟨cur[j]'(by omega), ?_⟩, by simp [World.frozen?, h1]⟩
  simp [World.cell?, h1, h2, hj]
theorem PowB.set {w : World} {b k : Nat} (h : PowB w b k) (hk : k < 255) : PowB (w.setCell ⟨b, k, none⟩ (.int .u8 ((E k : Nat) : Int))) b (k + 1) := by
  obtain ⟨cur, h1, h2, h3⟩ := h
  refine ⟨cur.setIfInBounds k (.int .u8 ((E k : Nat) : Int)), by rw [heap_setCell_same w b k _ 63 _ h1], by simpa using h2, fun j hj => ?_⟩
  rw [Array.getElem?_setIfInBounds]
  by_cases e : k = j
  · subst e; simp [h2, hk]
  · rw [if_neg e]; exact h3 j (by omega)
theorem PowB.all {w : World} {b : Nat} (h : PowB w b 255) : w.heap[b]? = some (.cells pwA 63 (0, 0)) := by
  obtain ⟨cur, h1, h2, h3⟩ := h
  rw [h1]
  congr 2
  apply Array.ext_getElem?
  intro j
  by_cases hj : j < 255
  · rw [h3 j hj, pwA_get hj]
  · rw [Array.getElem?_eq_none (by omega), Array.getElem?_eq_none (by rw [pwA_size]; omega)]
theorem PowB.zero (w : World) : PowB (w.alloc (.cells (Array.replicate 255 (.int .u8 0)) 63)) w.heap.size 0 := ⟨_, World.alloc_heap_new w _, by simp, fun j hj => by omega⟩
theorem PowB.of {w w' : World} {b k : Nat} (h : PowB w b k) (e : w'.heap[b]? = w.heap[b]?) : PowB w' b k := by
  obtain ⟨cur, h1, h2⟩ := h
  exact ⟨cur, e.trans h1, h2⟩

theorem load_pw {w : World} {b : Nat} (h : w.heap[b]? = some (.cells pwA 63 (0, 0))) : (loadVar 63 ⟨b, 0, none⟩).run Try.prog w = .ok (.agg pwA) w := by
  have hu := Try.underlying63
  have hl := run_loadCells_list (P := Try.prog) w ⟨b, 0, none⟩ pwA.toList (fun j v hv => by
    rw [Addr.add_lit, Nat.zero_add]
    rw [Array.getElem?_toList] at hv
    simp [World.cell?, h, hv])
  rw [Array.length_toList, pwA_size] at hl
  cases hq : Try.prog.info? 63 with
  | none => have := sizeA; rw [hq] at this; cases this
  | some i =>
    have hi : i.size = 255 := by have := sizeA; rw [hq] at this; simpa using this
    simp [loadVar, isAgg, run_underlying hu, sizeOf, typeInfo, hq, hi, hl]

set_option maxRecDepth 100000 in
set_option maxHeartbeats 4000000 in
theorem powers_any (w : World) : Calls Try.prog 39 #[] w fun e w' => e = .returned (.agg pwA) ∧ Below w.heap.size w w' := by
  have hz := zeroP
  have HB : Hid (Below w.heap.size w ((w.alloc (.cells (Array.replicate 255 (.int .u8 0)) 63)).alloc (.cells (Array.replicate 255 (.int .u8 0)) 63))) := ((Below.refl _ w).alloc (Nat.le_refl _) _).alloc (by simp) _
  have HP : Hid (PowB ((w.alloc (.cells (Array.replicate 255 (.int .u8 0)) 63)).alloc (.cells (Array.replicate 255 (.int .u8 0)) 63)) (w.heap.size + 1) 0) := by
    have h := PowB.zero (w.alloc (.cells (Array.replicate 255 (.int .u8 0)) 63))
    rw [World.size_alloc] at h
    exact h
  have HR : Hid (PowB ((w.alloc (.cells (Array.replicate 255 (.int .u8 0)) 63)).alloc (.cells (Array.replicate 255 (.int .u8 0)) 63)) w.heap.size 0) := (PowB.zero w).of (Below.heap_alloc _ _ _ (by simp))
  go_enter Try.func39, Try.ntmps39
  go_wp2_with fail
  obtain ⟨W0, hW0⟩ : ∃ W0, (w.alloc (.cells (Array.replicate 255 (.int .u8 0)) 63)).alloc (.cells (Array.replicate 255 (.int .u8 0)) 63) = W0 := ⟨_, rfl⟩
  have hz0 : w.heap.size + 2 ≤ W0.heap.size := by rw [← hW0]; simp
  rw [hW0] at HB HP HR ⊢
  clear hW0 hz
  go_loopw [2, 3] (fun x p wr => ∃ k : Nat, k ≤ 255 ∧ x = .int .u8 ((E k : Nat) : Int) ∧ p = .int .i64 k ∧ PowB wr (w.heap.size + 1) k ∧ PowB wr w.heap.size 0 ∧ Below w.heap.size w wr) (fun _ p _ => 255 - (intOf p).toNat)
  case atStart => exact ⟨0, by omega, rfl, rfl, unhide HP, unhide HR, unhide HB⟩
  case round =>
    obtain ⟨k, hk, rfl, rfl, hP, hR, hB⟩ := hrel
    have HP1 := hide hP
    have HR1 := hide hR
    have HB1 := hide hB
    clear hP hR hB
    by_cases hlt : k < 255
    · have hE := E_lt k
      have hlt' : (k : Int) < 255 := by omega
      obtain ⟨⟨v0, hc⟩, hf⟩ := (unhide HP1).cell hlt
      obtain ⟨x, hx⟩ : ∃ x, E k = x := ⟨_, rfl⟩
      have HX := hide hx
      rw [hx] at hE ⊢
      clear hx
      go_wp2_with fail
      refine (rmul_any x 2 hE (by omega) _).mono ?_
      rintro e w' ⟨rfl, rfl⟩
      have h2 : Hid (gmul x 2 = E (k + 1)) := by have := gmul_two_E k; rw [unhide HX] at this; exact this
      rw [unhide h2]
      go_wp2_with fail
      go_roundw
      case rel =>
        refine ⟨k + 1, by omega, rfl, by go_num, ?_, ?_, ?_⟩
        · have h := (unhide HP1).set hlt
          rw [unhide HX] at h
          exact h
        · exact (unhide HR1).of (Below.heap_setCell _ _ _ _ (by simp))
        · exact (unhide HB1).setCell (by simp) _
      case measure => simp [intOf]; omega
    · have hk5 : k = 255 := by omega
      subst hk5
      obtain ⟨cur, g1, g2, _⟩ := unhide HR1
      have G1 := hide g1
      have H9 := hide (setRow_heap wr w.heap.size cur pwA 63 _ g1)
      have HB9 : Hid (Below w.heap.size w (wr.setRow w.heap.size pwA)) := (unhide HB1).trans ⟨rfl, rfl, rfl, by simp, fun k hk => setRow_other wr _ k _ (by omega)⟩
      clear g1
      go_wp2_with (first | (refine wpList_load_row rfl 63 _ rfl (w.heap.size + 1) rfl 63 pwA _ _ ((unhide HP1).all) Try.underlying63 rfl (by rw [sizeA, pwA_size]) ?_) | (refine wpList_store_row rfl 63 _ _ rfl w.heap.size pwA rfl rfl 63 cur (unhide G1) (by rw [sizeA, pwA_size]) (by rw [g2, pwA_size]) pwA_one ?_))
      refine bodyPost_ret (results_cell rfl _ _ ⟨w.heap.size, 0, none⟩ _ rfl (load_pw (unhide H9))) rfl ?_
      exact ⟨rfl, unhide HB9⟩

end Go.Proofs.Ytkhpoomajebgoab

namespace Go.Proofs.Ytkhpoomajebgoab
open Go.RowKit

theorem pwA_cell {w : World} {b k : Nat} (h : w.heap[b]? = some (.cells pwA 63 (0, 0))) (hk : k < 255) : w.cell? ⟨b, k, none⟩ = some (.int .u8 ((E k : Nat) : Int)) := by
  have := pwA_get hk
  simp [World.cell?, h, this]

theorem ones_snoc (p : List Nat) (c k : Nat) : ones k (p ++ [c]) = ones k p ++ (if c = 0 then [] else [k + p.length]) := by
  induction p generalizing k with
  | nil => simp [ones]
  | cons a p ih => rw [List.cons_append, ones, ones, ih, List.append_assoc, List.length_cons, show k + 1 + p.length = k + (p.length + 1) from by omega]

/-- A syndrome of so many bits. -/
def part (p : List Nat) (e k : Nat) : Nat := xsum (fun j => E (j * e)) (ones 0 (p.take k))
theorem part_zero (p : List Nat) (e : Nat) : part p e 0 = 0 := by simp [part, ones]
theorem part_next {p : List Nat} {k : Nat} (e : Nat) (hk : k < p.length) : part p e (k + 1) = part p e k ^^^ (if cf p k = 0 then 0 else E (k * e)) := by
  unfold part
  have h : p.take (k + 1) = p.take k ++ [cf p k] := by
    rw [List.take_add_one, cf_get hk]
    rfl
  rw [h, ones_snoc, xsum_append, List.length_take, Nat.min_eq_left (by omega), Nat.zero_add]
  split
  · simp
  · simp
theorem part_all (d : List Nat) (e : Nat) : part (wb d) e (wb d).length = syn d e := by
  unfold part
  rw [List.take_length, syn_ones']
theorem part_lt (p : List Nat) (e k : Nat) : part p e k < 256 := xsum_lt (fun _ _ => E_lt _)

/-- The eight while the bits are gone through. -/
structure Sy (p s : List Nat) (k i : Nat) : Prop where
  len : s.length = 8
  bs : Bs s
  at_ : ∀ j, j < 8 → cf s j = part p (j + 1) k ^^^ (if j < i then E (k * (j + 1)) else 0)
theorem Sy.start (p : List Nat) : Sy p (List.replicate 8 0) 0 0 := ⟨by simp, Bs.zeros 8, fun j hj => by
  rw [part_zero, if_neg (by omega), cf_zeros]
  rfl⟩
theorem Sy.skip {p s : List Nat} {k : Nat} (h : Sy p s k 0) (hk : k < p.length) (h0 : cf p k = 0) : Sy p s (k + 1) 0 := ⟨h.len, h.bs, fun j hj => by
  rw [h.at_ j hj, part_next _ hk, if_pos h0, if_neg (by omega), if_neg (by omega), Nat.xor_zero, Nat.xor_zero]⟩
theorem Sy.step {p s : List Nat} {k i : Nat} (h : Sy p s k i) (hi : i < 8) : Sy p (s.set i (cf s i ^^^ E (k * (i + 1) % 255))) k (i + 1) := by
  have hl := h.len
  refine ⟨by simpa using h.len, fun n => ?_, fun j hj => ?_⟩
  · rw [cf_set _ _ _ _ (by omega)]
    split
    · exact xor_lt (h.bs i) (E_lt _)
    · exact h.bs n
  · rw [cf_set _ _ _ _ (by omega), E_mod]
    by_cases e : j = i
    · subst e
      rw [if_pos rfl, h.at_ j hj, if_neg (by omega), if_pos (by omega), Nat.xor_zero]
    · rw [if_neg e, h.at_ j hj]
      by_cases e2 : j < i
      · rw [if_pos e2, if_pos (by omega)]
      · rw [if_neg e2, if_neg (by omega)]
theorem Sy.full {p s : List Nat} {k : Nat} (h : Sy p s k 8) (hk : k < p.length) (h0 : cf p k ≠ 0) : Sy p s (k + 1) 0 := ⟨h.len, h.bs, fun j hj => by
  rw [h.at_ j hj, part_next _ hk, if_neg h0, if_pos hj, if_neg (by omega), Nat.xor_zero]⟩
theorem Sy.all {d s : List Nat} (hd : d.length = 28) (h : Sy (wb d) s 224 0) : s = synF d := by
  have hw : (wb d).length = 224 := by rw [wb_len, hd]
  apply eq_of_cf
  · rw [h.len, synF_eq]; rfl
  · intro j
    by_cases hj : j < 8
    · rw [h.at_ j hj, if_neg (by omega), Nat.xor_zero, ← hw, part_all, synF_eq]
      have : j = 0 ∨ j = 1 ∨ j = 2 ∨ j = 3 ∨ j = 4 ∨ j = 5 ∨ j = 6 ∨ j = 7 := by omega
      rcases this with rfl | rfl | rfl | rfl | rfl | rfl | rfl | rfl <;> rfl
    · rw [cf_ge (by rw [h.len]; omega), cf_ge (by rw [synF_eq]; simp; omega)]

set_option maxRecDepth 100000 in
set_option maxHeartbeats 2000000 in
theorem rsyn_not (v : Value) (g : Nat) (d : List Nat) (w : World) (hA : Arg w v g d) (hl : d.length ≠ 28) : Calls Try.prog 28 #[v] w fun e w' => e = .returned (.slice none 0 0) ∧ w' = w := by
  obtain ⟨⟨ao, c, rfl, hc1, hc2, hnil, hr⟩, hbs⟩ := hA
  have h24 : ((d.length : Int) != 28) = true := by rw [bne_iff_ne]; omega
  clear hr hnil
  go_enter Try.func28, Try.ntmps28
  go_wp2
  go_ret
  exact ⟨rfl, rfl⟩

set_option maxRecDepth 100000 in
set_option maxHeartbeats 8000000 in
theorem rsyn_any (v : Value) (g : Nat) (d : List Nat) (w : World) (hA : Arg w v g d) (hl : d.length = 28) :
    Calls Try.prog 28 #[v] w fun e w' => ∃ v', e = .returned v' ∧ Fr w.heap.size w' v' (synF d) ∧ Below w.heap.size w w' := by
  have HA := hide hA
  obtain ⟨⟨ao, c, rfl, hc1, hc2, hnil, hr⟩, hbs⟩ := hA
  have HA' := hide (show Arg w (.slice ao 28 c) g d from by rw [← hl]; exact unhide HA)
  rw [hl]
  have HL := hide hl
  clear hr hnil HA hl
  go_enter Try.func28, Try.ntmps28
  go_wp2_with fail
  refine (powers_any w).mono ?_
  rintro e w1 ⟨rfl, hk⟩
  have hz := zeroP
  have hmk : ∀ w : World, (Instr.makeSlice 22 (.int .i64 8) (.int .i64 8)).run Try.prog w = .ok (.slice (some ⟨w.heap.size, 0, none⟩) 8 8) (w.alloc (.cells (List.replicate 8 (Value.int .u8 0)).toArray 5)) := run_zeros 8 (by omega)
  obtain ⟨z8, hz8⟩ : ∃ z8, (List.replicate 8 (Value.int .u8 0)).toArray = z8 := ⟨_, rfl⟩
  simp only [hz8] at hmk
  obtain ⟨zA, hzA⟩ : ∃ zA, Array.replicate 255 (Value.int .u8 0) = zA := ⟨_, rfl⟩
  have hzs : zA.size = 255 := by rw [← hzA]; simp
  rw [hzA] at hz
  have G1 := hide (World.alloc_heap_new w1 (.cells zA 63))
  have G2 := hide (setRow_heap _ _ _ pwA _ _ (unhide G1))
  have HB1 : Hid (Below w.heap.size w ((w1.alloc (.cells zA 63)).setRow w1.heap.size pwA)) := (hk.alloc hk.size _).trans ⟨rfl, rfl, rfl, by simp, fun k hk' => setRow_other _ _ k _ (by have := hk.size; omega)⟩
  have hsz := hk.size
  have hszW : ((w1.alloc (.cells zA 63)).setRow w1.heap.size pwA).heap.size = w1.heap.size + 1 := by simp
  obtain ⟨W2, hW2⟩ : ∃ W2, (w1.alloc (.cells zA 63)).setRow w1.heap.size pwA = W2 := ⟨_, rfl⟩
  have HW2 := hide hW2
  rw [hW2] at G2 HB1 hszW
  have HSZ := hide hszW
  clear hk hzA hW2 hszW
  go_wp2_with (refine wpList_store_row rfl 63 _ _ rfl w1.heap.size pwA rfl rfl 63 zA (unhide G1) (by rw [sizeA, pwA_size]) (by rw [hzs, pwA_size]) pwA_one ?_; rw [unhide HW2])
  have HO : Hid (Blk (W2.alloc (.cells z8 5)) W2.heap.size (List.replicate 8 0)) := by
    rw [← hz8]
    obtain ⟨gg, cc, e1, _, _, hB, _⟩ := Fr.blk (owns_fr (s := List.replicate 8 0) (made_owns 8 (by omega) W2)).2 (by simp)
    cases e1
    exact hB
  have HP : Hid ((W2.alloc (.cells z8 5)).heap[w1.heap.size]? = some (.cells pwA 63 (0, 0))) := (Below.heap_alloc _ _ _ (by have := unhide HSZ; omega)).trans (unhide G2)
  have HB2 : Hid (Below w.heap.size w (W2.alloc (.cells z8 5))) := (unhide HB1).alloc (by have := unhide HSZ; omega) _
  have hq : w1.heap.size < W2.heap.size := by have := unhide HSZ; omega
  obtain ⟨q, hqe⟩ : ∃ q, W2.heap.size = q := ⟨_, rfl⟩
  rw [hqe] at HO hq ⊢
  obtain ⟨W3, hW3⟩ : ∃ W3, W2.alloc (.cells z8 5) = W3 := ⟨_, rfl⟩
  rw [hW3] at HO HP HB2 ⊢
  clear hW3 hqe HSZ HW2 G1 G2 HB1 hmk hz hz8 hzs
  have hpw : (wb d).length = 224 := by rw [wb_len, unhide HL]
  have HPW := hide hpw
  clear hpw
  go_loopw [5] (fun p wr => ∃ (k : Nat) (s : List Nat), p = .int .i64 (k : Int) ∧ k ≤ 224 ∧ Sy (wb d) s k 0 ∧ Blk wr q s ∧ wr.heap[w1.heap.size]? = some (.cells pwA 63 (0, 0)) ∧ Below w.heap.size w wr) (fun p _ => 224 - (intOf p).toNat)
  case atStart => exact ⟨0, _, rfl, by omega, Sy.start _, unhide HO, unhide HP, unhide HB2⟩
  case round =>
    obtain ⟨k, s, rfl, hk, hS, hBs, hP, hB⟩ := hrel
    have HS := hide hS
    have HBs := hide hBs
    have HP1 := hide hP
    have HBl := hide hB
    clear hS hBs hP hB
    by_cases hlt : k < 224
    · have hlt' : (k : Int) < 224 := by omega
      have HA4 := hide ((unhide HA').below (unhide HBl))
      go_wp2_with fail
      refine (rbit_any _ _ d k wr (unhide HA4) (by have := unhide HL; omega) (by have := unhide HL; omega)).mono ?_
      rintro e w' ⟨rfl, hw'⟩
      subst hw'
      obtain ⟨x, hx⟩ : ∃ x, cf (wb d) k = x := ⟨_, rfl⟩
      have HX := hide hx
      rw [hx]
      clear hx
      by_cases h0 : x = 0
      · subst h0
        go_wp2_with fail
        go_roundw
        case rel => exact ⟨k + 1, s, by go_num, by omega, (unhide HS).skip (by rw [unhide HPW]; exact hlt) (unhide HX), unhide HBs, unhide HP1, unhide HBl⟩
        case measure => simp [intOf]; omega
      · have hx0 : ((x : Int) == 0) = false := by rw [beq_eq_false_iff_ne]; omega
        go_wp2_with fail
        clear hx0
        go_loopw [6] (fun p wr => ∃ (i : Nat) (u : List Nat), p = .int .i64 ((i : Int) + 1) ∧ i ≤ 8 ∧ Sy (wb d) u k i ∧ Blk wr q u ∧ wr.heap[w1.heap.size]? = some (.cells pwA 63 (0, 0)) ∧ Below w.heap.size w wr) (fun p _ => 9 - (intOf p).toNat)
        case atStart => exact ⟨0, s, rfl, by omega, unhide HS, unhide HBs, unhide HP1, unhide HBl⟩
        case round =>
          obtain ⟨i, u, rfl, hi, hSu, hBu, hPu, hBu2⟩ := hrel
          have hul := hSu.len
          have hub := hSu.bs
          have HSu := hide hSu
          have HBu := hide hBu
          have HPu := hide hPu
          have HBl2 := hide hBu2
          clear hSu hBu hPu hBu2
          by_cases hi2 : i < 8
          · have hi1 : (i : Int) + 1 ≤ 8 := by omega
            obtain ⟨m, hm⟩ : ∃ m, k * (i + 1) % 255 = m := ⟨_, rfl⟩
            have hm255 : m < 255 := by omega
            have HCP := hide (pwA_cell (unhide HPu) hm255)
            have hnx := (unhide HSu).step hi2
            rw [hm] at hnx
            have HNX := hide hnx
            have hmm : k * (i + 1) ≤ 224 * 8 := Nat.mul_le_mul (by omega) (by omega)
            have q1 : (k : Int) * ((i : Int) + 1) = ((k * (i + 1) : Nat) : Int) := by rw [Int.natCast_mul]; rfl
            have q2 : ((k * (i + 1) : Nat) : Int).tmod 255 = (m : Int) := by rw [Int.tmod_eq_emod_of_nonneg (by omega)]; omega
            have q3 : ((k * (i + 1) : Nat) : Int) % 255 = (m : Int) := by omega
            have q4 : IntKind.i64.wrap (i : Int) = (i : Int) := IntWalk.i64_in _ ⟨by omega, by omega⟩
            have q5 : (i : Int) + 1 - 1 = (i : Int) := by omega
            have q6 : IntKind.i64.wrap ((k * (i + 1) : Nat) : Int) = ((k * (i + 1) : Nat) : Int) := IntWalk.i64_in _ ⟨by omega, by omega⟩
            have hi8 : (i : Int) < 8 := by omega
            have hm1 : (m : Int) < 255 := by omega
            obtain ⟨y, hy⟩ : ∃ y, E m = y := ⟨_, rfl⟩
            have hy256 : y < 256 := by rw [← hy]; exact E_lt m
            rw [hy] at HCP hnx HNX
            have hxor := bits_xor_u8 (hub i) hy256
            clear hm hy hnx
            obtain ⟨N, hN⟩ : ∃ N, k * (i + 1) = N := ⟨_, rfl⟩
            rw [hN] at q1 q2 q3 q6 hmm
            clear hN
            go_wp2_with fail
            refine wp_region_noPanic ?_
            refine wp_region_held_drew (S := fun W => Kp [q] wr W) (by kernel_rfl) ((Kp.refl _ _).drew) (fun hHeld => ?_)
            have HH := hide hHeld
            clear hHeld
            refine takeL (i := 0) (v := ?_) rfl (by kernel_rfl) (by kernel_rfl) (by kernel_rfl) (fun _ _ _ h => h) (Or.inl ⟨by rfl, ?_⟩) (unhide HH) ?_
            rotate_left 1
            · intro W hSW; go_simp; all_goals (with_reducible rfl)
            (try simp only [Act.put, List.setIfInBounds_toArray, List.set_cons_zero, List.set_cons_succ])
            refine takeL (i := 1) (v := ?_) rfl (by kernel_rfl) (by kernel_rfl) (by kernel_rfl) (fun _ _ _ h => h) (Or.inl ⟨by rfl, ?_⟩) (unhide HH) ?_
            rotate_left 1
            · intro W hSW; go_simp; all_goals (with_reducible rfl)
            (try simp only [Act.put, List.setIfInBounds_toArray, List.set_cons_zero, List.set_cons_succ])
            refine takeL (i := 2) (v := ?_) rfl (by kernel_rfl) (by kernel_rfl) (by kernel_rfl) (fun _ _ _ h => h) (Or.inl ⟨by rfl, ?_⟩) (unhide HH) ?_
            rotate_left 1
            · intro W hSW; go_simp; all_goals (with_reducible rfl)
            (try simp only [Act.put, List.setIfInBounds_toArray, List.set_cons_zero, List.set_cons_succ])
            refine takeL (i := 3) (v := ?_) rfl (by kernel_rfl) (by kernel_rfl) (by kernel_rfl) (fun _ _ _ h => h) (Or.inl ⟨by rfl, ?_⟩) (unhide HH) ?_
            rotate_left 1
            · intro W hSW; go_simp; all_goals (with_reducible rfl)
            (try simp only [Act.put, List.setIfInBounds_toArray, List.set_cons_zero, List.set_cons_succ])
            refine takeL (i := 4) (v := ?_) rfl (by kernel_rfl) (by kernel_rfl) (by kernel_rfl) (fun _ _ _ h => h) (Or.inl ⟨by rfl, ?_⟩) (unhide HH) ?_
            rotate_left 1
            · intro W hSW; go_simp; all_goals (with_reducible rfl)
            (try simp only [Act.put, List.setIfInBounds_toArray, List.set_cons_zero, List.set_cons_succ])
            refine takeL (i := 5) (v := ?_) rfl (by kernel_rfl) (by kernel_rfl) (by kernel_rfl) (fun _ _ _ h => h) (Or.inl ⟨by rfl, ?_⟩) (unhide HH) ?_
            rotate_left 1
            · intro W hSW; go_simp; all_goals (with_reducible rfl)
            (try simp only [Act.put, List.setIfInBounds_toArray, List.set_cons_zero, List.set_cons_succ])
            refine takeL (i := 6) (v := ?_) rfl (by kernel_rfl) (by kernel_rfl) (by kernel_rfl) (fun _ _ _ h => h) (Or.inl ⟨by rfl, ?_⟩) (unhide HH) ?_
            rotate_left 1
            · intro W hSW; go_simp; all_goals (with_reducible rfl)
            (try simp only [Act.put, List.setIfInBounds_toArray, List.set_cons_zero, List.set_cons_succ])
            refine takeL (i := 8) (v := ?_) rfl (by kernel_rfl) (by kernel_rfl) (by kernel_rfl) (fun _ _ _ h => h) (Or.inl ⟨by rfl, ?_⟩) (unhide HH) ?_
            rotate_left 1
            · intro W hSW; go_simp; all_goals (with_reducible rfl)
            (try simp only [Act.put, List.setIfInBounds_toArray, List.set_cons_zero, List.set_cons_succ])
            refine takeL (i := 9) (v := ?_) rfl (by kernel_rfl) (by kernel_rfl) (by kernel_rfl) (fun _ _ _ h => h) (Or.inl ⟨by rfl, ?_⟩) (unhide HH) ?_
            rotate_left 1
            · intro W hSW; go_simp; all_goals (with_reducible rfl)
            (try simp only [Act.put, List.setIfInBounds_toArray, List.set_cons_zero, List.set_cons_succ])
            refine takeL (i := 10) (v := ?_) rfl (by kernel_rfl) (by kernel_rfl) (by kernel_rfl) (fun _ _ _ h => h) (Or.inl ⟨by rfl, ?_⟩) (unhide HH) ?_
            rotate_left 1
            · intro W hSW; go_simp; all_goals (with_reducible rfl)
            (try simp only [Act.put, List.setIfInBounds_toArray, List.set_cons_zero, List.set_cons_succ])
            refine takeL (i := 11) (v := ?_) rfl (by kernel_rfl) (by kernel_rfl) (by kernel_rfl) (fun _ _ _ h => h) (Or.inl ⟨by rfl, ?_⟩) (unhide HH) ?_
            rotate_left 1
            · intro W hSW; go_simp; all_goals (with_reducible rfl)
            (try simp only [Act.put, List.setIfInBounds_toArray, List.set_cons_zero, List.set_cons_succ])
            refine takeL (i := 12) (v := ?_) rfl (by kernel_rfl) (by kernel_rfl) (by kernel_rfl) (fun _ _ _ h => h) (Or.inl ⟨by rfl, ?_⟩) (unhide HH) ?_
            rotate_left 1
            · intro W hSW; go_simp; all_goals (with_reducible rfl)
            (try simp only [Act.put, List.setIfInBounds_toArray, List.set_cons_zero, List.set_cons_succ])
            refine takeL (i := 13) (v := ?_) rfl (by kernel_rfl) (by kernel_rfl) (by kernel_rfl) (fun _ _ _ h => h) (Or.inl ⟨by rfl, ?_⟩) (unhide HH) ?_
            rotate_left 1
            · intro W1 hSW; have hc := hSW.cell (unhide HCP) (by simp; omega); clear hSW; go_simp; all_goals (with_reducible rfl)
            (try simp only [Act.put, List.setIfInBounds_toArray, List.set_cons_zero, List.set_cons_succ])
            refine wpAnyH_ready (rs := [7]) (by kernel_rfl) (by simp) ?_
            refine consL rfl (fun K hK => ?_) AllReadyH.nil
            have hc4 := ((unhide HBu).of (w' := wr.drew) rfl).cell (j := i) (by omega)
            go_simp
            refine hK.out _ _ (unhide HH) (fun hHeld => ?_)
            clear hK K HH
            have HH := hide hHeld
            clear hHeld
            (try simp only [Act.put, List.setIfInBounds_toArray, List.set_cons_zero, List.set_cons_succ])
            clear hc4
            refine takeL (i := 14) (v := ?_) rfl (by kernel_rfl) (by kernel_rfl) (by kernel_rfl) (fun _ _ _ h => h) (Or.inl ⟨by rfl, ?_⟩) (unhide HH) ?_
            rotate_left 1
            · intro W hSW; go_simp; all_goals (with_reducible rfl)
            (try simp only [Act.put, List.setIfInBounds_toArray, List.set_cons_zero, List.set_cons_succ])
            refine takeL (i := 15) (v := ?_) rfl (by kernel_rfl) (by kernel_rfl) (by kernel_rfl) (fun _ _ _ h => h) (Or.inl ⟨by rfl, ?_⟩) (unhide HH) ?_
            rotate_left 1
            · intro W hSW; go_simp; all_goals (with_reducible rfl)
            (try simp only [Act.put, List.setIfInBounds_toArray, List.set_cons_zero, List.set_cons_succ])
            refine wpAnyH_ready (rs := [16]) (by kernel_rfl) (by simp) ?_
            refine consL rfl (fun K hK => ?_) AllReadyH.nil
            have hc4 := ((unhide HBu).of (w' := wr.drew) rfl).cell (j := i) (by omega)
            have hf4 := ((unhide HBu).of (w' := wr.drew) rfl).free (j := i)
            have HH2 := HH
            go_simp
            refine hK.out _ _ ((unhide HH2).setCell ⟨q, i, none⟩ _ (.inl (by simp))) (fun hHeld => ?_)
            clear hHeld hK K hc4 hf4
            (try simp only [Act.put, List.setIfInBounds_toArray, List.set_cons_zero, List.set_cons_succ])
            refine wpAnyH_done (by kernel_rfl) ?_ _
            refine NoPanic.normal ?_
            go_wp2_with fail
            go_roundw
            case rel =>
              exact ⟨i + 1, u.set i (cf u i ^^^ y), by go_num, by omega, unhide HNX, ((unhide HBu).set i _ (by omega)).of rfl, (Below.heap_setCell _ _ _ _ (by simp; omega)).trans (unhide HPu), ((unhide HBl2).setCell (p := ⟨q, i, none⟩) (show w.heap.size ≤ q by omega) _).drew⟩
            case measure => simp [intOf]; omega
          · have hi3 : i = 8 := by omega
            subst hi3
            go_wp2_with fail
            go_roundw
            case rel => exact ⟨k + 1, u, by go_num, by omega, (unhide HSu).full (by rw [unhide HPW]; exact hlt) (by rw [unhide HX]; exact h0), unhide HBu, unhide HPu, unhide HBl2⟩
            case measure => simp [intOf]; omega
    · have hk4 : k = 224 := by omega
      subst hk4
      have hs := (unhide HS).all (unhide HL)
      have hl8 := (unhide HS).len
      go_wp2
      go_ret
      refine ⟨_, rfl, .inr ⟨q, 8, ?_, ?_, ?_, ?_, ?_⟩, unhide HBl⟩
      · rw [← hs, hl8]; rfl
      · rw [← hs, hl8]; exact Nat.le_refl _
      · unfold maxLen; omega
      · rw [← hs]; exact unhide HBs
      · omega

end Go.Proofs.Ytkhpoomajebgoab

namespace Go.Proofs.Ytkhpoomajebgoab
open Go.RowKit

/-- Are all eight noughts? -/
def zb (s : List Nat) : Bool := (List.range 8).all (fun j => cf s j == 0)
theorem zb_iff (s : List Nat) : zb s = true ↔ ∀ j, j < 8 → cf s j = 0 := by simp [zb]

set_option maxRecDepth 100000 in
set_option maxHeartbeats 2000000 in
theorem zero_any (v : Value) (g : Nat) (s : List Nat) (w : World) (hA : Arg w v g s) (hl : s.length = 8) :
    Calls Try.prog 38 #[v] w fun e w' => e = .returned (.bool (zb s)) ∧ w' = w := by
  obtain ⟨⟨ao, c, rfl, hc1, hc2, hnil, hr⟩, hbs⟩ := hA
  obtain ⟨o, rfl⟩ := row_some hr (by omega)
  have HR := hide hr
  have HL := hide hl
  rw [hl]
  clear hr hnil hl
  go_enter Try.func38, Try.ntmps38
  go_wp2_with fail
  go_loop [3] (fun p => ∃ i : Nat, p = .int .i64 i ∧ i ≤ 8 ∧ ∀ j, j < i → cf s j = 0) (fun p => 8 - (intOf p).toNat)
  case atStart => exact ⟨0, rfl, by omega, fun j hj => by omega⟩
  case round =>
    obtain ⟨i, rfl, hi, hz⟩ := hrel
    have HZ := hide hz
    clear hz
    by_cases hlt : i < 8
    · have hlt' : (i : Int) < 8 := by omega
      have hc := row_cell (unhide HR) (j := i) (by have := unhide HL; omega)
      obtain ⟨x, hx⟩ : ∃ x, cf s i = x := ⟨_, rfl⟩
      rw [hx] at hc
      have HX := hide hx
      clear hx
      by_cases h0 : x = 0
      · subst h0
        go_wp2_with fail
        go_round
        case rel => exact ⟨i + 1, by go_num, by omega, fun j hj => by
          by_cases e : j = i
          · rw [e]; exact unhide HX
          · exact unhide HZ j (by omega)⟩
        case measure => simp [intOf]; omega
      · have hx0 : ((x : Int) != 0) = true := by rw [bne_iff_ne]; omega
        go_wp2
        go_ret
        have hb : zb s = false := by
          rw [Bool.eq_false_iff]
          intro h
          exact h0 (by rw [← unhide HX]; exact (zb_iff s).1 h i hlt)
        rw [hb]
        exact ⟨rfl, rfl⟩
    · have hi8 : i = 8 := by omega
      subst hi8
      go_wp2
      go_ret
      rw [(zb_iff s).2 (unhide HZ)]
      exact ⟨rfl, rfl⟩

/-- Syndromes with a place turned. -/
def tL (s : List Nat) (k : Nat) : List Nat := (List.range 8).map (fun j => cf s j ^^^ E (k * (j + 1)))
theorem tL_len (s : List Nat) (k : Nat) : (tL s k).length = 8 := by simp [tL]
theorem tL_cf (s : List Nat) (k : Nat) {j : Nat} (h : j < 8) : cf (tL s k) j = cf s j ^^^ E (k * (j + 1)) := by
  have : j = 0 ∨ j = 1 ∨ j = 2 ∨ j = 3 ∨ j = 4 ∨ j = 5 ∨ j = 6 ∨ j = 7 := by omega
  rcases this with rfl | rfl | rfl | rfl | rfl | rfl | rfl | rfl <;> rfl
theorem tL_bs {s : List Nat} (hs : Bs s) (k : Nat) : Bs (tL s k) := fun j => by
  by_cases h : j < 8
  · rw [tL_cf s k h]
    exact xor_lt (hs j) (E_lt _)
  · rw [cf_ge (by rw [tL_len]; omega)]
    omega

/-- The eight while the place is turned. -/
structure Tu (s u : List Nat) (k i : Nat) : Prop where
  len : u.length = 8
  bs : Bs u
  at_ : ∀ j, j < 8 → cf u j = cf s j ^^^ (if j < i then E (k * (j + 1)) else 0)
theorem Tu.step {s u : List Nat} {k i : Nat} (h : Tu s u k i) (hi : i < 8) : Tu s (u.set i (cf u i ^^^ E (k * (i + 1) % 255))) k (i + 1) := by
  have hl := h.len
  refine ⟨by simpa using h.len, fun n => ?_, fun j hj => ?_⟩
  · rw [cf_set _ _ _ _ (by omega)]
    split
    · exact xor_lt (h.bs i) (E_lt _)
    · exact h.bs n
  · rw [cf_set _ _ _ _ (by omega), E_mod]
    by_cases e : j = i
    · subst e
      rw [if_pos rfl, h.at_ j hj, if_neg (by omega), if_pos (by omega), Nat.xor_zero]
    · rw [if_neg e, h.at_ j hj]
      by_cases e2 : j < i
      · rw [if_pos e2, if_pos (by omega)]
      · rw [if_neg e2, if_neg (by omega)]
theorem Tu.all {s u : List Nat} {k : Nat} (h : Tu s u k 8) : u = tL s k := by
  apply eq_of_cf
  · rw [h.len, tL_len]
  · intro j
    by_cases hj : j < 8
    · rw [h.at_ j hj, if_pos hj, tL_cf s k hj]
    · rw [cf_ge (by rw [h.len]; omega), cf_ge (by rw [tL_len]; omega)]

set_option maxRecDepth 100000 in
set_option maxHeartbeats 8000000 in
theorem turned_any (v : Value) (g : Nat) (s : List Nat) (k : Nat) (w : World) (hA : Arg w v g s) (hl : s.length = 8) (hk : k < 255) :
    Calls Try.prog 41 #[v, .int .i64 (k : Int), .agg pwA] w fun e w' => ∃ v', e = .returned v' ∧ Fr w.heap.size w' v' (tL s k) ∧ Below w.heap.size w w' := by
  obtain ⟨⟨ao, c, rfl, hc1, hc2, hnil, hr⟩, hbs⟩ := hA
  obtain ⟨o, rfl⟩ := row_some hr (by omega)
  obtain ⟨i0, hi0, hz0, hz1, hz2⟩ := info_parts infoE
  have HI := hide hi0
  have HS := hide hl
  have HK1 : Hid (Kp [] w (w.alloc (.cells pwA 63))) := (Kp.refl [] w).alloc _
  have HP1 := hide (World.alloc_heap_new w (.cells pwA 63))
  have hsz1 : w.heap.size < (w.alloc (.cells pwA 63)).heap.size := by simp
  have HR := hide (hr.keep (unhide HK1) (by simp))
  rw [hl]
  clear hr hnil hi0 hl
  go_enter Try.func41, Try.ntmps41
  obtain ⟨w0, hw0⟩ : ∃ w0, w.alloc (.cells pwA 63) = w0 := ⟨_, rfl⟩
  have hw1 : w0.heap.size = w.heap.size + 1 := by rw [← hw0]; simp
  have HO := hide (empty_owns' w0)
  rw [hw0] at HK1 HP1 HR hsz1
  have HW0 := hide hw0
  have HW1 := hide hw1
  have HRK : Hid (Row (w0.alloc (.cells #[] 5)) (some ⟨g, o, none⟩) g (ints s)) := (unhide HR).keep ((Kp.refl [] w0).alloc _) (by simp)
  rw [hw1] at HO
  rw [← hw0] at HO HRK
  clear hw0 hw1
  go_wp2_with (at_builtin; refine wpList_append_row _ rfl _ _ 22 rfl (w.heap.size + 1) 5 i0 Try.underlying22 (unhide HI) hz0 hz1 hz2 (.slice (some ⟨w.heap.size + 1, 0, none⟩) 0 0) 0 _ rfl (unhide HO) (some ⟨g, o, none⟩) g 8 c (ints s) rfl (by rw [ints_len]; exact unhide HS) (unhide HRK) (fun h => by cases h) (by omega) (by simp) ?_)
  intro v' w1 ho hg _
  rw [unhide HW0] at hg
  have hF := (owns_fr (s := s) ho).2
  obtain ⟨q, cq, rfl, hq1, hq2, hB, hq3⟩ := hF.blk (by intro h; have := unhide HS; rw [h] at this; simp at this)
  rw [unhide HS] at hq1 ⊢
  have HB1 := hide hB
  have HK01 : Hid (Kp [] w0 w1) := ((Kp.refl [] w0).alloc _).grown hg (fun k e => by cases e; exact .inr (by have := unhide HW1; show w0.heap.size ≤ w.heap.size + 1; omega))
  have HK2 := hide ((unhide HK1).trans (unhide HK01) (by simp))
  have HP2 := hide (((unhide HK01).block w.heap.size hsz1 (by simp)).trans (unhide HP1))
  have hqg : w.heap.size < q := by omega
  clear ho hg hF hB HK1 HO HRK HR HP1 HK01 HW0
  go_wp2_with fail
  go_loopw [8] (fun p wr => ∃ (i : Nat) (u : List Nat), p = .int .i64 ((i : Int) + 1) ∧ i ≤ 8 ∧ Tu s u k i ∧ Blk wr q u ∧ wr.heap[w.heap.size]? = some (.cells pwA 63 (0, 0)) ∧ Kp [] w wr) (fun p _ => 9 - (intOf p).toNat)
  case atStart => exact ⟨0, s, rfl, by omega, ⟨unhide HS, hbs, fun j hj => by rw [if_neg (by omega), Nat.xor_zero]⟩, unhide HB1, unhide HP2, unhide HK2⟩
  case round =>
    obtain ⟨i, u, rfl, hi, hSu, hBu, hPu, hBu2⟩ := hrel
    have hul := hSu.len
    have hub := hSu.bs
    have HSu := hide hSu
    have HBu := hide hBu
    have HPu := hide hPu
    have HBl2 := hide hBu2
    clear hSu hBu hPu hBu2
    by_cases hi2 : i < 8
    · have hi1 : (i : Int) + 1 ≤ 8 := by omega
      obtain ⟨m, hm⟩ : ∃ m, k * (i + 1) % 255 = m := ⟨_, rfl⟩
      have hm255 : m < 255 := by omega
      have HCP := hide (pwA_cell (unhide HPu) hm255)
      have hnx := (unhide HSu).step hi2
      rw [hm] at hnx
      have HNX := hide hnx
      have hmm : k * (i + 1) ≤ 255 * 8 := Nat.mul_le_mul (by omega) (by omega)
      have q1 : (k : Int) * ((i : Int) + 1) = ((k * (i + 1) : Nat) : Int) := by rw [Int.natCast_mul]; rfl
      have q2 : ((k * (i + 1) : Nat) : Int).tmod 255 = (m : Int) := by rw [Int.tmod_eq_emod_of_nonneg (by omega)]; omega
      have q3 : ((k * (i + 1) : Nat) : Int) % 255 = (m : Int) := by omega
      have q4 : IntKind.i64.wrap (i : Int) = (i : Int) := IntWalk.i64_in _ ⟨by omega, by omega⟩
      have q5 : (i : Int) + 1 - 1 = (i : Int) := by omega
      have q6 : IntKind.i64.wrap ((k * (i + 1) : Nat) : Int) = ((k * (i + 1) : Nat) : Int) := IntWalk.i64_in _ ⟨by omega, by omega⟩
      have hi8 : (i : Int) < 8 := by omega
      have hm1 : (m : Int) < 255 := by omega
      obtain ⟨y, hy⟩ : ∃ y, E m = y := ⟨_, rfl⟩
      have hy256 : y < 256 := by rw [← hy]; exact E_lt m
      rw [hy] at HCP hnx HNX
      have hxor := bits_xor_u8 (hub i) hy256
      clear hm hy hnx
      obtain ⟨N, hN⟩ : ∃ N, k * (i + 1) = N := ⟨_, rfl⟩
      rw [hN] at q1 q2 q3 q6 hmm
      clear hN
      go_wp2_with fail
      refine wp_region_noPanic ?_
      refine wp_region_held_drew (S := fun W => Kp [q] wr W) (by kernel_rfl) ((Kp.refl _ _).drew) (fun hHeld => ?_)
      have HH := hide hHeld
      clear hHeld
      refine takeL (i := 0) (v := ?_) rfl (by kernel_rfl) (by kernel_rfl) (by kernel_rfl) (fun _ _ _ h => h) (Or.inl ⟨by rfl, ?_⟩) (unhide HH) ?_
      rotate_left 1
      · intro W hSW; go_simp; all_goals (with_reducible rfl)
      (try simp only [Act.put, List.setIfInBounds_toArray, List.set_cons_zero, List.set_cons_succ])
      refine takeL (i := 1) (v := ?_) rfl (by kernel_rfl) (by kernel_rfl) (by kernel_rfl) (fun _ _ _ h => h) (Or.inl ⟨by rfl, ?_⟩) (unhide HH) ?_
      rotate_left 1
      · intro W hSW; go_simp; all_goals (with_reducible rfl)
      (try simp only [Act.put, List.setIfInBounds_toArray, List.set_cons_zero, List.set_cons_succ])
      refine takeL (i := 2) (v := ?_) rfl (by kernel_rfl) (by kernel_rfl) (by kernel_rfl) (fun _ _ _ h => h) (Or.inl ⟨by rfl, ?_⟩) (unhide HH) ?_
      rotate_left 1
      · intro W hSW; go_simp; all_goals (with_reducible rfl)
      (try simp only [Act.put, List.setIfInBounds_toArray, List.set_cons_zero, List.set_cons_succ])
      refine takeL (i := 3) (v := ?_) rfl (by kernel_rfl) (by kernel_rfl) (by kernel_rfl) (fun _ _ _ h => h) (Or.inl ⟨by rfl, ?_⟩) (unhide HH) ?_
      rotate_left 1
      · intro W hSW; go_simp; all_goals (with_reducible rfl)
      (try simp only [Act.put, List.setIfInBounds_toArray, List.set_cons_zero, List.set_cons_succ])
      refine takeL (i := 4) (v := ?_) rfl (by kernel_rfl) (by kernel_rfl) (by kernel_rfl) (fun _ _ _ h => h) (Or.inl ⟨by rfl, ?_⟩) (unhide HH) ?_
      rotate_left 1
      · intro W hSW; go_simp; all_goals (with_reducible rfl)
      (try simp only [Act.put, List.setIfInBounds_toArray, List.set_cons_zero, List.set_cons_succ])
      refine takeL (i := 5) (v := ?_) rfl (by kernel_rfl) (by kernel_rfl) (by kernel_rfl) (fun _ _ _ h => h) (Or.inl ⟨by rfl, ?_⟩) (unhide HH) ?_
      rotate_left 1
      · intro W hSW; go_simp; all_goals (with_reducible rfl)
      (try simp only [Act.put, List.setIfInBounds_toArray, List.set_cons_zero, List.set_cons_succ])
      refine takeL (i := 6) (v := ?_) rfl (by kernel_rfl) (by kernel_rfl) (by kernel_rfl) (fun _ _ _ h => h) (Or.inl ⟨by rfl, ?_⟩) (unhide HH) ?_
      rotate_left 1
      · intro W hSW; go_simp; all_goals (with_reducible rfl)
      (try simp only [Act.put, List.setIfInBounds_toArray, List.set_cons_zero, List.set_cons_succ])
      refine takeL (i := 8) (v := ?_) rfl (by kernel_rfl) (by kernel_rfl) (by kernel_rfl) (fun _ _ _ h => h) (Or.inl ⟨by rfl, ?_⟩) (unhide HH) ?_
      rotate_left 1
      · intro W hSW; go_simp; all_goals (with_reducible rfl)
      (try simp only [Act.put, List.setIfInBounds_toArray, List.set_cons_zero, List.set_cons_succ])
      refine takeL (i := 9) (v := ?_) rfl (by kernel_rfl) (by kernel_rfl) (by kernel_rfl) (fun _ _ _ h => h) (Or.inl ⟨by rfl, ?_⟩) (unhide HH) ?_
      rotate_left 1
      · intro W hSW; go_simp; all_goals (with_reducible rfl)
      (try simp only [Act.put, List.setIfInBounds_toArray, List.set_cons_zero, List.set_cons_succ])
      refine takeL (i := 10) (v := ?_) rfl (by kernel_rfl) (by kernel_rfl) (by kernel_rfl) (fun _ _ _ h => h) (Or.inl ⟨by rfl, ?_⟩) (unhide HH) ?_
      rotate_left 1
      · intro W hSW; go_simp; all_goals (with_reducible rfl)
      (try simp only [Act.put, List.setIfInBounds_toArray, List.set_cons_zero, List.set_cons_succ])
      refine takeL (i := 11) (v := ?_) rfl (by kernel_rfl) (by kernel_rfl) (by kernel_rfl) (fun _ _ _ h => h) (Or.inl ⟨by rfl, ?_⟩) (unhide HH) ?_
      rotate_left 1
      · intro W hSW; go_simp; all_goals (with_reducible rfl)
      (try simp only [Act.put, List.setIfInBounds_toArray, List.set_cons_zero, List.set_cons_succ])
      refine takeL (i := 12) (v := ?_) rfl (by kernel_rfl) (by kernel_rfl) (by kernel_rfl) (fun _ _ _ h => h) (Or.inl ⟨by rfl, ?_⟩) (unhide HH) ?_
      rotate_left 1
      · intro W hSW; go_simp; all_goals (with_reducible rfl)
      (try simp only [Act.put, List.setIfInBounds_toArray, List.set_cons_zero, List.set_cons_succ])
      refine takeL (i := 13) (v := ?_) rfl (by kernel_rfl) (by kernel_rfl) (by kernel_rfl) (fun _ _ _ h => h) (Or.inl ⟨by rfl, ?_⟩) (unhide HH) ?_
      rotate_left 1
      · intro W1 hSW; have hc := hSW.cell (unhide HCP) (by simp; omega); clear hSW; go_simp; all_goals (with_reducible rfl)
      (try simp only [Act.put, List.setIfInBounds_toArray, List.set_cons_zero, List.set_cons_succ])
      refine wpAnyH_ready (rs := [7]) (by kernel_rfl) (by simp) ?_
      refine consL rfl (fun K hK => ?_) AllReadyH.nil
      have hc4 := ((unhide HBu).of (w' := wr.drew) rfl).cell (j := i) (by omega)
      go_simp
      refine hK.out _ _ (unhide HH) (fun hHeld => ?_)
      clear hK K HH
      have HH := hide hHeld
      clear hHeld
      (try simp only [Act.put, List.setIfInBounds_toArray, List.set_cons_zero, List.set_cons_succ])
      clear hc4
      refine takeL (i := 14) (v := ?_) rfl (by kernel_rfl) (by kernel_rfl) (by kernel_rfl) (fun _ _ _ h => h) (Or.inl ⟨by rfl, ?_⟩) (unhide HH) ?_
      rotate_left 1
      · intro W hSW; go_simp; all_goals (with_reducible rfl)
      (try simp only [Act.put, List.setIfInBounds_toArray, List.set_cons_zero, List.set_cons_succ])
      refine takeL (i := 15) (v := ?_) rfl (by kernel_rfl) (by kernel_rfl) (by kernel_rfl) (fun _ _ _ h => h) (Or.inl ⟨by rfl, ?_⟩) (unhide HH) ?_
      rotate_left 1
      · intro W hSW; go_simp; all_goals (with_reducible rfl)
      (try simp only [Act.put, List.setIfInBounds_toArray, List.set_cons_zero, List.set_cons_succ])
      refine wpAnyH_ready (rs := [16]) (by kernel_rfl) (by simp) ?_
      refine consL rfl (fun K hK => ?_) AllReadyH.nil
      have hc4 := ((unhide HBu).of (w' := wr.drew) rfl).cell (j := i) (by omega)
      have hf4 := ((unhide HBu).of (w' := wr.drew) rfl).free (j := i)
      have HH2 := HH
      go_simp
      refine hK.out _ _ ((unhide HH2).setCell ⟨q, i, none⟩ _ (.inl (by simp))) (fun hHeld => ?_)
      clear hHeld hK K hc4 hf4
      (try simp only [Act.put, List.setIfInBounds_toArray, List.set_cons_zero, List.set_cons_succ])
      refine wpAnyH_done (by kernel_rfl) ?_ _
      refine NoPanic.normal ?_
      go_wp2_with fail
      go_roundw
      case rel =>
        exact ⟨i + 1, u.set i (cf u i ^^^ y), by go_num, by omega, unhide HNX, ((unhide HBu).set i _ (by omega)).of rfl, (Below.heap_setCell _ _ _ _ (by simp; omega)).trans (unhide HPu), ((unhide HBl2).setCell ⟨q, i, none⟩ _ (.inr (show w.heap.size ≤ q by omega))).drew⟩
      case measure => simp [intOf]; omega
    · have hi3 : i = 8 := by omega
      subst hi3
      have hs := (unhide HSu).all
      go_wp2
      go_ret
      refine ⟨_, rfl, .inr ⟨q, cq, ?_, ?_, hq2, ?_, ?_⟩, (unhide HBl2).below⟩
      · rw [tL_len]; rfl
      · rw [tL_len]; exact hq1
      · rw [← hs]; exact unhide HBu
      · omega

end Go.Proofs.Ytkhpoomajebgoab
