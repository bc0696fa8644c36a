/-
  The walk of NandBad.
-/
import Derived.Test.YtnondiaefpdlpaaCm
import Derived.Test.YtnondiaefpdlpaaH7m
namespace Go.Proofs.Ytnondiaefpdlpaa
open Go.RowKit Go.Shelf

/-- Flash with one bad block, of which so much was asked. -/
def bdS (D B P : Nat) (d b : Int) (n : Nat) : Nd := { blank D B P (badOf [(d, b), (d, b)]) with wrong := (n : Int) }
theorem badOf_two (d b : Int) (d' b' : Nat) : badOf [(d, b), (d, b)] d' b' = decide ((d' : Int) = d ∧ (b' : Int) = b) := by
  unfold badOf
  exact decide_eq_decide.2 ⟨fun h => by simp at h; exact h, fun h => by simp [h.1, h.2]⟩
theorem bd_inc (D B P : Nat) (d b : Int) (n : Nat) (h : n < 1000) : ({ bdS D B P d b n with wrong := inc (bdS D B P d b n).wrong } : Nd) = bdS D B P d b (n + 1) := by
  have e : inc ((n : Nat) : Int) = ((n + 1 : Nat) : Int) := by rw [inc_in (by omega) (by omega)]; omega
  show ({ bdS D B P d b n with wrong := inc ((n : Nat) : Int) } : Nd) = _
  rw [e]
  rfl
theorem bd_bad {D B P d b : Nat} {n : Nat} : (bdS D B P d b n).bad d b = true := by
  show badOf [((d : Int), (b : Int)), ((d : Int), (b : Int))] d b = true
  rw [badOf_two]; simp
theorem bd_at {D B P : Nat} {d b : Int} {n : Nat} {d' b' : Nat} (hd : d' < D) (hb : b' < B) : (bdS D B P d b n).badB d' b' = decide ((d' : Int) = d ∧ (b' : Int) = b) := by
  rw [Nd.badB, if_pos (show (bdS D B P d b n).There d' b' from ⟨⟨by omega, by show (d' : Int) < (D : Int); omega⟩, by omega, by show (b' : Int) < (B : Int); omega⟩)]
  show badOf _ _ _ = _
  rw [badOf_two]; rfl
theorem bd_out {D B P : Nat} {d b : Int} {n : Nat} {x y : Int} (h : ¬ ((0 ≤ x ∧ x < (D : Int)) ∧ 0 ≤ y ∧ y < (B : Int))) : (bdS D B P d b n).badB x y = false := by
  rw [Nd.badB, if_neg (show ¬ (bdS D B P d b n).There x y from h)]

set_option maxRecDepth 100000 in
set_option maxHeartbeats 8000000 in
theorem bad_walk (g1 g2 g3 die blk z : Int) (w : World) :
    Calls Try.prog 8 #[.agg #[.int .i64 g1, .int .i64 g2, .int .i64 g3], .int .i64 die, .int .i64 blk, .int .i64 z] w fun e w' => e = .returned (.bool true) ∧ Below w.heap.size w w' := by
  have hmk0 : ∀ w : World, (Instr.makeSlice 38 (.int .i64 60) (.int .i64 60)).run Try.prog w = .ok (.slice (some ⟨w.heap.size, 0, none⟩) 60 60) (w.alloc (.cells (List.replicate 60 (Value.int .u8 0)).toArray 5)) := run_zeros 60 (by omega)
  have HZA := hide (fun W : World => zeros_arg 60 (by omega) W)
  have HZS := hide (fun (m : Nat) (W : World) => zeros_safe m W)
  obtain ⟨z60, hz60⟩ : ∃ z, (List.replicate 60 (Value.int .u8 0)).toArray = z := ⟨_, rfl⟩
  simp only [hz60] at hmk0
  rw [hz60] at HZA HZS
  have HMK := hide hmk0
  have hal : Below w.heap.size w (w.alloc (.cells #[.int .i64 g1, .int .i64 g2, .int .i64 g3] 23)) := (Below.refl _ _).alloc (Nat.le_refl _) _
  have hnn := World.alloc_heap_new w (.cells #[.int .i64 g1, .int .i64 g2, .int .i64 g3] 23)
  have HT := hide hal
  have HG := hide hnn
  clear hz60 hmk0 hal hnn
  go_enter Try.func8, Try.ntmps8
  go_wp2_with fail
  generalize w.alloc (.cells #[.int .i64 g1, .int .i64 g2, .int .i64 g3] 23) = wa at HT HG ⊢
  refine (known_any _).mono ?_
  rintro e w0 ⟨rfl, hk⟩
  have hgl := lt_of_block (unhide HG)
  have hG0 := (hk.block _ hgl).trans (unhide HG)
  have c0 : w0.cell? ⟨w.heap.size, 0, none⟩ = some (.int .i64 g1) := cell_blk hG0 rfl
  have c1 : w0.cell? ⟨w.heap.size, 1, none⟩ = some (.int .i64 g2) := cell_blk hG0 rfl
  have c2 : w0.cell? ⟨w.heap.size, 2, none⟩ = some (.int .i64 g3) := cell_blk hG0 rfl
  replace HT := hide ((unhide HT).trans (hk.mono (unhide HT).size))
  clear hk hG0 HG hgl
  go_wp2_with fail
  clear c0 c1 c2
  refine (make_any g1 g2 g3 w0).mono ?_
  rintro e w1 ⟨D, B, P, hok, -, rfl, hk⟩
  have HOK := hide hok
  obtain ⟨⟨hD1, hD2⟩, ⟨hB1, hB2⟩, hP1, hP2⟩ := hok
  replace HT := hide ((unhide HT).trans (hk.mono (unhide HT).size))
  clear hk
  obtain ⟨d, hd⟩ := Int.eq_ofNat_of_zero_le (Int.emod_nonneg die (show (D : Int) ≠ 0 by omega))
  obtain ⟨b, hb⟩ := Int.eq_ofNat_of_zero_le (Int.emod_nonneg blk (show (B : Int) ≠ 0 by omega))
  have hdD : d < D := by have := Int.emod_lt_of_pos die (show (0 : Int) < (D : Int) by omega); omega
  have hbB : b < B := by have := Int.emod_lt_of_pos blk (show (0 : Int) < (B : Int) by omega); omega
  have HD := hide hd
  have HB := hide hb
  have hal : Below w1.heap.size w1 (w1.alloc (.cells #[.int .i64 (D : Int), .int .i64 (B : Int), .int .i64 (P : Int)] 23)) := (Below.refl _ _).alloc (Nat.le_refl _) _
  have hnn := World.alloc_heap_new w1 (.cells #[.int .i64 (D : Int), .int .i64 (B : Int), .int .i64 (P : Int)] 23)
  replace HT := hide (((unhide HT).trans (hal.mono (unhide HT).size)).drew)
  clear hd hb hal
  go_wp2_with fail
  have HG : Hid ((w1.alloc (.cells #[.int .i64 (D : Int), .int .i64 (B : Int), .int .i64 (P : Int)] 23)).drew.heap[w1.heap.size]? = some (.cells #[.int .i64 (D : Int), .int .i64 (B : Int), .int .i64 (P : Int)] 23 (0, 0))) := hnn
  clear hnn
  refine wp_region_noPanic ?_
  refine wp_region_held_drew (S := fun W => Below (w1.alloc (.cells #[.int .i64 (D : Int), .int .i64 (B : Int), .int .i64 (P : Int)] 23)).drew.heap.size (w1.alloc (.cells #[.int .i64 (D : Int), .int .i64 (B : Int), .int .i64 (P : Int)] 23)).drew W) (by kernel_rfl) (Below.refl _ _) (fun hHeld => ?_)
  have HH := hide hHeld
  clear hHeld
  have hzz : w.heap.size ≤ (w1.alloc (.cells #[.int .i64 (D : Int), .int .i64 (B : Int), .int .i64 (P : Int)] 23)).drew.heap.size := (unhide HT).size
  generalize (w1.alloc (.cells #[.int .i64 (D : Int), .int .i64 (B : Int), .int .i64 (P : Int)] 23)).drew = w2 at HT HG HH hzz ⊢
  have C0 : Hid (w2.cell? ⟨w1.heap.size, 0, none⟩ = some (.int .i64 (D : Int))) := cell_blk (unhide HG) rfl
  have C1 : Hid (w2.cell? ⟨w1.heap.size, 1, none⟩ = some (.int .i64 (B : Int))) := cell_blk (unhide HG) rfl
  have C2 : Hid (w2.cell? ⟨w1.heap.size, 2, none⟩ = some (.int .i64 (P : Int))) := cell_blk (unhide HG) rfl
  have HLT : Hid (w1.heap.size < w2.heap.size) := lt_of_block (unhide HG)
  refine takeL (i := 0) (v := ?_) rfl (by kernel_rfl) (by kernel_rfl) (by kernel_rfl) (fun _ _ _ h => h) (Or.inl ⟨by rfl, ?_⟩) (unhide HH) ?_
  rotate_left 1
  · intro W hSW; go_simp; all_goals (with_reducible rfl)
  (try simp only [Act.put, List.setIfInBounds_toArray, List.set_cons_zero, List.set_cons_succ])
  refine takeL (i := 1) (v := ?_) rfl (by kernel_rfl) (by kernel_rfl) (by kernel_rfl) (fun _ _ _ h => h) (Or.inl ⟨by rfl, ?_⟩) (unhide HH) ?_
  rotate_left 1
  · intro W hSW; go_simp; all_goals (with_reducible rfl)
  (try simp only [Act.put, List.setIfInBounds_toArray, List.set_cons_zero, List.set_cons_succ])
  refine takeL (i := 2) (v := ?_) rfl (by kernel_rfl) (by kernel_rfl) (by kernel_rfl) (fun _ _ _ h => h) (Or.inl ⟨by rfl, ?_⟩) (unhide HH) ?_
  rotate_left 1
  · intro W1 hSW; have hcl := below_cell7 hSW (unhide C0) (unhide HLT); clear hSW; go_simp; all_goals (with_reducible rfl)
  (try simp only [Act.put, List.setIfInBounds_toArray, List.set_cons_zero, List.set_cons_succ])
  refine takeL (i := 4) (v := ?_) rfl (by kernel_rfl) (by kernel_rfl) (by kernel_rfl) (fun _ _ _ h => h) (Or.inl ⟨by rfl, ?_⟩) (unhide HH) ?_
  rotate_left 1
  · intro W hSW; go_simp; all_goals (with_reducible rfl)
  (try simp only [Act.put, List.setIfInBounds_toArray, List.set_cons_zero, List.set_cons_succ])
  refine takeL (i := 5) (v := ?_) rfl (by kernel_rfl) (by kernel_rfl) (by kernel_rfl) (fun _ _ _ h => h) (Or.inl ⟨by rfl, ?_⟩) (unhide HH) ?_
  rotate_left 1
  · intro W hSW; go_simp; all_goals (with_reducible rfl)
  (try simp only [Act.put, List.setIfInBounds_toArray, List.set_cons_zero, List.set_cons_succ])
  refine takeL (i := 6) (v := ?_) rfl (by kernel_rfl) (by kernel_rfl) (by kernel_rfl) (fun _ _ _ h => h) (Or.inl ⟨by rfl, ?_⟩) (unhide HH) ?_
  rotate_left 1
  · intro W1 hSW; have hcl := below_cell7 hSW (unhide C1) (unhide HLT); clear hSW; go_simp; all_goals (with_reducible rfl)
  (try simp only [Act.put, List.setIfInBounds_toArray, List.set_cons_zero, List.set_cons_succ])
  refine wpAnyH_ready (rs := [3]) (by kernel_rfl) (by simp) ?_
  refine consL rfl (fun K hK => ?_) AllReadyH.nil
  go_simp
  refine (within7_any _ (D : Int) _ (by omega) (by omega)).mono ?_
  rintro e w2 ⟨rfl, rfl⟩
  rw [unhide HD]
  go_wp2_with fail
  refine hK.out _ _ (unhide HH) (fun hHeld => ?_)
  clear hK K HH
  have HH := hide hHeld
  clear hHeld
  (try simp only [Act.put, List.setIfInBounds_toArray, List.set_cons_zero, List.set_cons_succ])
  refine wpAnyH_ready (rs := [7]) (by kernel_rfl) (by simp) ?_
  refine consL rfl (fun K hK => ?_) AllReadyH.nil
  go_simp
  refine (within7_any _ (B : Int) _ (by omega) (by omega)).mono ?_
  rintro e w2 ⟨rfl, rfl⟩
  rw [unhide HB]
  go_wp2_with fail
  refine hK.out _ _ (unhide HH) (fun hHeld => ?_)
  clear hK K HH
  have HH := hide hHeld
  clear hHeld
  (try simp only [Act.put, List.setIfInBounds_toArray, List.set_cons_zero, List.set_cons_succ])
  refine takeL (i := 8) (v := ?_) rfl (by kernel_rfl) (by kernel_rfl) (by kernel_rfl) (fun _ _ _ h => h) (Or.inl ⟨by rfl, ?_⟩) (unhide HH) ?_
  rotate_left 1
  · intro W hSW; go_simp; all_goals (with_reducible rfl)
  (try simp only [Act.put, List.setIfInBounds_toArray, List.set_cons_zero, List.set_cons_succ])
  refine takeL (i := 9) (v := ?_) rfl (by kernel_rfl) (by kernel_rfl) (by kernel_rfl) (fun _ _ _ h => h) (Or.inl ⟨by rfl, ?_⟩) (unhide HH) ?_
  rotate_left 1
  · intro W hSW; go_simp; all_goals (with_reducible rfl)
  (try simp only [Act.put, List.setIfInBounds_toArray, List.set_cons_zero, List.set_cons_succ])
  refine wpAnyH_done (by kernel_rfl) ?_ _
  refine NoPanic.normal ?_
  have c0 := unhide C0
  have c1 := unhide C1
  have c2 := unhide C2
  have hal : Below w2.heap.size w2 (w2.alloc (.cells #[.int .i64 (d : Int), .int .i64 (b : Int), .int .i64 (d : Int), .int .i64 (b : Int)] 55)) := (Below.refl _ _).alloc (Nat.le_refl _) _
  have hnn := World.alloc_heap_new w2 (.cells #[.int .i64 (d : Int), .int .i64 (b : Int), .int .i64 (d : Int), .int .i64 (b : Int)] 55)
  have hPA : PArg (w2.alloc (.cells #[.int .i64 (d : Int), .int .i64 (b : Int), .int .i64 (d : Int), .int .i64 (b : Int)] 55)) (.slice (some ⟨w2.heap.size, 0, none⟩) 2 2) w2.heap.size [((d : Int), (b : Int)), ((d : Int), (b : Int))] := ⟨_, 2, rfl, by simp, by unfold maxLen; omega, fun _ => ⟨0, rfl, fun i hi => by
    match i, hi with
    | 0, _ => exact ⟨cell_blk hnn rfl, cell_blk hnn rfl⟩
    | 1, _ => exact ⟨cell_blk hnn rfl, cell_blk hnn rfl⟩⟩⟩
  have HPA := hide hPA
  have HT3 := hide ((unhide HT).trans (hal.mono (unhide HT).size))
  have HG3 := hide ((hal.block _ (unhide HLT)).trans (unhide HG))
  have hz3 : (w2.alloc (.cells #[.int .i64 (d : Int), .int .i64 (b : Int), .int .i64 (d : Int), .int .i64 (b : Int)] 55)).heap.size = w2.heap.size + 1 := World.size_alloc _ _
  clear hal hnn hPA HH C0 C1 C2 HT HG
  go_wp2_with fail
  clear c0 c1 c2
  generalize w2.alloc (.cells #[.int .i64 (d : Int), .int .i64 (b : Int), .int .i64 (d : Int), .int .i64 (b : Int)] 55) = w3 at HPA HT3 HG3 hz3 ⊢
  have hlt3 := unhide HLT
  have hz3a := Nat.le_of_eq hz3.symm
  clear hz3 HLT
  refine (new_any D B P _ _ _ w3 (unhide HOK) (unhide HPA)).mono ?_
  rintro e w4 ⟨hb4, ⟨hno, _⟩ | ⟨_, L, rfl, hN4⟩⟩
  · exact absurd (fun p hp => by
      have : p = ((d : Int), (b : Int)) := by simpa using hp
      rw [this]
      exact ⟨⟨by omega, by show (d : Int) < (D : Int); omega⟩, by omega, by show (b : Int) < (B : Int); omega⟩) hno
  have HN : Hid (NA w3.heap.size w4 L (bdS D B P d b 0)) := hN4
  have HG4 := hide ((hb4.block _ (by omega)).trans (unhide HG3))
  have HT4 := hide ((unhide HT3).trans (hb4.mono (unhide HT3).size))
  obtain ⟨m, hmm⟩ : ∃ m, w3.heap.size = m := ⟨_, rfl⟩
  have hm0 : w.heap.size ≤ m := by omega
  have hm1 : w1.heap.size < m := by omega
  rw [hmm] at HN
  clear hN4 hb4 HG3 HT3 HPA hmm
  go_wp2_with fail
  refine (within7_any _ 9 _ (by omega) (by omega)).mono ?_
  rintro e w4 ⟨rfl, rfl⟩
  obtain ⟨n, hn⟩ := Int.eq_ofNat_of_zero_le (Int.emod_nonneg z (show (9 : Int) ≠ 0 by omega))
  have hn9 : n < 9 := by have := Int.emod_lt_of_pos z (show (0 : Int) < 9 by omega); omega
  rw [hn]
  clear hn
  go_wp2_with fail
  go_loopw [14] (fun q14 wr => ∃ i : Nat, q14 = .int .i64 i ∧ i ≤ n ∧ Hid (NA m wr L (bdS D B P d b (3 * i))) ∧ Hid (wr.heap[w1.heap.size]? = some (.cells #[.int .i64 (D : Int), .int .i64 (B : Int), .int .i64 (P : Int)] 23 (0, 0))) ∧ Hid (Below w.heap.size w wr)) (fun q14 _ => n - (intOf q14).toNat)
  case atStart => exact ⟨0, rfl, by omega, HN, HG4, HT4⟩
  case round =>
    clear HN HG4 HT4
    obtain ⟨i, rfl, hi, HN, HG, HT⟩ := hrel
    by_cases hlt : i < n
    · have hi1 : (i : Int) < (n : Int) := by omega
      go_wp2_with fail
      refine (read_bad (unhide HN) rfl d b 0 (fun h => by have := h.1.2; rw [Int.toNat_natCast, Int.toNat_natCast, bd_bad] at this; cases this)).mono ?_
      rintro e w5 ⟨rfl, hN5, hK5⟩
      rw [bd_inc _ _ _ _ _ _ (by omega)] at hN5
      have hal : Below w5.heap.size w5 (w5.alloc (.cells z60 5)) := (Below.refl _ _).alloc (Nat.le_refl _) _
      have HN6 := hide (hN5.below hal)
      have HG6 := hide ((hal.block _ (by have := lt_of_block ((hK5.low _ hm1).trans (unhide HG)); omega)).trans ((hK5.low _ hm1).trans (unhide HG)))
      have hT5 := (unhide HT).trans (hK5.below.mono hm0)
      have HT6 := hide (hT5.trans (hal.mono hT5.size))
      have hmk := unhide HMK
      clear hN5 hK5 hal hT5 HN HG HT
      go_wp2_with fail
      clear hmk
      generalize w5.alloc (.cells z60 5) = w6 at HN6 HG6 HT6 ⊢
      refine (prog_bad (unhide HN6) rfl d b 0 _ _ _ (fun h => by have := h.1.1.2; rw [Int.toNat_natCast, Int.toNat_natCast, bd_bad] at this; cases this)).mono ?_
      rintro e w7 ⟨rfl, hN7, hK7⟩
      rw [bd_inc _ _ _ _ _ _ (by omega)] at hN7
      have HN7 := hide hN7
      have HG7 := hide ((hK7.low _ hm1).trans (unhide HG6))
      have HT7 := hide ((unhide HT6).trans (hK7.below.mono hm0))
      clear hN7 hK7 HN6 HG6 HT6
      go_wp2_with fail
      refine (erase_bad (unhide HN7) rfl d b (fun h => by have := h.2; rw [Int.toNat_natCast, Int.toNat_natCast, bd_bad] at this; cases this)).mono ?_
      rintro e w8 ⟨rfl, hN8, hK8⟩
      rw [bd_inc _ _ _ _ _ _ (by omega)] at hN8
      have HN8 := hide hN8
      have HG8 := hide ((hK8.low _ hm1).trans (unhide HG7))
      have HT8 := hide ((unhide HT7).trans (hK8.below.mono hm0))
      clear hN8 hK8 HN7 HG7 HT7
      go_wp2_with fail
      go_roundw
      case rel => exact ⟨i + 1, by go_num, by omega, HN8, HG8, HT8⟩
      case measure => simp [intOf]; omega
    · obtain rfl : i = n := by omega
      obtain ⟨o, ho⟩ : ∃ o, (b + 1) % B = o := ⟨_, rfl⟩
      have hoB : o < B := by rw [← ho]; exact Nat.mod_lt _ (by omega)
      have hob : o ≠ b := by
        intro e
        by_cases h : b + 1 < B
        · rw [Nat.mod_eq_of_lt h] at ho; omega
        · have hb1 : b + 1 = B := by omega
          rw [hb1, Nat.mod_self] at ho; omega
      obtain ⟨d2, hd2⟩ : ∃ o, (d + 1) % D = o := ⟨_, rfl⟩
      have hd2D : d2 < D := by rw [← hd2]; exact Nat.mod_lt _ (by omega)
      have hd2d : d2 ≠ d := by
        intro e
        by_cases h : d + 1 < D
        · rw [Nat.mod_eq_of_lt h] at hd2; omega
        · have hb1 : d + 1 = D := by omega
          rw [hb1, Nat.mod_self] at hd2; omega
      have q1 : ((b : Int) + 1) % (B : Int) = (o : Int) := by rw [← ho]; simp
      have q2 : ((b : Int) + 1).tmod (B : Int) = (o : Int) := by rw [Int.tmod_eq_emod_of_nonneg (by omega), q1]
      have q3 : ((d : Int) + 1) % (D : Int) = (d2 : Int) := by rw [← hd2]; simp
      have q4 : ((d : Int) + 1).tmod (D : Int) = (d2 : Int) := by rw [Int.tmod_eq_emod_of_nonneg (by omega), q3]
      have hB0 : ((B : Int) == 0) = false := by rw [beq_eq_false_iff_ne]; omega
      have hD0 : ((D : Int) == 0) = false := by rw [beq_eq_false_iff_ne]; omega
      have c1 : wr.cell? ⟨w1.heap.size, 1, none⟩ = some (.int .i64 (B : Int)) := cell_blk (unhide HG) rfl
      have c0 : wr.cell? ⟨w1.heap.size, 0, none⟩ = some (.int .i64 (D : Int)) := cell_blk (unhide HG) rfl
      have B1 : Hid ((bdS D B P d b (3 * i)).badB d b = true) := by show _ = _; rw [bd_at hdD hbB]; simp
      have B2 : Hid ((bdS D B P d b (3 * i)).badB d o = false) := by show _ = _; rw [bd_at hdD hoB]; simp; omega
      have B3 : Hid ((bdS D B P d b (3 * i)).badB d2 b = false) := by show _ = _; rw [bd_at hd2D hbB]; simp; omega
      have B4 : Hid ((bdS D B P d b (3 * i)).badB (-1) 0 = false) := bd_out (by omega)
      have B5 : Hid ((bdS D B P d b (3 * i)).badB 0 (B : Int) = false) := bd_out (by omega)
      have q5 : IntKind.i64.wrap (3 * (i : Int)) = 3 * (i : Int) := IntWalk.i64_in _ ⟨by omega, by omega⟩
      clear ho hd2
      go_wp2_with fail
      refine (isBad_any (unhide HN) d b).mono ?_
      rintro e wr ⟨rfl, rfl⟩
      rw [unhide B1]
      go_wp2_with fail
      refine (isBad_any (unhide HN) d o).mono ?_
      rintro e wr ⟨rfl, rfl⟩
      rw [unhide B2]
      go_wp2_with fail
      refine (isBad_any (unhide HN) d2 b).mono ?_
      rintro e wr ⟨rfl, rfl⟩
      rw [unhide B3]
      go_wp2_with fail
      refine (isBad_any (unhide HN) (-1) 0).mono ?_
      rintro e wr ⟨rfl, rfl⟩
      rw [unhide B4]
      go_wp2_with fail
      refine (isBad_any (unhide HN) 0 (B : Int)).mono ?_
      rintro e wr ⟨rfl, rfl⟩
      rw [unhide B5]
      go_wp2_with fail
      refine (Wrong_any (unhide HN)).mono ?_
      rintro e wr ⟨rfl, rfl⟩
      rw [show (bdS D B P d b (3 * i)).wrong = 3 * (i : Int) from by show ((3 * i : Nat) : Int) = _; omega]
      go_wp2_with fail
      refine (Ops_any (unhide HN)).mono ?_
      rintro e wr ⟨rfl, rfl⟩
      rw [show (bdS D B P d b (3 * i)).ops = 0 from rfl]
      go_wp2_with fail
      refine (erases_any (unhide HN) d b).mono ?_
      rintro e wr ⟨rfl, rfl⟩
      rw [show (bdS D B P d b (3 * i)).eraOf d b = 0 from by rw [Nd.eraOf]; split <;> rfl]
      have hal : Below wr.heap.size wr (wr.alloc (.cells z60 5)) := (Below.refl _ _).alloc (Nat.le_refl _) _
      have HN6 := hide ((unhide HN).below hal)
      have HT6 := hide ((unhide HT).trans (hal.mono (unhide HT).size))
      have hmk := unhide HMK
      have HA6 := hide (unhide HZA wr)
      have HS6 := hide (unhide HZS m wr)
      have HBO : Hid ((bdS D B P d b (3 * i)).bad d o = false) := by show badOf _ _ _ = _; rw [badOf_two]; simp; omega
      clear hal HN HT HG c0 c1 q1 q2 q3 q4
      go_wp2_with fail
      clear hmk
      generalize wr.alloc (.cells z60 5) = w6 at HN6 HT6 HA6 HS6 ⊢
      refine (prog_good (d := d) (b := o) (p := 0) (unhide HN6) rfl hdD hoB (unhide HBO) (by show 0 < P; omega) rfl _ _ _ (unhide HA6) (unhide HS6) (by simp)).mono ?_
      rintro e w7 ⟨rfl, _, hK7⟩
      rw [show (bdS D B P d b (3 * i)).err = 0 from rfl]
      have HT7 := hide ((unhide HT6).trans (hK7.below.mono hm0))
      clear hK7
      go_wp2_with fail
      go_ret
      exact ⟨rfl, unhide HT7⟩

end Go.Proofs.Ytnondiaefpdlpaa
