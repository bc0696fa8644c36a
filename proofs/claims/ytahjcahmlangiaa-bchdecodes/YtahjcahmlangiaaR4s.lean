/-
  The second telling's Syndromes (ramekinref4).
-/
import Derived.Test.YtahjcahmlangiaaR4p
namespace Go.Proofs.Ytahjcahmlangiaa
open Go.RowKit

theorem pwA_cell {w : World} {b k : Nat} (h : w.heap[b]? = some (.cells pwA 50 (0, 0))) (hk : k < 255) : w.cell? ⟨b, k, none⟩ = some (.int .u8 ((E k : Nat) : Int)) := by
  have := pwA_get hk
  simp [World.cell?, h, this]

theorem ones_snoc (p : List Nat) (c k : Nat) : ones k (p ++ [c]) = ones k p ++ (if c = 0 then [] else [k + p.length]) := by
  induction p generalizing k with
  | nil => simp [ones]
  | cons a p ih => rw [List.cons_append, ones, ones, ih, List.append_assoc, List.length_cons, show k + 1 + p.length = k + (p.length + 1) from by omega]

/-- A syndrome of so many bits. -/
def part (p : List Nat) (e k : Nat) : Nat := xsum (fun j => E (j * e)) (ones 0 (p.take k))
theorem part_zero (p : List Nat) (e : Nat) : part p e 0 = 0 := by simp [part, ones]
theorem part_next {p : List Nat} {k : Nat} (e : Nat) (hk : k < p.length) : part p e (k + 1) = part p e k ^^^ (if cf p k = 0 then 0 else E (k * e)) := by
  unfold part
  have h : p.take (k + 1) = p.take k ++ [cf p k] := by
    rw [List.take_add_one, cf_get hk]
    rfl
  rw [h, ones_snoc, xsum_append, List.length_take, Nat.min_eq_left (by omega), Nat.zero_add]
  split
  · simp
  · simp
theorem part_all (d : List Nat) (e : Nat) : part (wb d) e (wb d).length = syn d e := by
  unfold part
  rw [List.take_length, syn_ones']
theorem part_lt (p : List Nat) (e k : Nat) : part p e k < 256 := xsum_lt (fun _ _ => E_lt _)

/-- The eight while the bits are gone through. -/
structure Sy (p s : List Nat) (k i : Nat) : Prop where
  len : s.length = 8
  bs : Bs s
  at_ : ∀ j, j < 8 → cf s j = part p (j + 1) k ^^^ (if j < i then E (k * (j + 1)) else 0)
theorem Sy.start (p : List Nat) : Sy p (List.replicate 8 0) 0 0 := ⟨by simp, Bs.zeros 8, fun j hj => by
  rw [part_zero, if_neg (by omega), cf_zeros]
  rfl⟩
theorem Sy.skip {p s : List Nat} {k : Nat} (h : Sy p s k 0) (hk : k < p.length) (h0 : cf p k = 0) : Sy p s (k + 1) 0 := ⟨h.len, h.bs, fun j hj => by
  rw [h.at_ j hj, part_next _ hk, if_pos h0, if_neg (by omega), if_neg (by omega), Nat.xor_zero, Nat.xor_zero]⟩
theorem Sy.step {p s : List Nat} {k i : Nat} (h : Sy p s k i) (hi : i < 8) : Sy p (s.set i (cf s i ^^^ E (k * (i + 1) % 255))) k (i + 1) := by
  have hl := h.len
  refine ⟨by simpa using h.len, fun n => ?_, fun j hj => ?_⟩
  · rw [cf_set _ _ _ _ (by omega)]
    split
    · exact xor_lt (h.bs i) (E_lt _)
    · exact h.bs n
  · rw [cf_set _ _ _ _ (by omega), E_mod]
    by_cases e : j = i
    · subst e
      rw [if_pos rfl, h.at_ j hj, if_neg (by omega), if_pos (by omega), Nat.xor_zero]
    · rw [if_neg e, h.at_ j hj]
      by_cases e2 : j < i
      · rw [if_pos e2, if_pos (by omega)]
      · rw [if_neg e2, if_neg (by omega)]
theorem Sy.full {p s : List Nat} {k : Nat} (h : Sy p s k 8) (hk : k < p.length) (h0 : cf p k ≠ 0) : Sy p s (k + 1) 0 := ⟨h.len, h.bs, fun j hj => by
  rw [h.at_ j hj, part_next _ hk, if_neg h0, if_pos hj, if_neg (by omega), Nat.xor_zero]⟩
theorem Sy.all {d s : List Nat} (hd : d.length = 28) (h : Sy (wb d) s 224 0) : s = synF d := by
  have hw : (wb d).length = 224 := by rw [wb_len, hd]
  apply eq_of_cf
  · rw [h.len, synF_eq]; rfl
  · intro j
    by_cases hj : j < 8
    · rw [h.at_ j hj, if_neg (by omega), Nat.xor_zero, ← hw, part_all, synF_eq]
      have : j = 0 ∨ j = 1 ∨ j = 2 ∨ j = 3 ∨ j = 4 ∨ j = 5 ∨ j = 6 ∨ j = 7 := by omega
      rcases this with rfl | rfl | rfl | rfl | rfl | rfl | rfl | rfl <;> rfl
    · rw [cf_ge (by rw [h.len]; omega), cf_ge (by rw [synF_eq]; simp; omega)]

set_option maxRecDepth 100000 in
set_option maxHeartbeats 2000000 in
theorem rsyn_not (v : Value) (g : Nat) (d : List Nat) (w : World) (hA : Arg w v g d) (hl : d.length ≠ 28) : Calls Try.prog 18 #[v] w fun e w' => e = .returned (.slice none 0 0) ∧ w' = w := by
  obtain ⟨⟨ao, c, rfl, hc1, hc2, hnil, hr⟩, hbs⟩ := hA
  have h24 : ((d.length : Int) != 28) = true := by rw [bne_iff_ne]; omega
  clear hr hnil
  go_enter Try.func18, Try.ntmps18
  go_wp2
  go_ret
  exact ⟨rfl, rfl⟩

set_option maxRecDepth 100000 in
set_option maxHeartbeats 8000000 in
theorem rsyn_any (v : Value) (g : Nat) (d : List Nat) (w : World) (hA : Arg w v g d) (hl : d.length = 28) :
    Calls Try.prog 18 #[v] w fun e w' => ∃ v', e = .returned v' ∧ Fr w.heap.size w' v' (synF d) ∧ Below w.heap.size w w' := by
  have HA := hide hA
  obtain ⟨⟨ao, c, rfl, hc1, hc2, hnil, hr⟩, hbs⟩ := hA
  have HA' := hide (show Arg w (.slice ao 28 c) g d from by rw [← hl]; exact unhide HA)
  rw [hl]
  have HL := hide hl
  clear hr hnil HA hl
  go_enter Try.func18, Try.ntmps18
  go_wp2_with fail
  refine (powers_any w).mono ?_
  rintro e w1 ⟨rfl, hk⟩
  have hz := zeroP
  have hmk : ∀ w : World, (Instr.makeSlice 22 (.int .i64 8) (.int .i64 8)).run Try.prog w = .ok (.slice (some ⟨w.heap.size, 0, none⟩) 8 8) (w.alloc (.cells (List.replicate 8 (Value.int .u8 0)).toArray 5)) := run_zeros 8 (by omega)
  obtain ⟨z8, hz8⟩ : ∃ z8, (List.replicate 8 (Value.int .u8 0)).toArray = z8 := ⟨_, rfl⟩
  simp only [hz8] at hmk
  obtain ⟨zA, hzA⟩ : ∃ zA, Array.replicate 255 (Value.int .u8 0) = zA := ⟨_, rfl⟩
  have hzs : zA.size = 255 := by rw [← hzA]; simp
  rw [hzA] at hz
  have G1 := hide (World.alloc_heap_new w1 (.cells zA 50))
  have G2 := hide (setRow_heap _ _ _ pwA _ _ (unhide G1))
  have HB1 : Hid (Below w.heap.size w ((w1.alloc (.cells zA 50)).setRow w1.heap.size pwA)) := (hk.alloc hk.size _).trans ⟨rfl, rfl, rfl, by simp, fun k hk' => setRow_other _ _ k _ (by have := hk.size; omega)⟩
  have hsz := hk.size
  have hszW : ((w1.alloc (.cells zA 50)).setRow w1.heap.size pwA).heap.size = w1.heap.size + 1 := by simp
  obtain ⟨W2, hW2⟩ : ∃ W2, (w1.alloc (.cells zA 50)).setRow w1.heap.size pwA = W2 := ⟨_, rfl⟩
  have HW2 := hide hW2
  rw [hW2] at G2 HB1 hszW
  have HSZ := hide hszW
  clear hk hzA hW2 hszW
  go_wp2_with (refine wpList_store_row rfl 50 _ _ rfl w1.heap.size pwA rfl rfl 50 zA (unhide G1) (by rw [sizeA, pwA_size]) (by rw [hzs, pwA_size]) pwA_one ?_; rw [unhide HW2])
  have HO : Hid (Blk (W2.alloc (.cells z8 5)) W2.heap.size (List.replicate 8 0)) := by
    rw [← hz8]
    obtain ⟨gg, cc, e1, _, _, hB, _⟩ := Fr.blk (owns_fr (s := List.replicate 8 0) (made_owns 8 (by omega) W2)).2 (by simp)
    cases e1
    exact hB
  have HP : Hid ((W2.alloc (.cells z8 5)).heap[w1.heap.size]? = some (.cells pwA 50 (0, 0))) := (Below.heap_alloc _ _ _ (by have := unhide HSZ; omega)).trans (unhide G2)
  have HB2 : Hid (Below w.heap.size w (W2.alloc (.cells z8 5))) := (unhide HB1).alloc (by have := unhide HSZ; omega) _
  have hq : w1.heap.size < W2.heap.size := by have := unhide HSZ; omega
  obtain ⟨q, hqe⟩ : ∃ q, W2.heap.size = q := ⟨_, rfl⟩
  rw [hqe] at HO hq ⊢
  obtain ⟨W3, hW3⟩ : ∃ W3, W2.alloc (.cells z8 5) = W3 := ⟨_, rfl⟩
  rw [hW3] at HO HP HB2 ⊢
  clear hW3 hqe HSZ HW2 G1 G2 HB1 hmk hz hz8 hzs
  have hpw : (wb d).length = 224 := by rw [wb_len, unhide HL]
  have HPW := hide hpw
  clear hpw
  go_loopw [5] (fun p wr => ∃ (k : Nat) (s : List Nat), p = .int .i64 (k : Int) ∧ k ≤ 224 ∧ Sy (wb d) s k 0 ∧ Blk wr q s ∧ wr.heap[w1.heap.size]? = some (.cells pwA 50 (0, 0)) ∧ Below w.heap.size w wr) (fun p _ => 224 - (intOf p).toNat)
  case atStart => exact ⟨0, _, rfl, by omega, Sy.start _, unhide HO, unhide HP, unhide HB2⟩
  case round =>
    obtain ⟨k, s, rfl, hk, hS, hBs, hP, hB⟩ := hrel
    have HS := hide hS
    have HBs := hide hBs
    have HP1 := hide hP
    have HBl := hide hB
    clear hS hBs hP hB
    by_cases hlt : k < 224
    · have hlt' : (k : Int) < 224 := by omega
      have HA4 := hide ((unhide HA').below (unhide HBl))
      go_wp2_with fail
      refine (rbit_any _ _ d k wr (unhide HA4) (by have := unhide HL; omega) (by have := unhide HL; omega)).mono ?_
      rintro e w' ⟨rfl, hw'⟩
      subst hw'
      obtain ⟨x, hx⟩ : ∃ x, cf (wb d) k = x := ⟨_, rfl⟩
      have HX := hide hx
      rw [hx]
      clear hx
      by_cases h0 : x = 0
      · subst h0
        go_wp2_with fail
        go_roundw
        case rel => exact ⟨k + 1, s, by go_num, by omega, (unhide HS).skip (by rw [unhide HPW]; exact hlt) (unhide HX), unhide HBs, unhide HP1, unhide HBl⟩
        case measure => simp [intOf]; omega
      · have hx0 : ((x : Int) == 0) = false := by rw [beq_eq_false_iff_ne]; omega
        go_wp2_with fail
        clear hx0
        go_loopw [6] (fun p wr => ∃ (i : Nat) (u : List Nat), p = .int .i64 ((i : Int) + 1) ∧ i ≤ 8 ∧ Sy (wb d) u k i ∧ Blk wr q u ∧ wr.heap[w1.heap.size]? = some (.cells pwA 50 (0, 0)) ∧ Below w.heap.size w wr) (fun p _ => 9 - (intOf p).toNat)
        case atStart => exact ⟨0, s, rfl, by omega, unhide HS, unhide HBs, unhide HP1, unhide HBl⟩
        case round =>
          obtain ⟨i, u, rfl, hi, hSu, hBu, hPu, hBu2⟩ := hrel
          have hul := hSu.len
          have hub := hSu.bs
          have HSu := hide hSu
          have HBu := hide hBu
          have HPu := hide hPu
          have HBl2 := hide hBu2
          clear hSu hBu hPu hBu2
          by_cases hi2 : i < 8
          · have hi1 : (i : Int) + 1 ≤ 8 := by omega
            obtain ⟨m, hm⟩ : ∃ m, k * (i + 1) % 255 = m := ⟨_, rfl⟩
            have hm255 : m < 255 := by omega
            have HCP := hide (pwA_cell (unhide HPu) hm255)
            have hnx := (unhide HSu).step hi2
            rw [hm] at hnx
            have HNX := hide hnx
            have hmm : k * (i + 1) ≤ 224 * 8 := Nat.mul_le_mul (by omega) (by omega)
            have q1 : (k : Int) * ((i : Int) + 1) = ((k * (i + 1) : Nat) : Int) := by rw [Int.natCast_mul]; rfl
            have q2 : ((k * (i + 1) : Nat) : Int).tmod 255 = (m : Int) := by rw [Int.tmod_eq_emod_of_nonneg (by omega)]; omega
            have q3 : ((k * (i + 1) : Nat) : Int) % 255 = (m : Int) := by omega
            have q4 : IntKind.i64.wrap (i : Int) = (i : Int) := IntWalk.i64_in _ ⟨by omega, by omega⟩
            have q5 : (i : Int) + 1 - 1 = (i : Int) := by omega
            have q6 : IntKind.i64.wrap ((k * (i + 1) : Nat) : Int) = ((k * (i + 1) : Nat) : Int) := IntWalk.i64_in _ ⟨by omega, by omega⟩
            have hi8 : (i : Int) < 8 := by omega
            have hm1 : (m : Int) < 255 := by omega
            obtain ⟨y, hy⟩ : ∃ y, E m = y := ⟨_, rfl⟩
            have hy256 : y < 256 := by rw [← hy]; exact E_lt m
            rw [hy] at HCP hnx HNX
            have hxor := bits_xor_u8 (hub i) hy256
            clear hm hy hnx
            obtain ⟨N, hN⟩ : ∃ N, k * (i + 1) = N := ⟨_, rfl⟩
            rw [hN] at q1 q2 q3 q6 hmm
            clear hN
            go_wp2_with fail
            refine wp_region_noPanic ?_
            refine wp_region_held_drew (S := fun W => Kp [q] wr W) (by kernel_rfl) ((Kp.refl _ _).drew) (fun hHeld => ?_)
            have HH := hide hHeld
            clear hHeld
            refine takeL (i := 0) (v := ?_) rfl (by kernel_rfl) (by kernel_rfl) (by kernel_rfl) (fun _ _ _ h => h) (Or.inl ⟨by rfl, ?_⟩) (unhide HH) ?_
            rotate_left 1
            · intro W hSW; go_simp; all_goals (with_reducible rfl)
            (try simp only [Act.put, List.setIfInBounds_toArray, List.set_cons_zero, List.set_cons_succ])
            refine takeL (i := 1) (v := ?_) rfl (by kernel_rfl) (by kernel_rfl) (by kernel_rfl) (fun _ _ _ h => h) (Or.inl ⟨by rfl, ?_⟩) (unhide HH) ?_
            rotate_left 1
            · intro W hSW; go_simp; all_goals (with_reducible rfl)
            (try simp only [Act.put, List.setIfInBounds_toArray, List.set_cons_zero, List.set_cons_succ])
            refine takeL (i := 2) (v := ?_) rfl (by kernel_rfl) (by kernel_rfl) (by kernel_rfl) (fun _ _ _ h => h) (Or.inl ⟨by rfl, ?_⟩) (unhide HH) ?_
            rotate_left 1
            · intro W hSW; go_simp; all_goals (with_reducible rfl)
            (try simp only [Act.put, List.setIfInBounds_toArray, List.set_cons_zero, List.set_cons_succ])
            refine takeL (i := 3) (v := ?_) rfl (by kernel_rfl) (by kernel_rfl) (by kernel_rfl) (fun _ _ _ h => h) (Or.inl ⟨by rfl, ?_⟩) (unhide HH) ?_
            rotate_left 1
            · intro W hSW; go_simp; all_goals (with_reducible rfl)
            (try simp only [Act.put, List.setIfInBounds_toArray, List.set_cons_zero, List.set_cons_succ])
            refine takeL (i := 4) (v := ?_) rfl (by kernel_rfl) (by kernel_rfl) (by kernel_rfl) (fun _ _ _ h => h) (Or.inl ⟨by rfl, ?_⟩) (unhide HH) ?_
            rotate_left 1
            · intro W hSW; go_simp; all_goals (with_reducible rfl)
            (try simp only [Act.put, List.setIfInBounds_toArray, List.set_cons_zero, List.set_cons_succ])
            refine takeL (i := 5) (v := ?_) rfl (by kernel_rfl) (by kernel_rfl) (by kernel_rfl) (fun _ _ _ h => h) (Or.inl ⟨by rfl, ?_⟩) (unhide HH) ?_
            rotate_left 1
            · intro W hSW; go_simp; all_goals (with_reducible rfl)
            (try simp only [Act.put, List.setIfInBounds_toArray, List.set_cons_zero, List.set_cons_succ])
            refine takeL (i := 6) (v := ?_) rfl (by kernel_rfl) (by kernel_rfl) (by kernel_rfl) (fun _ _ _ h => h) (Or.inl ⟨by rfl, ?_⟩) (unhide HH) ?_
            rotate_left 1
            · intro W hSW; go_simp; all_goals (with_reducible rfl)
            (try simp only [Act.put, List.setIfInBounds_toArray, List.set_cons_zero, List.set_cons_succ])
            refine takeL (i := 8) (v := ?_) rfl (by kernel_rfl) (by kernel_rfl) (by kernel_rfl) (fun _ _ _ h => h) (Or.inl ⟨by rfl, ?_⟩) (unhide HH) ?_
            rotate_left 1
            · intro W hSW; go_simp; all_goals (with_reducible rfl)
            (try simp only [Act.put, List.setIfInBounds_toArray, List.set_cons_zero, List.set_cons_succ])
            refine takeL (i := 9) (v := ?_) rfl (by kernel_rfl) (by kernel_rfl) (by kernel_rfl) (fun _ _ _ h => h) (Or.inl ⟨by rfl, ?_⟩) (unhide HH) ?_
            rotate_left 1
            · intro W hSW; go_simp; all_goals (with_reducible rfl)
            (try simp only [Act.put, List.setIfInBounds_toArray, List.set_cons_zero, List.set_cons_succ])
            refine takeL (i := 10) (v := ?_) rfl (by kernel_rfl) (by kernel_rfl) (by kernel_rfl) (fun _ _ _ h => h) (Or.inl ⟨by rfl, ?_⟩) (unhide HH) ?_
            rotate_left 1
            · intro W hSW; go_simp; all_goals (with_reducible rfl)
            (try simp only [Act.put, List.setIfInBounds_toArray, List.set_cons_zero, List.set_cons_succ])
            refine takeL (i := 11) (v := ?_) rfl (by kernel_rfl) (by kernel_rfl) (by kernel_rfl) (fun _ _ _ h => h) (Or.inl ⟨by rfl, ?_⟩) (unhide HH) ?_
            rotate_left 1
            · intro W hSW; go_simp; all_goals (with_reducible rfl)
            (try simp only [Act.put, List.setIfInBounds_toArray, List.set_cons_zero, List.set_cons_succ])
            refine takeL (i := 12) (v := ?_) rfl (by kernel_rfl) (by kernel_rfl) (by kernel_rfl) (fun _ _ _ h => h) (Or.inl ⟨by rfl, ?_⟩) (unhide HH) ?_
            rotate_left 1
            · intro W hSW; go_simp; all_goals (with_reducible rfl)
            (try simp only [Act.put, List.setIfInBounds_toArray, List.set_cons_zero, List.set_cons_succ])
            refine takeL (i := 13) (v := ?_) rfl (by kernel_rfl) (by kernel_rfl) (by kernel_rfl) (fun _ _ _ h => h) (Or.inl ⟨by rfl, ?_⟩) (unhide HH) ?_
            rotate_left 1
            · intro W1 hSW; have hc := hSW.cell (unhide HCP) (by simp; omega); clear hSW; go_simp; all_goals (with_reducible rfl)
            (try simp only [Act.put, List.setIfInBounds_toArray, List.set_cons_zero, List.set_cons_succ])
            refine wpAnyH_ready (rs := [7]) (by kernel_rfl) (by simp) ?_
            refine consL rfl (fun K hK => ?_) AllReadyH.nil
            have hc4 := ((unhide HBu).of (w' := wr.drew) rfl).cell (j := i) (by omega)
            go_simp
            refine hK.out _ _ (unhide HH) (fun hHeld => ?_)
            clear hK K HH
            have HH := hide hHeld
            clear hHeld
            (try simp only [Act.put, List.setIfInBounds_toArray, List.set_cons_zero, List.set_cons_succ])
            clear hc4
            refine takeL (i := 14) (v := ?_) rfl (by kernel_rfl) (by kernel_rfl) (by kernel_rfl) (fun _ _ _ h => h) (Or.inl ⟨by rfl, ?_⟩) (unhide HH) ?_
            rotate_left 1
            · intro W hSW; go_simp; all_goals (with_reducible rfl)
            (try simp only [Act.put, List.setIfInBounds_toArray, List.set_cons_zero, List.set_cons_succ])
            refine takeL (i := 15) (v := ?_) rfl (by kernel_rfl) (by kernel_rfl) (by kernel_rfl) (fun _ _ _ h => h) (Or.inl ⟨by rfl, ?_⟩) (unhide HH) ?_
            rotate_left 1
            · intro W hSW; go_simp; all_goals (with_reducible rfl)
            (try simp only [Act.put, List.setIfInBounds_toArray, List.set_cons_zero, List.set_cons_succ])
            refine wpAnyH_ready (rs := [16]) (by kernel_rfl) (by simp) ?_
            refine consL rfl (fun K hK => ?_) AllReadyH.nil
            have hc4 := ((unhide HBu).of (w' := wr.drew) rfl).cell (j := i) (by omega)
            have hf4 := ((unhide HBu).of (w' := wr.drew) rfl).free (j := i)
            have HH2 := HH
            go_simp
            refine hK.out _ _ ((unhide HH2).setCell ⟨q, i, none⟩ _ (.inl (by simp))) (fun hHeld => ?_)
            clear hHeld hK K hc4 hf4
            (try simp only [Act.put, List.setIfInBounds_toArray, List.set_cons_zero, List.set_cons_succ])
            refine wpAnyH_done (by kernel_rfl) ?_ _
            refine NoPanic.normal ?_
            go_wp2_with fail
            go_roundw
            case rel =>
              exact ⟨i + 1, u.set i (cf u i ^^^ y), by go_num, by omega, unhide HNX, ((unhide HBu).set i _ (by omega)).of rfl, (Below.heap_setCell _ _ _ _ (by simp; omega)).trans (unhide HPu), ((unhide HBl2).setCell (p := ⟨q, i, none⟩) (show w.heap.size ≤ q by omega) _).drew⟩
            case measure => simp [intOf]; omega
          · have hi3 : i = 8 := by omega
            subst hi3
            go_wp2_with fail
            go_roundw
            case rel => exact ⟨k + 1, u, by go_num, by omega, (unhide HSu).full (by rw [unhide HPW]; exact hlt) (by rw [unhide HX]; exact h0), unhide HBu, unhide HPu, unhide HBl2⟩
            case measure => simp [intOf]; omega
    · have hk4 : k = 224 := by omega
      subst hk4
      have hs := (unhide HS).all (unhide HL)
      have hl8 := (unhide HS).len
      go_wp2
      go_ret
      refine ⟨_, rfl, .inr ⟨q, 8, ?_, ?_, ?_, ?_, ?_⟩, unhide HBl⟩
      · rw [← hs, hl8]; rfl
      · rw [← hs, hl8]; exact Nat.le_refl _
      · unfold maxLen; omega
      · rw [← hs]; exact unhide HBs
      · omega

end Go.Proofs.Ytahjcahmlangiaa
