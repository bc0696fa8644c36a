/-
  The second telling's zero, turned (ramekinref4).
-/
import Derived.Test.YtahjcahmlangiaaR4s
namespace Go.Proofs.Ytahjcahmlangiaa
open Go.RowKit

/-- Are all eight noughts? -/
def zb (s : List Nat) : Bool := (List.range 8).all (fun j => cf s j == 0)
theorem zb_iff (s : List Nat) : zb s = true ↔ ∀ j, j < 8 → cf s j = 0 := by simp [zb]

set_option maxRecDepth 100000 in
set_option maxHeartbeats 2000000 in
theorem zero_any (v : Value) (g : Nat) (s : List Nat) (w : World) (hA : Arg w v g s) (hl : s.length = 8) :
    Calls Try.prog 61 #[v] w fun e w' => e = .returned (.bool (zb s)) ∧ w' = w := by
  obtain ⟨⟨ao, c, rfl, hc1, hc2, hnil, hr⟩, hbs⟩ := hA
  obtain ⟨o, rfl⟩ := row_some hr (by omega)
  have HR := hide hr
  have HL := hide hl
  rw [hl]
  clear hr hnil hl
  go_enter Try.func61, Try.ntmps61
  go_wp2_with fail
  go_loop [3] (fun p => ∃ i : Nat, p = .int .i64 i ∧ i ≤ 8 ∧ ∀ j, j < i → cf s j = 0) (fun p => 8 - (intOf p).toNat)
  case atStart => exact ⟨0, rfl, by omega, fun j hj => by omega⟩
  case round =>
    obtain ⟨i, rfl, hi, hz⟩ := hrel
    have HZ := hide hz
    clear hz
    by_cases hlt : i < 8
    · have hlt' : (i : Int) < 8 := by omega
      have hc := row_cell (unhide HR) (j := i) (by have := unhide HL; omega)
      obtain ⟨x, hx⟩ : ∃ x, cf s i = x := ⟨_, rfl⟩
      rw [hx] at hc
      have HX := hide hx
      clear hx
      by_cases h0 : x = 0
      · subst h0
        go_wp2_with fail
        go_round
        case rel => exact ⟨i + 1, by go_num, by omega, fun j hj => by
          by_cases e : j = i
          · rw [e]; exact unhide HX
          · exact unhide HZ j (by omega)⟩
        case measure => simp [intOf]; omega
      · have hx0 : ((x : Int) != 0) = true := by rw [bne_iff_ne]; omega
        go_wp2
        go_ret
        have hb : zb s = false := by
          rw [Bool.eq_false_iff]
          intro h
          exact h0 (by rw [← unhide HX]; exact (zb_iff s).1 h i hlt)
        rw [hb]
        exact ⟨rfl, rfl⟩
    · have hi8 : i = 8 := by omega
      subst hi8
      go_wp2
      go_ret
      rw [(zb_iff s).2 (unhide HZ)]
      exact ⟨rfl, rfl⟩

/-- Syndromes with a place turned. -/
def tL (s : List Nat) (k : Nat) : List Nat := (List.range 8).map (fun j => cf s j ^^^ E (k * (j + 1)))
theorem tL_len (s : List Nat) (k : Nat) : (tL s k).length = 8 := by simp [tL]
theorem tL_cf (s : List Nat) (k : Nat) {j : Nat} (h : j < 8) : cf (tL s k) j = cf s j ^^^ E (k * (j + 1)) := by
  have : j = 0 ∨ j = 1 ∨ j = 2 ∨ j = 3 ∨ j = 4 ∨ j = 5 ∨ j = 6 ∨ j = 7 := by omega
  rcases this with rfl | rfl | rfl | rfl | rfl | rfl | rfl | rfl <;> rfl
theorem tL_bs {s : List Nat} (hs : Bs s) (k : Nat) : Bs (tL s k) := fun j => by
  by_cases h : j < 8
  · rw [tL_cf s k h]
    exact xor_lt (hs j) (E_lt _)
  · rw [cf_ge (by rw [tL_len]; omega)]
    omega

/-- The eight while the place is turned. -/
structure Tu (s u : List Nat) (k i : Nat) : Prop where
  len : u.length = 8
  bs : Bs u
  at_ : ∀ j, j < 8 → cf u j = cf s j ^^^ (if j < i then E (k * (j + 1)) else 0)
theorem Tu.step {s u : List Nat} {k i : Nat} (h : Tu s u k i) (hi : i < 8) : Tu s (u.set i (cf u i ^^^ E (k * (i + 1) % 255))) k (i + 1) := by
  have hl := h.len
  refine ⟨by simpa using h.len, fun n => ?_, fun j hj => ?_⟩
  · rw [cf_set _ _ _ _ (by omega)]
    split
    · exact xor_lt (h.bs i) (E_lt _)
    · exact h.bs n
  · rw [cf_set _ _ _ _ (by omega), E_mod]
    by_cases e : j = i
    · subst e
      rw [if_pos rfl, h.at_ j hj, if_neg (by omega), if_pos (by omega), Nat.xor_zero]
    · rw [if_neg e, h.at_ j hj]
      by_cases e2 : j < i
      · rw [if_pos e2, if_pos (by omega)]
      · rw [if_neg e2, if_neg (by omega)]
theorem Tu.all {s u : List Nat} {k : Nat} (h : Tu s u k 8) : u = tL s k := by
  apply eq_of_cf
  · rw [h.len, tL_len]
  · intro j
    by_cases hj : j < 8
    · rw [h.at_ j hj, if_pos hj, tL_cf s k hj]
    · rw [cf_ge (by rw [h.len]; omega), cf_ge (by rw [tL_len]; omega)]

set_option maxRecDepth 100000 in
set_option maxHeartbeats 8000000 in
theorem turned_any (v : Value) (g : Nat) (s : List Nat) (k : Nat) (w : World) (hA : Arg w v g s) (hl : s.length = 8) (hk : k < 255) :
    Calls Try.prog 63 #[v, .int .i64 (k : Int), .agg pwA] w fun e w' => ∃ v', e = .returned v' ∧ Fr w.heap.size w' v' (tL s k) ∧ Below w.heap.size w w' := by
  obtain ⟨⟨ao, c, rfl, hc1, hc2, hnil, hr⟩, hbs⟩ := hA
  obtain ⟨o, rfl⟩ := row_some hr (by omega)
  obtain ⟨i0, hi0, hz0, hz1, hz2⟩ := info_parts infoE
  have HI := hide hi0
  have HS := hide hl
  have HK1 : Hid (Kp [] w (w.alloc (.cells pwA 50))) := (Kp.refl [] w).alloc _
  have HP1 := hide (World.alloc_heap_new w (.cells pwA 50))
  have hsz1 : w.heap.size < (w.alloc (.cells pwA 50)).heap.size := by simp
  have HR := hide (hr.keep (unhide HK1) (by simp))
  rw [hl]
  clear hr hnil hi0 hl
  go_enter Try.func63, Try.ntmps63
  obtain ⟨w0, hw0⟩ : ∃ w0, w.alloc (.cells pwA 50) = w0 := ⟨_, rfl⟩
  have hw1 : w0.heap.size = w.heap.size + 1 := by rw [← hw0]; simp
  have HO := hide (empty_owns' w0)
  rw [hw0] at HK1 HP1 HR hsz1
  have HW0 := hide hw0
  have HW1 := hide hw1
  have HRK : Hid (Row (w0.alloc (.cells #[] 5)) (some ⟨g, o, none⟩) g (ints s)) := (unhide HR).keep ((Kp.refl [] w0).alloc _) (by simp)
  rw [hw1] at HO
  rw [← hw0] at HO HRK
  clear hw0 hw1
  go_wp2_with (at_builtin; refine wpList_append_row _ rfl _ _ 22 rfl (w.heap.size + 1) 5 i0 Try.underlying22 (unhide HI) hz0 hz1 hz2 (.slice (some ⟨w.heap.size + 1, 0, none⟩) 0 0) 0 _ rfl (unhide HO) (some ⟨g, o, none⟩) g 8 c (ints s) rfl (by rw [ints_len]; exact unhide HS) (unhide HRK) (fun h => by cases h) (by omega) (by simp) ?_)
  intro v' w1 ho hg _
  rw [unhide HW0] at hg
  have hF := (owns_fr (s := s) ho).2
  obtain ⟨q, cq, rfl, hq1, hq2, hB, hq3⟩ := hF.blk (by intro h; have := unhide HS; rw [h] at this; simp at this)
  rw [unhide HS] at hq1 ⊢
  have HB1 := hide hB
  have HK01 : Hid (Kp [] w0 w1) := ((Kp.refl [] w0).alloc _).grown hg (fun k e => by cases e; exact .inr (by have := unhide HW1; show w0.heap.size ≤ w.heap.size + 1; omega))
  have HK2 := hide ((unhide HK1).trans (unhide HK01) (by simp))
  have HP2 := hide (((unhide HK01).block w.heap.size hsz1 (by simp)).trans (unhide HP1))
  have hqg : w.heap.size < q := by omega
  clear ho hg hF hB HK1 HO HRK HR HP1 HK01 HW0
  go_wp2_with fail
  go_loopw [8] (fun p wr => ∃ (i : Nat) (u : List Nat), p = .int .i64 ((i : Int) + 1) ∧ i ≤ 8 ∧ Tu s u k i ∧ Blk wr q u ∧ wr.heap[w.heap.size]? = some (.cells pwA 50 (0, 0)) ∧ Kp [] w wr) (fun p _ => 9 - (intOf p).toNat)
  case atStart => exact ⟨0, s, rfl, by omega, ⟨unhide HS, hbs, fun j hj => by rw [if_neg (by omega), Nat.xor_zero]⟩, unhide HB1, unhide HP2, unhide HK2⟩
  case round =>
    obtain ⟨i, u, rfl, hi, hSu, hBu, hPu, hBu2⟩ := hrel
    have hul := hSu.len
    have hub := hSu.bs
    have HSu := hide hSu
    have HBu := hide hBu
    have HPu := hide hPu
    have HBl2 := hide hBu2
    clear hSu hBu hPu hBu2
    by_cases hi2 : i < 8
    · have hi1 : (i : Int) + 1 ≤ 8 := by omega
      obtain ⟨m, hm⟩ : ∃ m, k * (i + 1) % 255 = m := ⟨_, rfl⟩
      have hm255 : m < 255 := by omega
      have HCP := hide (pwA_cell (unhide HPu) hm255)
      have hnx := (unhide HSu).step hi2
      rw [hm] at hnx
      have HNX := hide hnx
      have hmm : k * (i + 1) ≤ 255 * 8 := Nat.mul_le_mul (by omega) (by omega)
      have q1 : (k : Int) * ((i : Int) + 1) = ((k * (i + 1) : Nat) : Int) := by rw [Int.natCast_mul]; rfl
      have q2 : ((k * (i + 1) : Nat) : Int).tmod 255 = (m : Int) := by rw [Int.tmod_eq_emod_of_nonneg (by omega)]; omega
      have q3 : ((k * (i + 1) : Nat) : Int) % 255 = (m : Int) := by omega
      have q4 : IntKind.i64.wrap (i : Int) = (i : Int) := IntWalk.i64_in _ ⟨by omega, by omega⟩
      have q5 : (i : Int) + 1 - 1 = (i : Int) := by omega
      have q6 : IntKind.i64.wrap ((k * (i + 1) : Nat) : Int) = ((k * (i + 1) : Nat) : Int) := IntWalk.i64_in _ ⟨by omega, by omega⟩
      have hi8 : (i : Int) < 8 := by omega
      have hm1 : (m : Int) < 255 := by omega
      obtain ⟨y, hy⟩ : ∃ y, E m = y := ⟨_, rfl⟩
      have hy256 : y < 256 := by rw [← hy]; exact E_lt m
      rw [hy] at HCP hnx HNX
      have hxor := bits_xor_u8 (hub i) hy256
      clear hm hy hnx
      obtain ⟨N, hN⟩ : ∃ N, k * (i + 1) = N := ⟨_, rfl⟩
      rw [hN] at q1 q2 q3 q6 hmm
      clear hN
      go_wp2_with fail
      refine wp_region_noPanic ?_
      refine wp_region_held_drew (S := fun W => Kp [q] wr W) (by kernel_rfl) ((Kp.refl _ _).drew) (fun hHeld => ?_)
      have HH := hide hHeld
      clear hHeld
      refine takeL (i := 0) (v := ?_) rfl (by kernel_rfl) (by kernel_rfl) (by kernel_rfl) (fun _ _ _ h => h) (Or.inl ⟨by rfl, ?_⟩) (unhide HH) ?_
      rotate_left 1
      · intro W hSW; go_simp; all_goals (with_reducible rfl)
      (try simp only [Act.put, List.setIfInBounds_toArray, List.set_cons_zero, List.set_cons_succ])
      refine takeL (i := 1) (v := ?_) rfl (by kernel_rfl) (by kernel_rfl) (by kernel_rfl) (fun _ _ _ h => h) (Or.inl ⟨by rfl, ?_⟩) (unhide HH) ?_
      rotate_left 1
      · intro W hSW; go_simp; all_goals (with_reducible rfl)
      (try simp only [Act.put, List.setIfInBounds_toArray, List.set_cons_zero, List.set_cons_succ])
      refine takeL (i := 2) (v := ?_) rfl (by kernel_rfl) (by kernel_rfl) (by kernel_rfl) (fun _ _ _ h => h) (Or.inl ⟨by rfl, ?_⟩) (unhide HH) ?_
      rotate_left 1
      · intro W hSW; go_simp; all_goals (with_reducible rfl)
      (try simp only [Act.put, List.setIfInBounds_toArray, List.set_cons_zero, List.set_cons_succ])
      refine takeL (i := 3) (v := ?_) rfl (by kernel_rfl) (by kernel_rfl) (by kernel_rfl) (fun _ _ _ h => h) (Or.inl ⟨by rfl, ?_⟩) (unhide HH) ?_
      rotate_left 1
      · intro W hSW; go_simp; all_goals (with_reducible rfl)
      (try simp only [Act.put, List.setIfInBounds_toArray, List.set_cons_zero, List.set_cons_succ])
      refine takeL (i := 4) (v := ?_) rfl (by kernel_rfl) (by kernel_rfl) (by kernel_rfl) (fun _ _ _ h => h) (Or.inl ⟨by rfl, ?_⟩) (unhide HH) ?_
      rotate_left 1
      · intro W hSW; go_simp; all_goals (with_reducible rfl)
      (try simp only [Act.put, List.setIfInBounds_toArray, List.set_cons_zero, List.set_cons_succ])
      refine takeL (i := 5) (v := ?_) rfl (by kernel_rfl) (by kernel_rfl) (by kernel_rfl) (fun _ _ _ h => h) (Or.inl ⟨by rfl, ?_⟩) (unhide HH) ?_
      rotate_left 1
      · intro W hSW; go_simp; all_goals (with_reducible rfl)
      (try simp only [Act.put, List.setIfInBounds_toArray, List.set_cons_zero, List.set_cons_succ])
      refine takeL (i := 6) (v := ?_) rfl (by kernel_rfl) (by kernel_rfl) (by kernel_rfl) (fun _ _ _ h => h) (Or.inl ⟨by rfl, ?_⟩) (unhide HH) ?_
      rotate_left 1
      · intro W hSW; go_simp; all_goals (with_reducible rfl)
      (try simp only [Act.put, List.setIfInBounds_toArray, List.set_cons_zero, List.set_cons_succ])
      refine takeL (i := 8) (v := ?_) rfl (by kernel_rfl) (by kernel_rfl) (by kernel_rfl) (fun _ _ _ h => h) (Or.inl ⟨by rfl, ?_⟩) (unhide HH) ?_
      rotate_left 1
      · intro W hSW; go_simp; all_goals (with_reducible rfl)
      (try simp only [Act.put, List.setIfInBounds_toArray, List.set_cons_zero, List.set_cons_succ])
      refine takeL (i := 9) (v := ?_) rfl (by kernel_rfl) (by kernel_rfl) (by kernel_rfl) (fun _ _ _ h => h) (Or.inl ⟨by rfl, ?_⟩) (unhide HH) ?_
      rotate_left 1
      · intro W hSW; go_simp; all_goals (with_reducible rfl)
      (try simp only [Act.put, List.setIfInBounds_toArray, List.set_cons_zero, List.set_cons_succ])
      refine takeL (i := 10) (v := ?_) rfl (by kernel_rfl) (by kernel_rfl) (by kernel_rfl) (fun _ _ _ h => h) (Or.inl ⟨by rfl, ?_⟩) (unhide HH) ?_
      rotate_left 1
      · intro W hSW; go_simp; all_goals (with_reducible rfl)
      (try simp only [Act.put, List.setIfInBounds_toArray, List.set_cons_zero, List.set_cons_succ])
      refine takeL (i := 11) (v := ?_) rfl (by kernel_rfl) (by kernel_rfl) (by kernel_rfl) (fun _ _ _ h => h) (Or.inl ⟨by rfl, ?_⟩) (unhide HH) ?_
      rotate_left 1
      · intro W hSW; go_simp; all_goals (with_reducible rfl)
      (try simp only [Act.put, List.setIfInBounds_toArray, List.set_cons_zero, List.set_cons_succ])
      refine takeL (i := 12) (v := ?_) rfl (by kernel_rfl) (by kernel_rfl) (by kernel_rfl) (fun _ _ _ h => h) (Or.inl ⟨by rfl, ?_⟩) (unhide HH) ?_
      rotate_left 1
      · intro W hSW; go_simp; all_goals (with_reducible rfl)
      (try simp only [Act.put, List.setIfInBounds_toArray, List.set_cons_zero, List.set_cons_succ])
      refine takeL (i := 13) (v := ?_) rfl (by kernel_rfl) (by kernel_rfl) (by kernel_rfl) (fun _ _ _ h => h) (Or.inl ⟨by rfl, ?_⟩) (unhide HH) ?_
      rotate_left 1
      · intro W1 hSW; have hc := hSW.cell (unhide HCP) (by simp; omega); clear hSW; go_simp; all_goals (with_reducible rfl)
      (try simp only [Act.put, List.setIfInBounds_toArray, List.set_cons_zero, List.set_cons_succ])
      refine wpAnyH_ready (rs := [7]) (by kernel_rfl) (by simp) ?_
      refine consL rfl (fun K hK => ?_) AllReadyH.nil
      have hc4 := ((unhide HBu).of (w' := wr.drew) rfl).cell (j := i) (by omega)
      go_simp
      refine hK.out _ _ (unhide HH) (fun hHeld => ?_)
      clear hK K HH
      have HH := hide hHeld
      clear hHeld
      (try simp only [Act.put, List.setIfInBounds_toArray, List.set_cons_zero, List.set_cons_succ])
      clear hc4
      refine takeL (i := 14) (v := ?_) rfl (by kernel_rfl) (by kernel_rfl) (by kernel_rfl) (fun _ _ _ h => h) (Or.inl ⟨by rfl, ?_⟩) (unhide HH) ?_
      rotate_left 1
      · intro W hSW; go_simp; all_goals (with_reducible rfl)
      (try simp only [Act.put, List.setIfInBounds_toArray, List.set_cons_zero, List.set_cons_succ])
      refine takeL (i := 15) (v := ?_) rfl (by kernel_rfl) (by kernel_rfl) (by kernel_rfl) (fun _ _ _ h => h) (Or.inl ⟨by rfl, ?_⟩) (unhide HH) ?_
      rotate_left 1
      · intro W hSW; go_simp; all_goals (with_reducible rfl)
      (try simp only [Act.put, List.setIfInBounds_toArray, List.set_cons_zero, List.set_cons_succ])
      refine wpAnyH_ready (rs := [16]) (by kernel_rfl) (by simp) ?_
      refine consL rfl (fun K hK => ?_) AllReadyH.nil
      have hc4 := ((unhide HBu).of (w' := wr.drew) rfl).cell (j := i) (by omega)
      have hf4 := ((unhide HBu).of (w' := wr.drew) rfl).free (j := i)
      have HH2 := HH
      go_simp
      refine hK.out _ _ ((unhide HH2).setCell ⟨q, i, none⟩ _ (.inl (by simp))) (fun hHeld => ?_)
      clear hHeld hK K hc4 hf4
      (try simp only [Act.put, List.setIfInBounds_toArray, List.set_cons_zero, List.set_cons_succ])
      refine wpAnyH_done (by kernel_rfl) ?_ _
      refine NoPanic.normal ?_
      go_wp2_with fail
      go_roundw
      case rel =>
        exact ⟨i + 1, u.set i (cf u i ^^^ y), by go_num, by omega, unhide HNX, ((unhide HBu).set i _ (by omega)).of rfl, (Below.heap_setCell _ _ _ _ (by simp; omega)).trans (unhide HPu), ((unhide HBl2).setCell ⟨q, i, none⟩ _ (.inr (show w.heap.size ≤ q by omega))).drew⟩
      case measure => simp [intOf]; omega
    · have hi3 : i = 8 := by omega
      subst hi3
      have hs := (unhide HSu).all
      go_wp2
      go_ret
      refine ⟨_, rfl, .inr ⟨q, cq, ?_, ?_, hq2, ?_, ?_⟩, (unhide HBl2).below⟩
      · rw [tL_len]; rfl
      · rw [tL_len]; exact hq1
      · rw [← hs]; exact unhide HBu
      · omega

end Go.Proofs.Ytahjcahmlangiaa
