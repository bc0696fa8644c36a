/-
  The second telling's product (ramekinref3.Mul).
-/
import Derived.Test.YtahjcahmlangiaaRt
namespace Go.Proofs.Ytahjcahmlangiaa
open Go.RowKit

theorem pmul_snoc (p q : List Nat) (x j : Nat) : cf (pmul (p ++ [x]) q) j = cf (pmul p q) j ^^^ (if p.length ≤ j then gmul x (cf q (j - p.length)) else 0) := by
  induction p generalizing j with
  | nil =>
    rw [List.nil_append, cf_pmul_cons]
    cases j <;> simp [pmul]
  | cons y p ih =>
    rw [List.cons_append, cf_pmul_cons, cf_pmul_cons, Nat.xor_assoc]
    congr 1
    cases j with
    | zero => simp
    | succ j =>
      rw [cf_succ, cf_succ, ih, List.length_cons]
      simp

theorem take_cf {a : List Nat} {i : Nat} (h : i < a.length) : a.take (i + 1) = a.take i ++ [cf a i] := by
  rw [List.take_succ_eq_append_getElem h]
  have := cf_get h
  rw [List.getElem?_eq_getElem h] at this
  simp at this
  rw [this]

/-- The product of the first i numbers, and k steps of the next one. -/
def mulJ (a b : List Nat) (i k j : Nat) : Nat := cf (pmul (a.take i) b) j ^^^ (if i ≤ j ∧ j < i + k then gmul (cf a i) (cf b (j - i)) else 0)

theorem mul_step {a b s : List Nat} {i k z : Nat} (h : ∀ j, cf s j = mulJ a b i k j) (h1 : z ≤ i + k) (h2 : i + k ≤ z) (hz : z < s.length) (j : Nat) : cf (s.set z (cf s z ^^^ gmul (cf a i) (cf b k))) j = mulJ a b i (k + 1) j := by
  have hz2 : z = i + k := by omega
  rw [cf_set _ _ _ _ hz]
  by_cases e : j = z
  · rw [if_pos e, e, h, mulJ, mulJ, hz2, if_neg (by omega), if_pos (by omega), Nat.xor_zero, Nat.add_sub_cancel_left]
  · rw [if_neg e, h, mulJ, mulJ]
    by_cases e2 : i ≤ j ∧ j < i + k
    · rw [if_pos e2, if_pos (by omega)]
    · rw [if_neg e2, if_neg (by omega)]

theorem mul_row {a b : List Nat} {i : Nat} (hi : i < a.length) (j : Nat) : mulJ a b i b.length j = cf (pmul (a.take (i + 1)) b) j := by
  rw [mulJ, take_cf hi, pmul_snoc, List.length_take, Nat.min_eq_left (by omega)]
  congr 1
  by_cases e : i ≤ j
  · rw [if_pos e]
    by_cases e2 : j < i + b.length
    · rw [if_pos ⟨e, e2⟩]
    · rw [if_neg (by omega), cf_ge (p := b) (by omega), gmul_zero]
  · rw [if_neg e, if_neg (by omega)]

set_option maxRecDepth 100000 in
set_option maxHeartbeats 8000000 in
theorem rpmul_any (va vb : Value) (ga gb : Nat) (a b : List Nat) (w : World) (hA : Arg w va ga a) (hB : Arg w vb gb b) (ha : a.length ≤ 10000) (hb : b.length ≤ 10000) :
    Calls Try.prog 30 #[va, vb] w fun e w' => ∃ v', e = .returned v' ∧ Fr w.heap.size w' v' (trim (pmul a b)) ∧ Below w.heap.size w w' := by
  obtain ⟨⟨ao, c, rfl, hc1, hc2, hnil, hr⟩, hbs⟩ := hA
  obtain ⟨⟨bo, d, rfl, hd1, hd2, hnil2, hr2⟩, hbs2⟩ := hB
  have HR := hide hr
  have HR2 := hide hr2
  clear hr hr2 hnil hnil2
  obtain ⟨m, hm⟩ : ∃ m, a.length + b.length = m := ⟨_, rfl⟩
  have hm1 : m ≤ a.length + b.length := by omega
  have hm2 : a.length + b.length ≤ m := by omega
  have hmx : IntKind.i64.wrap ((a.length : Int) + (b.length : Int)) = (m : Int) := by rw [IntWalk.i64_in _ ⟨by omega, by omega⟩]; omega
  have hmx2 : (a.length : Int) + (b.length : Int) = (m : Int) := by omega
  have hmk := run_zeros m (by omega)
  have HZ0 : Hid (∀ W : World, Blk (W.alloc (.cells (List.replicate m (Value.int .u8 0)).toArray 5)) W.heap.size (List.replicate m 0)) := fun W => blk_zeros m W
  clear hm
  go_enter Try.func30, Try.ntmps30
  go_wp2_with fail
  have HZ := hide (unhide HZ0 w)
  have HK1 : Hid (Kp [] w (w.alloc (.cells (List.replicate m (Value.int .u8 0)).toArray 5))) := (Kp.refl [] w).alloc _
  clear hmk hmx hmx2 HZ0
  go_loopw [6] (fun p wr => ∃ (i : Nat) (s : List Nat), p = .int .i64 i ∧ i ≤ a.length ∧ s.length = m ∧ Bs s ∧ (∀ j, cf s j = cf (pmul (a.take i) b) j) ∧ Blk wr w.heap.size s ∧ Kp [] w wr) (fun p _ => a.length - (intOf p).toNat)
  case atStart => exact ⟨0, _, rfl, by omega, by simp, Bs.zeros _, fun j => by rw [cf_zeros]; rfl, unhide HZ, unhide HK1⟩
  case round =>
    obtain ⟨i, s, rfl, hi, hsl0, hsb0, hsc, hB, hK⟩ := hrel
    have HSC := hide hsc
    have HB := hide hB
    have HK := hide hK
    clear hsc hB hK
    by_cases hlt : i < a.length
    · have hi1 : (i : Int) < (a.length : Int) := by omega
      have HSL := hide hsl0
      have HSB := hide hsb0
      clear hsl0 hsb0
      go_wp2_with fail
      go_loopw [7] (fun p wr => ∃ (k : Nat) (s : List Nat), p = .int .i64 k ∧ k ≤ b.length ∧ s.length = m ∧ Bs s ∧ (∀ j, cf s j = mulJ a b i k j) ∧ Blk wr w.heap.size s ∧ Kp [] w wr) (fun p _ => b.length - (intOf p).toNat)
      case atStart => exact ⟨0, s, rfl, by omega, unhide HSL, unhide HSB, fun j => by rw [unhide HSC, mulJ, if_neg (by omega), Nat.xor_zero], unhide HB, unhide HK⟩
      case round =>
        obtain ⟨k, s2, rfl, hk, hsl, hsb, hsc, hB2, hK2⟩ := hrel
        have HSC3 := hide hsc
        have HB2 := hide hB2
        have HK2 := hide hK2
        clear hsc hB2 hK2
        by_cases hlt2 : k < b.length
        · have hk1 : (k : Int) < (b.length : Int) := by omega
          obtain ⟨z, hz⟩ : ∃ z, i + k = z := ⟨_, rfl⟩
          have hz1 : z ≤ i + k := by omega
          have hz2 : i + k ≤ z := by omega
          have hzw : IntKind.i64.wrap ((i : Int) + (k : Int)) = (z : Int) := by rw [IntWalk.i64_in _ ⟨by omega, by omega⟩]; omega
          have hzm : (z : Int) < (m : Int) := by omega
          clear hz
          obtain ⟨ox, rfl⟩ := row_some (unhide HR) (by omega)
          obtain ⟨oy, rfl⟩ := row_some (unhide HR2) (by omega)
          have hga2 : ga < w.heap.size := (unhide HR).block_lt (by intro e; rw [e] at hlt; simp at hlt)
          have hgb2 : gb < w.heap.size := (unhide HR2).block_lt (by intro e; rw [e] at hlt2; simp at hlt2)
          have HC := hide ((unhide HK2).cell (row_cell (unhide HR) (j := i) (by omega)) (by simp))
          have HCB := hide ((unhide HK2).cell (row_cell (unhide HR2) (j := k) (by omega)) (by simp))
          have HD := hide ((unhide HB2).cell (j := z) (by omega))
          have HF : Hid (wr.frozen? ⟨w.heap.size, z, none⟩ = false) := (unhide HB2).free
          have hv := hsb z
          have hu : gmul (cf a i) (cf b k) < 256 := gmul_lt (hbs i)
          have hxor := bits_xor_u8 hv hu
          go_wp2_with fail
          refine wp_region_noPanic ?_
          refine wp_region_held_drew (S := fun W' => Kp [w.heap.size] wr W') (by kernel_rfl) ((Kp.refl _ _).drew) (fun hHeld => ?_)
          have HH := hide hHeld
          clear hHeld
          refine takeL (i := 0) (v := ?_) rfl (by kernel_rfl) (by kernel_rfl) (by kernel_rfl) (fun _ _ _ h => h) (Or.inl ⟨by rfl, ?_⟩) (unhide HH) ?_
          rotate_left 1
          · intro W hSW; go_simp; all_goals (with_reducible rfl)
          (try simp only [Act.put, List.setIfInBounds_toArray, List.set_cons_zero, List.set_cons_succ])
          refine takeL (i := 1) (v := ?_) rfl (by kernel_rfl) (by kernel_rfl) (by kernel_rfl) (fun _ _ _ h => h) (Or.inl ⟨by rfl, ?_⟩) (unhide HH) ?_
          rotate_left 1
          · intro W hSW; go_simp; all_goals (with_reducible rfl)
          (try simp only [Act.put, List.setIfInBounds_toArray, List.set_cons_zero, List.set_cons_succ])
          refine takeL (i := 2) (v := ?_) rfl (by kernel_rfl) (by kernel_rfl) (by kernel_rfl) (fun _ _ _ h => h) (Or.inl ⟨by rfl, ?_⟩) (unhide HH) ?_
          rotate_left 1
          · intro W hSW; go_simp; all_goals (with_reducible rfl)
          (try simp only [Act.put, List.setIfInBounds_toArray, List.set_cons_zero, List.set_cons_succ])
          refine takeL (i := 3) (v := ?_) rfl (by kernel_rfl) (by kernel_rfl) (by kernel_rfl) (fun _ _ _ h => h) (Or.inl ⟨by rfl, ?_⟩) (unhide HH) ?_
          rotate_left 1
          · intro W hSW; go_simp; all_goals (with_reducible rfl)
          (try simp only [Act.put, List.setIfInBounds_toArray, List.set_cons_zero, List.set_cons_succ])
          refine takeL (i := 4) (v := ?_) rfl (by kernel_rfl) (by kernel_rfl) (by kernel_rfl) (fun _ _ _ h => h) (Or.inl ⟨by rfl, ?_⟩) (unhide HH) ?_
          rotate_left 1
          · intro W hSW; go_simp; all_goals (with_reducible rfl)
          (try simp only [Act.put, List.setIfInBounds_toArray, List.set_cons_zero, List.set_cons_succ])
          refine takeL (i := 5) (v := ?_) rfl (by kernel_rfl) (by kernel_rfl) (by kernel_rfl) (fun _ _ _ h => h) (Or.inl ⟨by rfl, ?_⟩) (unhide HH) ?_
          rotate_left 1
          · intro W hSW; go_simp; all_goals (with_reducible rfl)
          (try simp only [Act.put, List.setIfInBounds_toArray, List.set_cons_zero, List.set_cons_succ])
          refine takeL (i := 6) (v := ?_) rfl (by kernel_rfl) (by kernel_rfl) (by kernel_rfl) (fun _ _ _ h => h) (Or.inl ⟨by rfl, ?_⟩) (unhide HH) ?_
          rotate_left 1
          · intro W hSW; go_simp; all_goals (with_reducible rfl)
          (try simp only [Act.put, List.setIfInBounds_toArray, List.set_cons_zero, List.set_cons_succ])
          refine takeL (i := 7) (v := ?_) rfl (by kernel_rfl) (by kernel_rfl) (by kernel_rfl) (fun _ _ _ h => h) (Or.inl ⟨by rfl, ?_⟩) (unhide HH) ?_
          rotate_left 1
          · intro W hSW; go_simp; all_goals (with_reducible rfl)
          (try simp only [Act.put, List.setIfInBounds_toArray, List.set_cons_zero, List.set_cons_succ])
          refine takeL (i := 8) (v := ?_) rfl (by kernel_rfl) (by kernel_rfl) (by kernel_rfl) (fun _ _ _ h => h) (Or.inl ⟨by rfl, ?_⟩) (unhide HH) ?_
          rotate_left 1
          · intro W hSW; go_simp; all_goals (with_reducible rfl)
          (try simp only [Act.put, List.setIfInBounds_toArray, List.set_cons_zero, List.set_cons_succ])
          refine takeL (i := 10) (v := ?_) rfl (by kernel_rfl) (by kernel_rfl) (by kernel_rfl) (fun _ _ _ h => h) (Or.inl ⟨by rfl, ?_⟩) (unhide HH) ?_
          rotate_left 1
          · intro W hSW; go_simp; all_goals (with_reducible rfl)
          (try simp only [Act.put, List.setIfInBounds_toArray, List.set_cons_zero, List.set_cons_succ])
          refine takeL (i := 11) (v := ?_) rfl (by kernel_rfl) (by kernel_rfl) (by kernel_rfl) (fun _ _ _ h => h) (Or.inl ⟨by rfl, ?_⟩) (unhide HH) ?_
          rotate_left 1
          · intro W hSW; go_simp; all_goals (with_reducible rfl)
          (try simp only [Act.put, List.setIfInBounds_toArray, List.set_cons_zero, List.set_cons_succ])
          refine takeL (i := 12) (v := ?_) rfl (by kernel_rfl) (by kernel_rfl) (by kernel_rfl) (fun _ _ _ h => h) (Or.inl ⟨by rfl, ?_⟩) (unhide HH) ?_
          rotate_left 1
          · intro W hSW; go_simp; all_goals (with_reducible rfl)
          (try simp only [Act.put, List.setIfInBounds_toArray, List.set_cons_zero, List.set_cons_succ])
          refine takeL (i := 13) (v := ?_) rfl (by kernel_rfl) (by kernel_rfl) (by kernel_rfl) (fun _ _ _ h => h) (Or.inl ⟨by rfl, ?_⟩) (unhide HH) ?_
          rotate_left 1
          · intro W1 hSW; have hc := hSW.cell (unhide HC) (by simp; omega); clear hSW; go_simp; all_goals (with_reducible rfl)
          (try simp only [Act.put, List.setIfInBounds_toArray, List.set_cons_zero, List.set_cons_succ])
          refine takeL (i := 14) (v := ?_) rfl (by kernel_rfl) (by kernel_rfl) (by kernel_rfl) (fun _ _ _ h => h) (Or.inl ⟨by rfl, ?_⟩) (unhide HH) ?_
          rotate_left 1
          · intro W hSW; go_simp; all_goals (with_reducible rfl)
          (try simp only [Act.put, List.setIfInBounds_toArray, List.set_cons_zero, List.set_cons_succ])
          refine takeL (i := 15) (v := ?_) rfl (by kernel_rfl) (by kernel_rfl) (by kernel_rfl) (fun _ _ _ h => h) (Or.inl ⟨by rfl, ?_⟩) (unhide HH) ?_
          rotate_left 1
          · intro W hSW; go_simp; all_goals (with_reducible rfl)
          (try simp only [Act.put, List.setIfInBounds_toArray, List.set_cons_zero, List.set_cons_succ])
          refine takeL (i := 16) (v := ?_) rfl (by kernel_rfl) (by kernel_rfl) (by kernel_rfl) (fun _ _ _ h => h) (Or.inl ⟨by rfl, ?_⟩) (unhide HH) ?_
          rotate_left 1
          · intro W hSW; go_simp; all_goals (with_reducible rfl)
          (try simp only [Act.put, List.setIfInBounds_toArray, List.set_cons_zero, List.set_cons_succ])
          refine takeL (i := 17) (v := ?_) rfl (by kernel_rfl) (by kernel_rfl) (by kernel_rfl) (fun _ _ _ h => h) (Or.inl ⟨by rfl, ?_⟩) (unhide HH) ?_
          rotate_left 1
          · intro W1 hSW; have hc := hSW.cell (unhide HCB) (by simp; omega); clear hSW; go_simp; all_goals (with_reducible rfl)
          (try simp only [Act.put, List.setIfInBounds_toArray, List.set_cons_zero, List.set_cons_succ])
          refine wpAnyH_ready (rs := [9, 18]) (by kernel_rfl) (by simp) ?_
          refine consL rfl (fun K hK => ?_) (consL rfl (fun K hK => ?_) AllReadyH.nil)
          focus
            have hd : wr.drew.cell? ⟨w.heap.size, z, none⟩ = _ := unhide HD
            go_simp
            refine hK.out _ _ (unhide HH) (fun hHeld => ?_)
            clear hK K HH
            have HH := hide hHeld
            clear hHeld
            (try simp only [Act.put, List.setIfInBounds_toArray, List.set_cons_zero, List.set_cons_succ])
            clear hd
            refine wpAnyH_ready (rs := [18]) (by kernel_rfl) (by simp) ?_
            refine consL rfl (fun K hK => ?_) AllReadyH.nil
            go_simp
            refine (rmul_any (cf a i) (cf b k) (hbs i) (hbs2 k) _).mono ?_
            rintro e w5 ⟨rfl, hw5⟩
            rw [hw5]
            clear hw5
            go_wp2_with fail
            refine hK.out _ _ (unhide HH) (fun hHeld => ?_)
            clear hK K HH
            have HH := hide hHeld
            clear hHeld
            (try simp only [Act.put, List.setIfInBounds_toArray, List.set_cons_zero, List.set_cons_succ])
            refine takeL (i := 19) (v := ?_) rfl (by kernel_rfl) (by kernel_rfl) (by kernel_rfl) (fun _ _ _ h => h) (Or.inl ⟨by rfl, ?_⟩) (unhide HH) ?_
            rotate_left 1
            · intro W hSW; go_simp; all_goals (with_reducible rfl)
            (try simp only [Act.put, List.setIfInBounds_toArray, List.set_cons_zero, List.set_cons_succ])
            refine takeL (i := 20) (v := ?_) rfl (by kernel_rfl) (by kernel_rfl) (by kernel_rfl) (fun _ _ _ h => h) (Or.inl ⟨by rfl, ?_⟩) (unhide HH) ?_
            rotate_left 1
            · intro W hSW; go_simp; all_goals (with_reducible rfl)
            (try simp only [Act.put, List.setIfInBounds_toArray, List.set_cons_zero, List.set_cons_succ])
            refine wpAnyH_ready (rs := [21]) (by kernel_rfl) (by simp) ?_
            refine consL rfl (fun K hK => ?_) AllReadyH.nil
            have hd : wr.drew.cell? ⟨w.heap.size, z, none⟩ = _ := unhide HD
            have hf : wr.drew.frozen? ⟨w.heap.size, z, none⟩ = false := unhide HF
            go_simp
            refine hK.out _ _ (((Kp.refl _ wr).setCell ⟨w.heap.size, z, none⟩ _ (.inl (by simp))).drew) (fun hHeld => ?_)
            clear hHeld hK K HH hd hf
            (try simp only [Act.put, List.setIfInBounds_toArray, List.set_cons_zero, List.set_cons_succ])
            refine wpAnyH_done (by kernel_rfl) ?_ _
            refine NoPanic.normal ?_
            go_wp2
            go_roundw
            case rel =>
              refine ⟨k + 1, s2.set z (cf s2 z ^^^ gmul (cf a i) (cf b k)), by go_num, by omega, by simp [hsl], ?_, ?_, ((unhide HB2).set z _ (by omega)).of rfl, ((unhide HK2).setCell _ _ (.inr (Nat.le_refl _))).drew⟩
              · intro j; rw [cf_set _ _ _ _ (by omega)]; split
                · exact xor_lt hv hu
                · exact hsb j
              · exact mul_step (unhide HSC3) (by omega) (by omega) (by omega)
            case measure => simp [intOf]; omega
          focus
            go_simp
            refine (rmul_any (cf a i) (cf b k) (hbs i) (hbs2 k) _).mono ?_
            rintro e w5 ⟨rfl, hw5⟩
            rw [hw5]
            clear hw5
            go_wp2_with fail
            refine hK.out _ _ (unhide HH) (fun hHeld => ?_)
            clear hK K HH
            have HH := hide hHeld
            clear hHeld
            (try simp only [Act.put, List.setIfInBounds_toArray, List.set_cons_zero, List.set_cons_succ])
            refine wpAnyH_ready (rs := [9]) (by kernel_rfl) (by simp) ?_
            refine consL rfl (fun K hK => ?_) AllReadyH.nil
            have hd : wr.drew.cell? ⟨w.heap.size, z, none⟩ = _ := unhide HD
            go_simp
            refine hK.out _ _ (unhide HH) (fun hHeld => ?_)
            clear hK K HH
            have HH := hide hHeld
            clear hHeld
            (try simp only [Act.put, List.setIfInBounds_toArray, List.set_cons_zero, List.set_cons_succ])
            clear hd
            refine takeL (i := 19) (v := ?_) rfl (by kernel_rfl) (by kernel_rfl) (by kernel_rfl) (fun _ _ _ h => h) (Or.inl ⟨by rfl, ?_⟩) (unhide HH) ?_
            rotate_left 1
            · intro W hSW; go_simp; all_goals (with_reducible rfl)
            (try simp only [Act.put, List.setIfInBounds_toArray, List.set_cons_zero, List.set_cons_succ])
            refine takeL (i := 20) (v := ?_) rfl (by kernel_rfl) (by kernel_rfl) (by kernel_rfl) (fun _ _ _ h => h) (Or.inl ⟨by rfl, ?_⟩) (unhide HH) ?_
            rotate_left 1
            · intro W hSW; go_simp; all_goals (with_reducible rfl)
            (try simp only [Act.put, List.setIfInBounds_toArray, List.set_cons_zero, List.set_cons_succ])
            refine wpAnyH_ready (rs := [21]) (by kernel_rfl) (by simp) ?_
            refine consL rfl (fun K hK => ?_) AllReadyH.nil
            have hd : wr.drew.cell? ⟨w.heap.size, z, none⟩ = _ := unhide HD
            have hf : wr.drew.frozen? ⟨w.heap.size, z, none⟩ = false := unhide HF
            go_simp
            refine hK.out _ _ (((Kp.refl _ wr).setCell ⟨w.heap.size, z, none⟩ _ (.inl (by simp))).drew) (fun hHeld => ?_)
            clear hHeld hK K HH hd hf
            (try simp only [Act.put, List.setIfInBounds_toArray, List.set_cons_zero, List.set_cons_succ])
            refine wpAnyH_done (by kernel_rfl) ?_ _
            refine NoPanic.normal ?_
            go_wp2
            go_roundw
            case rel =>
              refine ⟨k + 1, s2.set z (cf s2 z ^^^ gmul (cf a i) (cf b k)), by go_num, by omega, by simp [hsl], ?_, ?_, ((unhide HB2).set z _ (by omega)).of rfl, ((unhide HK2).setCell _ _ (.inr (Nat.le_refl _))).drew⟩
              · intro j; rw [cf_set _ _ _ _ (by omega)]; split
                · exact xor_lt hv hu
                · exact hsb j
              · exact mul_step (unhide HSC3) (by omega) (by omega) (by omega)
            case measure => simp [intOf]; omega
        · have hk1 : (b.length : Int) ≤ (k : Int) := by omega
          have hke : k = b.length := by omega
          have HSC4 : Hid (∀ j, cf s2 j = cf (pmul (a.take (i + 1)) b) j) := fun j => by rw [← mul_row hlt j, ← hke]; exact unhide HSC3 j
          clear hke
          go_wp2
          go_roundw
          case rel => exact ⟨i + 1, s2, by go_num, by omega, hsl, hsb, unhide HSC4, unhide HB2, unhide HK2⟩
          case measure => simp [intOf]; omega
    · have hi1 : (a.length : Int) ≤ (i : Int) := by omega
      have HE : Hid (trim s = trim (pmul a b)) := trim_congr (fun j => by rw [unhide HSC, List.take_of_length_le (by omega)])
      have HA2 : Hid (Arg wr (.slice (some ⟨w.heap.size, 0, none⟩) m m) w.heap.size s) := by
        refine ⟨⟨some ⟨w.heap.size, 0, none⟩, m, by rw [hsl0], by omega, by unfold maxLen; omega, fun h => by simp at h, ?_⟩, hsb0⟩
        have h := (unhide HB).row (o := 0) (n := m)
        rw [List.drop_zero, List.take_of_length_le (by omega)] at h
        exact h
      go_wp2_with fail
      refine (rtrim_any _ w.heap.size s wr (unhide HA2) (by omega)).mono ?_
      rintro e w3 ⟨v3, rfl, hF3, hk3⟩
      rw [unhide HE] at hF3
      have HF3 := hide hF3
      have HK3 := hide hk3
      clear hF3 hk3
      go_wp2
      go_ret
      have hz := (unhide HK).size
      refine ⟨_, rfl, ?_, ((unhide HK).ofBelow (unhide HK3)).below⟩
      rcases unhide HF3 with h | ⟨g3, c3, k1, k2, k3, k4, k5⟩
      · exact .inl h
      · exact .inr ⟨g3, c3, k1, k2, k3, k4, by omega⟩

end Go.Proofs.Ytahjcahmlangiaa
