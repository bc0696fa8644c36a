/-
  The second telling's product (ramekinref3.Mul).
  The second telling's values and least polynomials (ramekinref3.Eval, Minimal).
  The second telling's generator and bit (ramekinref4).
  ramekinref6's Flip.
-/
import Derived.Test.YtkhpoomajebgoabMar
import Derived.Test.YtkhpoomajebgoabMao
import Derived.Test.YtkhpoomajebgoabMag
namespace Go.Proofs.Ytkhpoomajebgoab
open Go.RowKit

theorem pmul_snoc (p q : List Nat) (x j : Nat) : cf (pmul (p ++ [x]) q) j = cf (pmul p q) j ^^^ (if p.length ≤ j then gmul x (cf q (j - p.length)) else 0) := by
  induction p generalizing j with
  | nil =>
    rw [List.nil_append, cf_pmul_cons]
    cases j <;> simp [pmul]
  | cons y p ih =>
    rw [List.cons_append, cf_pmul_cons, cf_pmul_cons, Nat.xor_assoc]
    congr 1
    cases j with
    | zero => simp
    | succ j =>
      rw [cf_succ, cf_succ, ih, List.length_cons]
      simp

theorem take_cf {a : List Nat} {i : Nat} (h : i < a.length) : a.take (i + 1) = a.take i ++ [cf a i] := by
  rw [List.take_succ_eq_append_getElem h]
  have := cf_get h
  rw [List.getElem?_eq_getElem h] at this
  simp at this
  rw [this]

/-- The product of the first i numbers, and k steps of the next one. -/
def mulJ (a b : List Nat) (i k j : Nat) : Nat := cf (pmul (a.take i) b) j ^^^ (if i ≤ j ∧ j < i + k then gmul (cf a i) (cf b (j - i)) else 0)

theorem mul_step {a b s : List Nat} {i k z : Nat} (h : ∀ j, cf s j = mulJ a b i k j) (h1 : z ≤ i + k) (h2 : i + k ≤ z) (hz : z < s.length) (j : Nat) : cf (s.set z (cf s z ^^^ gmul (cf a i) (cf b k))) j = mulJ a b i (k + 1) j := by
  have hz2 : z = i + k := by omega
  rw [cf_set _ _ _ _ hz]
  by_cases e : j = z
  · rw [if_pos e, e, h, mulJ, mulJ, hz2, if_neg (by omega), if_pos (by omega), Nat.xor_zero, Nat.add_sub_cancel_left]
  · rw [if_neg e, h, mulJ, mulJ]
    by_cases e2 : i ≤ j ∧ j < i + k
    · rw [if_pos e2, if_pos (by omega)]
    · rw [if_neg e2, if_neg (by omega)]

theorem mul_row {a b : List Nat} {i : Nat} (hi : i < a.length) (j : Nat) : mulJ a b i b.length j = cf (pmul (a.take (i + 1)) b) j := by
  rw [mulJ, take_cf hi, pmul_snoc, List.length_take, Nat.min_eq_left (by omega)]
  congr 1
  by_cases e : i ≤ j
  · rw [if_pos e]
    by_cases e2 : j < i + b.length
    · rw [if_pos ⟨e, e2⟩]
    · rw [if_neg (by omega), cf_ge (p := b) (by omega), gmul_zero]
  · rw [if_neg e, if_neg (by omega)]

set_option maxRecDepth 100000 in
set_option maxHeartbeats 8000000 in
theorem rpmul_any (va vb : Value) (ga gb : Nat) (a b : List Nat) (w : World) (hA : Arg w va ga a) (hB : Arg w vb gb b) (ha : a.length ≤ 10000) (hb : b.length ≤ 10000) :
    Calls Try.prog 30 #[va, vb] w fun e w' => ∃ v', e = .returned v' ∧ Fr w.heap.size w' v' (trim (pmul a b)) ∧ Below w.heap.size w w' := by
  obtain ⟨⟨ao, c, rfl, hc1, hc2, hnil, hr⟩, hbs⟩ := hA
  obtain ⟨⟨bo, d, rfl, hd1, hd2, hnil2, hr2⟩, hbs2⟩ := hB
  have HR := hide hr
  have HR2 := hide hr2
  clear hr hr2 hnil hnil2
  obtain ⟨m, hm⟩ : ∃ m, a.length + b.length = m := ⟨_, rfl⟩
  have hm1 : m ≤ a.length + b.length := by omega
  have hm2 : a.length + b.length ≤ m := by omega
  have hmx : IntKind.i64.wrap ((a.length : Int) + (b.length : Int)) = (m : Int) := by rw [IntWalk.i64_in _ ⟨by omega, by omega⟩]; omega
  have hmx2 : (a.length : Int) + (b.length : Int) = (m : Int) := by omega
  have hmk := run_zeros m (by omega)
  have HZ0 : Hid (∀ W : World, Blk (W.alloc (.cells (List.replicate m (Value.int .u8 0)).toArray 5)) W.heap.size (List.replicate m 0)) := fun W => blk_zeros m W
  clear hm
  go_enter Try.func30, Try.ntmps30
  go_wp2_with fail
  have HZ := hide (unhide HZ0 w)
  have HK1 : Hid (Kp [] w (w.alloc (.cells (List.replicate m (Value.int .u8 0)).toArray 5))) := (Kp.refl [] w).alloc _
  clear hmk hmx hmx2 HZ0
  go_loopw [6] (fun p wr => ∃ (i : Nat) (s : List Nat), p = .int .i64 i ∧ i ≤ a.length ∧ s.length = m ∧ Bs s ∧ (∀ j, cf s j = cf (pmul (a.take i) b) j) ∧ Blk wr w.heap.size s ∧ Kp [] w wr) (fun p _ => a.length - (intOf p).toNat)
  case atStart => exact ⟨0, _, rfl, by omega, by simp, Bs.zeros _, fun j => by rw [cf_zeros]; rfl, unhide HZ, unhide HK1⟩
  case round =>
    obtain ⟨i, s, rfl, hi, hsl0, hsb0, hsc, hB, hK⟩ := hrel
    have HSC := hide hsc
    have HB := hide hB
    have HK := hide hK
    clear hsc hB hK
    by_cases hlt : i < a.length
    · have hi1 : (i : Int) < (a.length : Int) := by omega
      have HSL := hide hsl0
      have HSB := hide hsb0
      clear hsl0 hsb0
      go_wp2_with fail
      go_loopw [7] (fun p wr => ∃ (k : Nat) (s : List Nat), p = .int .i64 k ∧ k ≤ b.length ∧ s.length = m ∧ Bs s ∧ (∀ j, cf s j = mulJ a b i k j) ∧ Blk wr w.heap.size s ∧ Kp [] w wr) (fun p _ => b.length - (intOf p).toNat)
      case atStart => exact ⟨0, s, rfl, by omega, unhide HSL, unhide HSB, fun j => by rw [unhide HSC, mulJ, if_neg (by omega), Nat.xor_zero], unhide HB, unhide HK⟩
      case round =>
        obtain ⟨k, s2, rfl, hk, hsl, hsb, hsc, hB2, hK2⟩ := hrel
        have HSC3 := hide hsc
        have HB2 := hide hB2
        have HK2 := hide hK2
        clear hsc hB2 hK2
        by_cases hlt2 : k < b.length
        · have hk1 : (k : Int) < (b.length : Int) := by omega
          obtain ⟨z, hz⟩ : ∃ z, i + k = z := ⟨_, rfl⟩
          have hz1 : z ≤ i + k := by omega
          have hz2 : i + k ≤ z := by omega
          have hzw : IntKind.i64.wrap ((i : Int) + (k : Int)) = (z : Int) := by rw [IntWalk.i64_in _ ⟨by omega, by omega⟩]; omega
          have hzm : (z : Int) < (m : Int) := by omega
          clear hz
          obtain ⟨ox, rfl⟩ := row_some (unhide HR) (by omega)
          obtain ⟨oy, rfl⟩ := row_some (unhide HR2) (by omega)
          have hga2 : ga < w.heap.size := (unhide HR).block_lt (by intro e; rw [e] at hlt; simp at hlt)
          have hgb2 : gb < w.heap.size := (unhide HR2).block_lt (by intro e; rw [e] at hlt2; simp at hlt2)
          have HC := hide ((unhide HK2).cell (row_cell (unhide HR) (j := i) (by omega)) (by simp))
          have HCB := hide ((unhide HK2).cell (row_cell (unhide HR2) (j := k) (by omega)) (by simp))
          have HD := hide ((unhide HB2).cell (j := z) (by omega))
          have HF : Hid (wr.frozen? ⟨w.heap.size, z, none⟩ = false) := (unhide HB2).free
          have hv := hsb z
          have hu : gmul (cf a i) (cf b k) < 256 := gmul_lt (hbs i)
          have hxor := bits_xor_u8 hv hu
          go_wp2_with fail
          refine wp_region_noPanic ?_
          refine wp_region_held_drew (S := fun W' => Kp [w.heap.size] wr W') (by kernel_rfl) ((Kp.refl _ _).drew) (fun hHeld => ?_)
          have HH := hide hHeld
          clear hHeld
          refine takeL (i := 0) (v := ?_) rfl (by kernel_rfl) (by kernel_rfl) (by kernel_rfl) (fun _ _ _ h => h) (Or.inl ⟨by rfl, ?_⟩) (unhide HH) ?_
          rotate_left 1
          · intro W hSW; go_simp; all_goals (with_reducible rfl)
          (try simp only [Act.put, List.setIfInBounds_toArray, List.set_cons_zero, List.set_cons_succ])
          refine takeL (i := 1) (v := ?_) rfl (by kernel_rfl) (by kernel_rfl) (by kernel_rfl) (fun _ _ _ h => h) (Or.inl ⟨by rfl, ?_⟩) (unhide HH) ?_
          rotate_left 1
          · intro W hSW; go_simp; all_goals (with_reducible rfl)
          (try simp only [Act.put, List.setIfInBounds_toArray, List.set_cons_zero, List.set_cons_succ])
          refine takeL (i := 2) (v := ?_) rfl (by kernel_rfl) (by kernel_rfl) (by kernel_rfl) (fun _ _ _ h => h) (Or.inl ⟨by rfl, ?_⟩) (unhide HH) ?_
          rotate_left 1
          · intro W hSW; go_simp; all_goals (with_reducible rfl)
          (try simp only [Act.put, List.setIfInBounds_toArray, List.set_cons_zero, List.set_cons_succ])
          refine takeL (i := 3) (v := ?_) rfl (by kernel_rfl) (by kernel_rfl) (by kernel_rfl) (fun _ _ _ h => h) (Or.inl ⟨by rfl, ?_⟩) (unhide HH) ?_
          rotate_left 1
          · intro W hSW; go_simp; all_goals (with_reducible rfl)
          (try simp only [Act.put, List.setIfInBounds_toArray, List.set_cons_zero, List.set_cons_succ])
          refine takeL (i := 4) (v := ?_) rfl (by kernel_rfl) (by kernel_rfl) (by kernel_rfl) (fun _ _ _ h => h) (Or.inl ⟨by rfl, ?_⟩) (unhide HH) ?_
          rotate_left 1
          · intro W hSW; go_simp; all_goals (with_reducible rfl)
          (try simp only [Act.put, List.setIfInBounds_toArray, List.set_cons_zero, List.set_cons_succ])
          refine takeL (i := 5) (v := ?_) rfl (by kernel_rfl) (by kernel_rfl) (by kernel_rfl) (fun _ _ _ h => h) (Or.inl ⟨by rfl, ?_⟩) (unhide HH) ?_
          rotate_left 1
          · intro W hSW; go_simp; all_goals (with_reducible rfl)
          (try simp only [Act.put, List.setIfInBounds_toArray, List.set_cons_zero, List.set_cons_succ])
          refine takeL (i := 6) (v := ?_) rfl (by kernel_rfl) (by kernel_rfl) (by kernel_rfl) (fun _ _ _ h => h) (Or.inl ⟨by rfl, ?_⟩) (unhide HH) ?_
          rotate_left 1
          · intro W hSW; go_simp; all_goals (with_reducible rfl)
          (try simp only [Act.put, List.setIfInBounds_toArray, List.set_cons_zero, List.set_cons_succ])
          refine takeL (i := 7) (v := ?_) rfl (by kernel_rfl) (by kernel_rfl) (by kernel_rfl) (fun _ _ _ h => h) (Or.inl ⟨by rfl, ?_⟩) (unhide HH) ?_
          rotate_left 1
          · intro W hSW; go_simp; all_goals (with_reducible rfl)
          (try simp only [Act.put, List.setIfInBounds_toArray, List.set_cons_zero, List.set_cons_succ])
          refine takeL (i := 8) (v := ?_) rfl (by kernel_rfl) (by kernel_rfl) (by kernel_rfl) (fun _ _ _ h => h) (Or.inl ⟨by rfl, ?_⟩) (unhide HH) ?_
          rotate_left 1
          · intro W hSW; go_simp; all_goals (with_reducible rfl)
          (try simp only [Act.put, List.setIfInBounds_toArray, List.set_cons_zero, List.set_cons_succ])
          refine takeL (i := 10) (v := ?_) rfl (by kernel_rfl) (by kernel_rfl) (by kernel_rfl) (fun _ _ _ h => h) (Or.inl ⟨by rfl, ?_⟩) (unhide HH) ?_
          rotate_left 1
          · intro W hSW; go_simp; all_goals (with_reducible rfl)
          (try simp only [Act.put, List.setIfInBounds_toArray, List.set_cons_zero, List.set_cons_succ])
          refine takeL (i := 11) (v := ?_) rfl (by kernel_rfl) (by kernel_rfl) (by kernel_rfl) (fun _ _ _ h => h) (Or.inl ⟨by rfl, ?_⟩) (unhide HH) ?_
          rotate_left 1
          · intro W hSW; go_simp; all_goals (with_reducible rfl)
          (try simp only [Act.put, List.setIfInBounds_toArray, List.set_cons_zero, List.set_cons_succ])
          refine takeL (i := 12) (v := ?_) rfl (by kernel_rfl) (by kernel_rfl) (by kernel_rfl) (fun _ _ _ h => h) (Or.inl ⟨by rfl, ?_⟩) (unhide HH) ?_
          rotate_left 1
          · intro W hSW; go_simp; all_goals (with_reducible rfl)
          (try simp only [Act.put, List.setIfInBounds_toArray, List.set_cons_zero, List.set_cons_succ])
          refine takeL (i := 13) (v := ?_) rfl (by kernel_rfl) (by kernel_rfl) (by kernel_rfl) (fun _ _ _ h => h) (Or.inl ⟨by rfl, ?_⟩) (unhide HH) ?_
          rotate_left 1
          · intro W1 hSW; have hc := hSW.cell (unhide HC) (by simp; omega); clear hSW; go_simp; all_goals (with_reducible rfl)
          (try simp only [Act.put, List.setIfInBounds_toArray, List.set_cons_zero, List.set_cons_succ])
          refine takeL (i := 14) (v := ?_) rfl (by kernel_rfl) (by kernel_rfl) (by kernel_rfl) (fun _ _ _ h => h) (Or.inl ⟨by rfl, ?_⟩) (unhide HH) ?_
          rotate_left 1
          · intro W hSW; go_simp; all_goals (with_reducible rfl)
          (try simp only [Act.put, List.setIfInBounds_toArray, List.set_cons_zero, List.set_cons_succ])
          refine takeL (i := 15) (v := ?_) rfl (by kernel_rfl) (by kernel_rfl) (by kernel_rfl) (fun _ _ _ h => h) (Or.inl ⟨by rfl, ?_⟩) (unhide HH) ?_
          rotate_left 1
          · intro W hSW; go_simp; all_goals (with_reducible rfl)
          (try simp only [Act.put, List.setIfInBounds_toArray, List.set_cons_zero, List.set_cons_succ])
          refine takeL (i := 16) (v := ?_) rfl (by kernel_rfl) (by kernel_rfl) (by kernel_rfl) (fun _ _ _ h => h) (Or.inl ⟨by rfl, ?_⟩) (unhide HH) ?_
          rotate_left 1
          · intro W hSW; go_simp; all_goals (with_reducible rfl)
          (try simp only [Act.put, List.setIfInBounds_toArray, List.set_cons_zero, List.set_cons_succ])
          refine takeL (i := 17) (v := ?_) rfl (by kernel_rfl) (by kernel_rfl) (by kernel_rfl) (fun _ _ _ h => h) (Or.inl ⟨by rfl, ?_⟩) (unhide HH) ?_
          rotate_left 1
          · intro W1 hSW; have hc := hSW.cell (unhide HCB) (by simp; omega); clear hSW; go_simp; all_goals (with_reducible rfl)
          (try simp only [Act.put, List.setIfInBounds_toArray, List.set_cons_zero, List.set_cons_succ])
          refine wpAnyH_ready (rs := [9, 18]) (by kernel_rfl) (by simp) ?_
          refine consL rfl (fun K hK => ?_) (consL rfl (fun K hK => ?_) AllReadyH.nil)
          focus
            have hd : wr.drew.cell? ⟨w.heap.size, z, none⟩ = _ := unhide HD
            go_simp
            refine hK.out _ _ (unhide HH) (fun hHeld => ?_)
            clear hK K HH
            have HH := hide hHeld
            clear hHeld
            (try simp only [Act.put, List.setIfInBounds_toArray, List.set_cons_zero, List.set_cons_succ])
            clear hd
            refine wpAnyH_ready (rs := [18]) (by kernel_rfl) (by simp) ?_
            refine consL rfl (fun K hK => ?_) AllReadyH.nil
            go_simp
            refine (rmul_any (cf a i) (cf b k) (hbs i) (hbs2 k) _).mono ?_
            rintro e w5 ⟨rfl, hw5⟩
            rw [hw5]
            clear hw5
            go_wp2_with fail
            refine hK.out _ _ (unhide HH) (fun hHeld => ?_)
            clear hK K HH
            have HH := hide hHeld
            clear hHeld
            (try simp only [Act.put, List.setIfInBounds_toArray, List.set_cons_zero, List.set_cons_succ])
            refine takeL (i := 19) (v := ?_) rfl (by kernel_rfl) (by kernel_rfl) (by kernel_rfl) (fun _ _ _ h => h) (Or.inl ⟨by rfl, ?_⟩) (unhide HH) ?_
            rotate_left 1
            · intro W hSW; go_simp; all_goals (with_reducible rfl)
            (try simp only [Act.put, List.setIfInBounds_toArray, List.set_cons_zero, List.set_cons_succ])
            refine takeL (i := 20) (v := ?_) rfl (by kernel_rfl) (by kernel_rfl) (by kernel_rfl) (fun _ _ _ h => h) (Or.inl ⟨by rfl, ?_⟩) (unhide HH) ?_
            rotate_left 1
            · intro W hSW; go_simp; all_goals (with_reducible rfl)
            (try simp only [Act.put, List.setIfInBounds_toArray, List.set_cons_zero, List.set_cons_succ])
            refine wpAnyH_ready (rs := [21]) (by kernel_rfl) (by simp) ?_
            refine consL rfl (fun K hK => ?_) AllReadyH.nil
            have hd : wr.drew.cell? ⟨w.heap.size, z, none⟩ = _ := unhide HD
            have hf : wr.drew.frozen? ⟨w.heap.size, z, none⟩ = false := unhide HF
            go_simp
            refine hK.out _ _ (((Kp.refl _ wr).setCell ⟨w.heap.size, z, none⟩ _ (.inl (by simp))).drew) (fun hHeld => ?_)
            clear hHeld hK K HH hd hf
            (try simp only [Act.put, List.setIfInBounds_toArray, List.set_cons_zero, List.set_cons_succ])
            refine wpAnyH_done (by kernel_rfl) ?_ _
            refine NoPanic.normal ?_
            go_wp2
            go_roundw
            case rel =>
              refine ⟨k + 1, s2.set z (cf s2 z ^^^ gmul (cf a i) (cf b k)), by go_num, by omega, by simp [hsl], ?_, ?_, ((unhide HB2).set z _ (by omega)).of rfl, ((unhide HK2).setCell _ _ (.inr (Nat.le_refl _))).drew⟩
              · intro j; rw [cf_set _ _ _ _ (by omega)]; split
                · exact xor_lt hv hu
                · exact hsb j
              · exact mul_step (unhide HSC3) (by omega) (by omega) (by omega)
            case measure => simp [intOf]; omega
          focus
            go_simp
            refine (rmul_any (cf a i) (cf b k) (hbs i) (hbs2 k) _).mono ?_
            rintro e w5 ⟨rfl, hw5⟩
            rw [hw5]
            clear hw5
            go_wp2_with fail
            refine hK.out _ _ (unhide HH) (fun hHeld => ?_)
            clear hK K HH
            have HH := hide hHeld
            clear hHeld
            (try simp only [Act.put, List.setIfInBounds_toArray, List.set_cons_zero, List.set_cons_succ])
            refine wpAnyH_ready (rs := [9]) (by kernel_rfl) (by simp) ?_
            refine consL rfl (fun K hK => ?_) AllReadyH.nil
            have hd : wr.drew.cell? ⟨w.heap.size, z, none⟩ = _ := unhide HD
            go_simp
            refine hK.out _ _ (unhide HH) (fun hHeld => ?_)
            clear hK K HH
            have HH := hide hHeld
            clear hHeld
            (try simp only [Act.put, List.setIfInBounds_toArray, List.set_cons_zero, List.set_cons_succ])
            clear hd
            refine takeL (i := 19) (v := ?_) rfl (by kernel_rfl) (by kernel_rfl) (by kernel_rfl) (fun _ _ _ h => h) (Or.inl ⟨by rfl, ?_⟩) (unhide HH) ?_
            rotate_left 1
            · intro W hSW; go_simp; all_goals (with_reducible rfl)
            (try simp only [Act.put, List.setIfInBounds_toArray, List.set_cons_zero, List.set_cons_succ])
            refine takeL (i := 20) (v := ?_) rfl (by kernel_rfl) (by kernel_rfl) (by kernel_rfl) (fun _ _ _ h => h) (Or.inl ⟨by rfl, ?_⟩) (unhide HH) ?_
            rotate_left 1
            · intro W hSW; go_simp; all_goals (with_reducible rfl)
            (try simp only [Act.put, List.setIfInBounds_toArray, List.set_cons_zero, List.set_cons_succ])
            refine wpAnyH_ready (rs := [21]) (by kernel_rfl) (by simp) ?_
            refine consL rfl (fun K hK => ?_) AllReadyH.nil
            have hd : wr.drew.cell? ⟨w.heap.size, z, none⟩ = _ := unhide HD
            have hf : wr.drew.frozen? ⟨w.heap.size, z, none⟩ = false := unhide HF
            go_simp
            refine hK.out _ _ (((Kp.refl _ wr).setCell ⟨w.heap.size, z, none⟩ _ (.inl (by simp))).drew) (fun hHeld => ?_)
            clear hHeld hK K HH hd hf
            (try simp only [Act.put, List.setIfInBounds_toArray, List.set_cons_zero, List.set_cons_succ])
            refine wpAnyH_done (by kernel_rfl) ?_ _
            refine NoPanic.normal ?_
            go_wp2
            go_roundw
            case rel =>
              refine ⟨k + 1, s2.set z (cf s2 z ^^^ gmul (cf a i) (cf b k)), by go_num, by omega, by simp [hsl], ?_, ?_, ((unhide HB2).set z _ (by omega)).of rfl, ((unhide HK2).setCell _ _ (.inr (Nat.le_refl _))).drew⟩
              · intro j; rw [cf_set _ _ _ _ (by omega)]; split
                · exact xor_lt hv hu
                · exact hsb j
              · exact mul_step (unhide HSC3) (by omega) (by omega) (by omega)
            case measure => simp [intOf]; omega
        · have hk1 : (b.length : Int) ≤ (k : Int) := by omega
          have hke : k = b.length := by omega
          have HSC4 : Hid (∀ j, cf s2 j = cf (pmul (a.take (i + 1)) b) j) := fun j => by rw [← mul_row hlt j, ← hke]; exact unhide HSC3 j
          clear hke
          go_wp2
          go_roundw
          case rel => exact ⟨i + 1, s2, by go_num, by omega, hsl, hsb, unhide HSC4, unhide HB2, unhide HK2⟩
          case measure => simp [intOf]; omega
    · have hi1 : (a.length : Int) ≤ (i : Int) := by omega
      have HE : Hid (trim s = trim (pmul a b)) := trim_congr (fun j => by rw [unhide HSC, List.take_of_length_le (by omega)])
      have HA2 : Hid (Arg wr (.slice (some ⟨w.heap.size, 0, none⟩) m m) w.heap.size s) := by
        refine ⟨⟨some ⟨w.heap.size, 0, none⟩, m, by rw [hsl0], by omega, by unfold maxLen; omega, fun h => by simp at h, ?_⟩, hsb0⟩
        have h := (unhide HB).row (o := 0) (n := m)
        rw [List.drop_zero, List.take_of_length_le (by omega)] at h
        exact h
      go_wp2_with fail
      refine (rtrim_any _ w.heap.size s wr (unhide HA2) (by omega)).mono ?_
      rintro e w3 ⟨v3, rfl, hF3, hk3⟩
      rw [unhide HE] at hF3
      have HF3 := hide hF3
      have HK3 := hide hk3
      clear hF3 hk3
      go_wp2
      go_ret
      have hz := (unhide HK).size
      refine ⟨_, rfl, ?_, ((unhide HK).ofBelow (unhide HK3)).below⟩
      rcases unhide HF3 with h | ⟨g3, c3, k1, k2, k3, k4, k5⟩
      · exact .inl h
      · exact .inr ⟨g3, c3, k1, k2, k3, k4, by omega⟩

end Go.Proofs.Ytkhpoomajebgoab

namespace Go.Proofs.Ytkhpoomajebgoab
open Go.RowKit

theorem one_pmul {x : Nat} (hx : x < 256) : trim (pmul [1] [x, 1]) = [x, 1] := by
  have e : Eqv (pmul [1] [x, 1]) [x, 1] := fun i => by
    rw [cf_pmul_cons]
    match i with
    | 0 => simp [one_gmul hx]
    | 1 => simp [pmul, gmul_one]
    | i + 2 => simp [pmul, gmul_zero]
  rw [trim_congr e]
  exact trim_self (.inr (by simp))

/-- What is left of the round. -/
def leftM (st m : Nat) : List Nat := if m = st then [] else orbF 8 st m

set_option maxRecDepth 100000 in
set_option maxHeartbeats 8000000 in
theorem rminimal_any (n : Int) (w : World) :
    Calls Try.prog 31 #[.int .i64 n] w fun e w' => ∃ v', e = .returned v' ∧ Fr w.heap.size w' v' (minP (n % 255).toNat) ∧ Below w.heap.size w w' := by
  obtain ⟨st, hst⟩ : ∃ st : Nat, n % 255 = (st : Int) := ⟨(n % 255).toNat, by omega⟩
  have hst2 : st < 255 := by omega
  obtain ⟨h1, h2, h3, h4⟩ := tmod_emod n 255 (by omega)
  rw [hst] at h1 h2
  have HG : Hid ((n % 255).toNat = st) := by show _ = _; omega
  rw [unhide HG]
  have H1 := hide h1
  have H2 := hide h2
  clear hst h1 h2
  obtain ⟨X1, hX1⟩ : ∃ x, E st = x := ⟨_, rfl⟩
  have hXl : X1 < 256 := by rw [← hX1]; exact E_lt st
  have HX : Hid (X (st : Int) = X1) := by show _ = _; rw [X_nat]; exact hX1
  have HX1 := hide hX1
  clear hX1
  have htw : ((2 : Int) * (st : Int)).tmod 255 = ((2 * st % 255 : Nat) : Int) := twice_eq hst2
  obtain ⟨m1, hm1⟩ : ∃ m1, 2 * st % 255 = m1 := ⟨_, rfl⟩
  have hm1l : m1 < 255 := by omega
  rw [hm1] at htw
  have HM1 := hide hm1
  clear hm1
  by_cases hneg : n.tmod 255 < 0
  · have h5 : n.tmod 255 + 255 = (st : Int) := unhide H1 hneg
    go_enter Try.func31, Try.ntmps31
    go_wp2_with fail
    refine (rexp_any (st : Int) _).mono ?_
    rintro e w ⟨rfl, rfl⟩
    rw [unhide HX]
    have HV := hide (arg_two w hXl)
    have HB2 : Hid (Blk (w.alloc (.cells #[.int .u8 (X1 : Int), .int .u8 1] 5)) w.heap.size [X1, 1]) := ⟨_, World.alloc_heap_new w _, fun j hj => two_get j hj⟩
    have HW : Hid (Below w.heap.size w (w.alloc (.cells #[.int .u8 (X1 : Int), .int .u8 1] 5))) := (Below.refl _ w).alloc (Nat.le_refl _) _
    go_wp2_with fail
    go_loopw [3, 4] (fun p q wr => ∃ (m : Nat) (pl : List Nat), q = .int .i64 m ∧ m < 255 ∧ 1 ≤ pl.length ∧ pl.length ≤ 8 ∧ m = st * 2 ^ pl.length % 255 ∧ pl ++ (if m = st then [] else orbF (8 - pl.length) st m) = orb st ∧ Fr w.heap.size wr p (pl.foldl minF [1]) ∧ Below w.heap.size w wr) (fun _ q _ => (leftM st (intOf q).toNat).length)
    case atStart =>
      refine ⟨m1, [st], rfl, hm1l, by simp, by simp, ?_, ?_, ?_, unhide HW⟩
      · rw [← unhide HM1]; simp; omega
      · rw [← unhide HM1]; rfl
      · show Fr _ _ _ (trim (pmul [1] [E st, 1]))
        rw [unhide HX1, one_pmul hXl]
        exact .inr ⟨w.heap.size, 2, rfl, by simp, by unfold maxLen; omega, unhide HB2, Nat.le_refl _⟩
    case round =>
      obtain ⟨m, pl, rfl, hm, hpl1, hpl8, hmm, hp, hF, hW2⟩ := hrel
      have HMM := hide hmm
      have HP := hide hp
      have HW2 := hide hW2
      have hzr := hW2.size
      clear hmm hp hW2 HV HB2 HW
      by_cases he : m = st
      · have he' : ((m : Int) != (st : Int)) = false := by rw [he]; simp
        have HP2 := unhide HP
        rw [if_pos he, List.append_nil] at HP2
        rw [HP2] at hF
        have HF := hide hF
        obtain ⟨av, lv, cv, rfl⟩ := hF.shape0
        clear HP2 hF
        go_wp2
        go_ret
        exact ⟨_, rfl, unhide HF, unhide HW2⟩
      · have he' : ((m : Int) != (st : Int)) = true := by rw [bne_iff_ne]; omega
        have HP2 := unhide HP
        rw [if_neg he] at HP2
        have HP3 := hide HP2
        clear HP2
        have hp7 : pl.length ≤ 7 := by
          have h := orb_facts ⟨st, hst2⟩ ⟨pl.length - 1, by omega⟩
          dsimp only at h
          rw [orb_next, show pl.length - 1 + 1 = pl.length from by omega, ← unhide HMM] at h
          have := (h.resolve_left he).1
          omega
        obtain ⟨m', hm'⟩ : ∃ m', 2 * m % 255 = m' := ⟨_, rfl⟩
        have hm'' : m' < 255 := by omega
        have htw2 : ((2 : Int) * (m : Int)).tmod 255 = (m' : Int) := by rw [twice_eq hm, hm']
        have HM' := hide hm'
        clear hm'
        have HME : Hid ((leftM st m').length < (leftM st m).length) := by
          show _ < _
          unfold leftM
          rw [if_neg he]
          by_cases e2 : m' = st
          · rw [if_pos e2]; simp [orbF]
          · rw [if_neg e2]
            have h := orb_facts ⟨st, hst2⟩ ⟨pl.length, by omega⟩
            dsimp only at h
            rw [← unhide HMM, unhide HM'] at h
            exact (h.resolve_left e2).2
        have HPN : Hid ((pl ++ [m]) ++ (if m' = st then [] else orbF (8 - (pl ++ [m]).length) st m') = orb st) := by
          show _ = _
          have h := unhide HP3
          obtain ⟨k, hk⟩ : ∃ k, 8 - pl.length = k + 1 := ⟨8 - pl.length - 1, by omega⟩
          rw [hk, orbF, unhide HM'] at h
          rw [← h, List.length_append, List.length_singleton, show 8 - (pl.length + 1) = k from by omega, List.append_assoc]
          rfl
        obtain ⟨p, hpp⟩ : ∃ p, pl.foldl minF [1] = p := ⟨_, rfl⟩
        have hplen : p.length ≤ 100 := by
          have := minF_len pl [1]
          rw [hpp] at this
          simp at this
          omega
        have hpb : Bs p := by rw [← hpp]; exact minF_bs _ (Bs.cons (by omega) Bs.nil)
        rw [hpp] at hF
        have HPP := hide hpp
        clear hpp
        obtain ⟨g, hA, hg⟩ := hF.arg hpb
        obtain ⟨⟨ao, c, rfl, ha1, ha2, ha3, ha4⟩, _⟩ := hA
        have HA : Hid (Arg wr (.slice ao p.length c) g p) := ⟨⟨ao, c, rfl, ha1, ha2, ha3, ha4⟩, hpb⟩
        clear ha1 ha2 ha3 ha4 hF
        obtain ⟨X2, hX2⟩ : ∃ x, E m = x := ⟨_, rfl⟩
        have hX2l : X2 < 256 := by rw [← hX2]; exact E_lt m
        have HX2 : Hid (X (m : Int) = X2) := by show _ = _; rw [X_nat]; exact hX2
        have HX3 := hide hX2
        clear hX2
        go_wp2_with fail
        refine (rexp_any (m : Int) _).mono ?_
        rintro e w5 ⟨rfl, rfl⟩
        rw [unhide HX2]
        have HV5 := hide (arg_two w5 hX2l)
        have HB5 : Hid (Below w5.heap.size w5 (w5.alloc (.cells #[.int .u8 (X2 : Int), .int .u8 1] 5))) := (Below.refl _ w5).alloc (Nat.le_refl _) _
        go_wp2_with fail
        refine (rpmul_any _ _ g w5.heap.size p [X2, 1] _ ((unhide HA).below (unhide HB5)) (unhide HV5) (by omega) (by simp)).mono ?_
        rintro e w6 ⟨v6, rfl, hF6, hk6⟩
        have HF6 : Hid (Fr w.heap.size w6 v6 ((pl ++ [m]).foldl minF [1])) := by
          rw [List.foldl_append, unhide HPP]
          show Fr _ _ _ (trim (pmul p [E m, 1]))
          rw [unhide HX3]
          rcases hF6 with h | ⟨g3, c3, k1, k2, k3, k4, k5⟩
          · exact .inl h
          · exact .inr ⟨g3, c3, k1, k2, k3, k4, by simp at k5; omega⟩
        have HB6 : Hid (Below w.heap.size w w6) := ((unhide HW2).trans ((unhide HB5).mono hzr)).trans (hk6.mono (by simp; omega))
        obtain ⟨av, lv, cv, rfl⟩ := hF6.shape0
        clear hF6 hk6
        go_wp2
        go_roundw
        case rel =>
          refine ⟨m', pl ++ [m], rfl, hm'', by simp, by simp; omega, ?_, unhide HPN, unhide HF6, unhide HB6⟩
          rw [List.length_append, List.length_singleton, ← unhide HM', unhide HMM]
          exact orb_next _ _
        case measure => simp only [intOf, Int.toNat_natCast]; exact unhide HME
  · have h6 : (0 : Int) ≤ n.tmod 255 := by omega
    have h5 : n.tmod 255 = (st : Int) := unhide H2 h6
    go_enter Try.func31, Try.ntmps31
    go_wp2_with fail
    refine (rexp_any (st : Int) _).mono ?_
    rintro e w ⟨rfl, rfl⟩
    rw [unhide HX]
    have HV := hide (arg_two w hXl)
    have HB2 : Hid (Blk (w.alloc (.cells #[.int .u8 (X1 : Int), .int .u8 1] 5)) w.heap.size [X1, 1]) := ⟨_, World.alloc_heap_new w _, fun j hj => two_get j hj⟩
    have HW : Hid (Below w.heap.size w (w.alloc (.cells #[.int .u8 (X1 : Int), .int .u8 1] 5))) := (Below.refl _ w).alloc (Nat.le_refl _) _
    go_wp2_with fail
    go_loopw [3, 4] (fun p q wr => ∃ (m : Nat) (pl : List Nat), q = .int .i64 m ∧ m < 255 ∧ 1 ≤ pl.length ∧ pl.length ≤ 8 ∧ m = st * 2 ^ pl.length % 255 ∧ pl ++ (if m = st then [] else orbF (8 - pl.length) st m) = orb st ∧ Fr w.heap.size wr p (pl.foldl minF [1]) ∧ Below w.heap.size w wr) (fun _ q _ => (leftM st (intOf q).toNat).length)
    case atStart =>
      refine ⟨m1, [st], rfl, hm1l, by simp, by simp, ?_, ?_, ?_, unhide HW⟩
      · rw [← unhide HM1]; simp; omega
      · rw [← unhide HM1]; rfl
      · show Fr _ _ _ (trim (pmul [1] [E st, 1]))
        rw [unhide HX1, one_pmul hXl]
        exact .inr ⟨w.heap.size, 2, rfl, by simp, by unfold maxLen; omega, unhide HB2, Nat.le_refl _⟩
    case round =>
      obtain ⟨m, pl, rfl, hm, hpl1, hpl8, hmm, hp, hF, hW2⟩ := hrel
      have HMM := hide hmm
      have HP := hide hp
      have HW2 := hide hW2
      have hzr := hW2.size
      clear hmm hp hW2 HV HB2 HW
      by_cases he : m = st
      · have he' : ((m : Int) != (st : Int)) = false := by rw [he]; simp
        have HP2 := unhide HP
        rw [if_pos he, List.append_nil] at HP2
        rw [HP2] at hF
        have HF := hide hF
        obtain ⟨av, lv, cv, rfl⟩ := hF.shape0
        clear HP2 hF
        go_wp2
        go_ret
        exact ⟨_, rfl, unhide HF, unhide HW2⟩
      · have he' : ((m : Int) != (st : Int)) = true := by rw [bne_iff_ne]; omega
        have HP2 := unhide HP
        rw [if_neg he] at HP2
        have HP3 := hide HP2
        clear HP2
        have hp7 : pl.length ≤ 7 := by
          have h := orb_facts ⟨st, hst2⟩ ⟨pl.length - 1, by omega⟩
          dsimp only at h
          rw [orb_next, show pl.length - 1 + 1 = pl.length from by omega, ← unhide HMM] at h
          have := (h.resolve_left he).1
          omega
        obtain ⟨m', hm'⟩ : ∃ m', 2 * m % 255 = m' := ⟨_, rfl⟩
        have hm'' : m' < 255 := by omega
        have htw2 : ((2 : Int) * (m : Int)).tmod 255 = (m' : Int) := by rw [twice_eq hm, hm']
        have HM' := hide hm'
        clear hm'
        have HME : Hid ((leftM st m').length < (leftM st m).length) := by
          show _ < _
          unfold leftM
          rw [if_neg he]
          by_cases e2 : m' = st
          · rw [if_pos e2]; simp [orbF]
          · rw [if_neg e2]
            have h := orb_facts ⟨st, hst2⟩ ⟨pl.length, by omega⟩
            dsimp only at h
            rw [← unhide HMM, unhide HM'] at h
            exact (h.resolve_left e2).2
        have HPN : Hid ((pl ++ [m]) ++ (if m' = st then [] else orbF (8 - (pl ++ [m]).length) st m') = orb st) := by
          show _ = _
          have h := unhide HP3
          obtain ⟨k, hk⟩ : ∃ k, 8 - pl.length = k + 1 := ⟨8 - pl.length - 1, by omega⟩
          rw [hk, orbF, unhide HM'] at h
          rw [← h, List.length_append, List.length_singleton, show 8 - (pl.length + 1) = k from by omega, List.append_assoc]
          rfl
        obtain ⟨p, hpp⟩ : ∃ p, pl.foldl minF [1] = p := ⟨_, rfl⟩
        have hplen : p.length ≤ 100 := by
          have := minF_len pl [1]
          rw [hpp] at this
          simp at this
          omega
        have hpb : Bs p := by rw [← hpp]; exact minF_bs _ (Bs.cons (by omega) Bs.nil)
        rw [hpp] at hF
        have HPP := hide hpp
        clear hpp
        obtain ⟨g, hA, hg⟩ := hF.arg hpb
        obtain ⟨⟨ao, c, rfl, ha1, ha2, ha3, ha4⟩, _⟩ := hA
        have HA : Hid (Arg wr (.slice ao p.length c) g p) := ⟨⟨ao, c, rfl, ha1, ha2, ha3, ha4⟩, hpb⟩
        clear ha1 ha2 ha3 ha4 hF
        obtain ⟨X2, hX2⟩ : ∃ x, E m = x := ⟨_, rfl⟩
        have hX2l : X2 < 256 := by rw [← hX2]; exact E_lt m
        have HX2 : Hid (X (m : Int) = X2) := by show _ = _; rw [X_nat]; exact hX2
        have HX3 := hide hX2
        clear hX2
        go_wp2_with fail
        refine (rexp_any (m : Int) _).mono ?_
        rintro e w5 ⟨rfl, rfl⟩
        rw [unhide HX2]
        have HV5 := hide (arg_two w5 hX2l)
        have HB5 : Hid (Below w5.heap.size w5 (w5.alloc (.cells #[.int .u8 (X2 : Int), .int .u8 1] 5))) := (Below.refl _ w5).alloc (Nat.le_refl _) _
        go_wp2_with fail
        refine (rpmul_any _ _ g w5.heap.size p [X2, 1] _ ((unhide HA).below (unhide HB5)) (unhide HV5) (by omega) (by simp)).mono ?_
        rintro e w6 ⟨v6, rfl, hF6, hk6⟩
        have HF6 : Hid (Fr w.heap.size w6 v6 ((pl ++ [m]).foldl minF [1])) := by
          rw [List.foldl_append, unhide HPP]
          show Fr _ _ _ (trim (pmul p [E m, 1]))
          rw [unhide HX3]
          rcases hF6 with h | ⟨g3, c3, k1, k2, k3, k4, k5⟩
          · exact .inl h
          · exact .inr ⟨g3, c3, k1, k2, k3, k4, by simp at k5; omega⟩
        have HB6 : Hid (Below w.heap.size w w6) := ((unhide HW2).trans ((unhide HB5).mono hzr)).trans (hk6.mono (by simp; omega))
        obtain ⟨av, lv, cv, rfl⟩ := hF6.shape0
        clear hF6 hk6
        go_wp2
        go_roundw
        case rel =>
          refine ⟨m', pl ++ [m], rfl, hm'', by simp, by simp; omega, ?_, unhide HPN, unhide HF6, unhide HB6⟩
          rw [List.length_append, List.length_singleton, ← unhide HM', unhide HMM]
          exact orb_next _ _
        case measure => simp only [intOf, Int.toNat_natCast]; exact unhide HME

end Go.Proofs.Ytkhpoomajebgoab

namespace Go.Proofs.Ytkhpoomajebgoab
open Go.RowKit

set_option maxRecDepth 100000 in
set_option maxHeartbeats 4000000 in
theorem rgen_any (w : World) : Calls Try.prog 19 #[] w fun e w' => ∃ v, e = .returned v ∧ Fr w.heap.size w' v genP ∧ Below w.heap.size w w' := by
  have HF1 := hide (one_fr w)
  have HK1 : Hid (Below w.heap.size w (w.alloc (.cells #[.int .u8 1] 5))) := (Below.refl _ w).alloc (Nat.le_refl _) _
  go_enter Try.func19, Try.ntmps19
  go_wp2_with fail
  go_loopw [1, 2] (fun v p wr => ∃ (k : Nat), k ≤ 4 ∧ p = .int .i64 (2 * (k : Int) + 1) ∧ Fr w.heap.size wr v (genK k) ∧ Below w.heap.size w wr) (fun _ p _ => 9 - (intOf p).toNat)
  case atStart => exact ⟨0, by omega, rfl, unhide HF1, unhide HK1⟩
  case round =>
    obtain ⟨k, hk, rfl, hF, hK⟩ := hrel
    have HF := hide hF
    have HK := hide hK
    clear hF hK
    by_cases hlt : k < 4
    · have hsz := (unhide HK).size
      obtain ⟨m, hm⟩ : ∃ m : Int, 2 * (k : Int) + 1 = m := ⟨_, rfl⟩
      have hm8 : m < 8 := by omega
      have hm0 : 1 ≤ m := by omega
      have HM := hide hm
      rw [hm]
      clear hm
      go_wp2_with fail
      refine (rminimal_any m wr).mono ?_
      rintro e w2 ⟨v2, rfl, hF2, hk2⟩
      rw [show (m % 255).toNat = 2 * k + 1 from by have := unhide HM; omega] at hF2
      obtain ⟨g1, hA1, hg1⟩ := (unhide HF).arg (genK_bs k)
      have HA1 := hide (hA1.below hk2)
      obtain ⟨g2, hA2, hg2⟩ := hF2.arg (minP_bs _)
      have HA2 := hide hA2
      have HK2 := hide ((unhide HK).trans (hk2.mono hsz))
      clear hA1 hA2 hF2 hk2
      go_wp2_with fail
      refine (rpmul_any _ _ _ _ _ _ _ (unhide HA1) (unhide HA2) (by have := genK_len k; omega) (by have := minP_len (2 * k + 1); omega)).mono ?_
      rintro e w3 ⟨v3, rfl, hF3, hk3⟩
      rw [genK_next hlt] at hF3
      have hsz2 := (unhide HK2).size
      have HF3 := hide (hF3.below (Below.refl _ _) hsz2)
      have HK3 := hide ((unhide HK2).trans (hk3.mono hsz2))
      clear hF3 hk3
      go_wp2_with fail
      go_roundw
      case rel => exact ⟨k + 1, by omega, by have := unhide HM; go_num, unhide HF3, unhide HK3⟩
      case measure => simp [intOf]; omega
    · have hk4 : k = 4 := by omega
      subst hk4
      go_wp2
      go_ret
      exact ⟨_, rfl, unhide HF, unhide HK⟩

set_option maxRecDepth 100000 in
set_option maxHeartbeats 2000000 in
theorem rbit_any (v : Value) (g : Nat) (s : List Nat) (k : Nat) (w : World) (hA : Arg w v g s) (hs : s.length ≤ 1000) (hk : k < 8 * s.length) :
    Calls Try.prog 20 #[v, .int .i64 (k : Int)] w fun e w' => e = .returned (.int .u8 ((cf (wb s) k : Nat) : Int)) ∧ w' = w := by
  obtain ⟨⟨ao, c, rfl, hc1, hc2, hnil, hr⟩, hbs⟩ := hA
  obtain ⟨o, rfl⟩ := row_some hr (by omega)
  have hc := row_cell hr (j := k / 8) (by omega)
  have hk1 : (k : Int) / 8 < (s.length : Int) := by omega
  have hk8 : k / 8 < s.length := by omega
  have q1 := bit_u8 (k % 8) (hbs (k / 8))
  have HW := hide (cf_wb s k)
  clear hr hnil
  go_enter Try.func20, Try.ntmps20
  go_wp2
  go_ret
  rw [unhide HW]
  exact ⟨rfl, rfl⟩

end Go.Proofs.Ytkhpoomajebgoab

namespace Go.Proofs.Ytkhpoomajebgoab
open Go.RowKit

theorem flips_take {s l : List Nat} {i : Nat} (h : i < l.length) : flips s (l.take (i + 1)) = flip1 (flips s (l.take i)) (cf l i) := by
  have : l.take (i + 1) = l.take i ++ [cf l i] := by
    rw [List.take_succ_eq_append_getElem h]
    have := cf_get h
    rw [List.getElem?_eq_getElem h] at this
    simp at this
    rw [this]
  rw [this, flips, List.foldl_append]
  rfl
end Go.Proofs.Ytkhpoomajebgoab
