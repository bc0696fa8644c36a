/-
  The walk of PolyMinimal.
-/
import Derived.Test.YtibmfblppjcenaaLk
import Derived.Test.YtibmfblppjcenaaRe
import Derived.Test.YtibmfblppjcenaaGri3
namespace Go.Proofs.Ytibmfblppjcenaa
open Go.RowKit

theorem minP_facts : ∀ n : Fin 255, minP (2 * n.val % 255) = minP n.val ∧ ev (minP n.val) (E n.val) = 0 ∧ 2 ≤ (minP n.val).length ∧ (minP n.val).all (fun x => decide (x ≤ 1)) = true := by decide +kernel

theorem minP_orb (st k : Nat) (h : st < 255) : minP (st * 2 ^ k % 255) = minP st := by
  induction k with
  | zero => rw [Nat.pow_zero, Nat.mul_one, Nat.mod_eq_of_lt h]
  | succ k ih =>
    rw [← orb_next, ← ih]
    exact (minP_facts ⟨st * 2 ^ k % 255, Nat.mod_lt _ (by omega)⟩).1

theorem minP_bit {st : Nat} (h : st < 255) (i : Nat) : cf (minP st) i ≤ 1 := by
  have h1 := List.all_eq_true.1 (minP_facts ⟨st, h⟩).2.2.2
  by_cases hi : i < (minP st).length
  · have := h1 _ (List.mem_of_getElem? (cf_get hi))
    exact of_decide_eq_true this
  · rw [cf_ge (by omega)]; omega

theorem Arg.parts {w : World} {ao : Option Addr} {n c g : Nat} {s : List Nat} (h : Arg w (.slice ao n c) g s) : Row w ao g (ints s) ∧ (ao = none → n = 0 ∧ c = 0) := by
  obtain ⟨⟨ao', c', h1, h2, h3, h4, h5⟩, _⟩ := h
  cases h1
  exact ⟨h5, fun e => by have := h4 e; omega⟩

set_option maxRecDepth 100000 in
set_option maxHeartbeats 16000000 in
theorem minimal_walk (n : Int) (w : World) :
    Calls Try.prog 6 #[.int .i64 n] w fun x w' => x = .returned (.bool true) ∧ Below w.heap.size w w' := by
  obtain ⟨st, hst⟩ : ∃ st : Nat, n % 255 = (st : Int) := ⟨(n % 255).toNat, by omega⟩
  have hst2 : st < 255 := by omega
  have HST := hide hst
  obtain ⟨p, ep⟩ : ∃ p, minP st = p := ⟨_, rfl⟩
  have bp : Bs p := by rw [← ep]; exact minF_bs _ (Bs.cons (by omega) Bs.nil)
  have lp : 2 ≤ p.length := by rw [← ep]; exact (minP_facts ⟨st, hst2⟩).2.2.1
  have lp2 : p.length ≤ 9 := by
    rw [← ep]
    have h := minF_len (orb st) [1]
    have h8 : ∀ k s m, (orbF k s m).length ≤ k := by
      intro k
      induction k with
      | zero => intro s m; simp [orbF]
      | succ k ih =>
        intro s m
        rw [orbF]
        split
        · simp
        · simpa using ih s _
    have h9 := h8 8 st st
    simp only [List.length_singleton] at h
    show ((orb st).foldl minF [1]).length ≤ 9
    have : (orb st).length ≤ 8 := h9
    omega
  have HBIT : Hid (∀ i, cf p i ≤ 1) := fun i => by rw [← ep]; exact minP_bit hst2 i
  have EP : Hid (minP (n % 255).toNat = p) := by show _ = _; rw [hst, Int.toNat_natCast]; exact ep
  have HEP := hide ep
  have lp' : (2 : Int) ≤ (p.length : Int) := by omega
  clear ep hst
  go_enter Try.func6, Try.ntmps6
  go_wp2_with fail
  refine (known_any w).mono ?_
  rintro x w0 ⟨rfl, hk⟩
  have HT := hide hk
  clear hk
  go_wp2_with fail
  refine (minimal_any n _).mono ?_
  rintro e w1 ⟨v1, rfl, hF, hk⟩
  rw [unhide EP] at hF
  have HK1 : Hid (Below w0.heap.size w0 w1) := hk
  clear hk
  replace HT := hide ((unhide HT).trans ((unhide HK1).mono (unhide HT).size))
  obtain ⟨g1, hA, hge⟩ := hF.arg bp
  obtain ⟨⟨ao1, c1, rfl, h1, h2, h3, h4⟩, _⟩ := hA
  have HA1 : Hid (Arg w1 (.slice ao1 p.length c1) g1 p) := ⟨⟨ao1, c1, rfl, h1, h2, h3, h4⟩, bp⟩
  clear h1 h2 h3 h4 hF hge
  obtain ⟨o1, rfl⟩ := row_some (unhide HA1).parts.1 (by omega)
  go_wp2_with fail
  replace HT := hide ((unhide HT).drew)
  replace HA1 := hide ((unhide HA1).below (Below.refl _ _).drew)
  refine wp_region_noPanic ?_
  refine wp_region_held_drew (S := fun W => Below w1.drew.heap.size w1.drew W) (by kernel_rfl) (Below.refl _ _) (fun hHeld => ?_)
  have HH := hide hHeld
  clear hHeld
  refine takeL (i := 0) (v := ?_) rfl (by kernel_rfl) (by kernel_rfl) (by kernel_rfl) (fun _ _ _ h => h) (Or.inl ⟨by rfl, ?_⟩) (unhide HH) ?_
  rotate_left 1
  · intro W hSW; go_simp; all_goals (with_reducible rfl)
  (try simp only [Act.put, List.setIfInBounds_toArray, List.set_cons_zero, List.set_cons_succ])
  refine takeL (i := 1) (v := ?_) rfl (by kernel_rfl) (by kernel_rfl) (by kernel_rfl) (fun _ _ _ h => h) (Or.inl ⟨by rfl, ?_⟩) (unhide HH) ?_
  rotate_left 1
  · intro W1 hSW; have hcv := conv_arg ((unhide HA1).below hSW); clear hSW; go_simp; all_goals (with_reducible rfl)
  (try simp only [Act.put, List.setIfInBounds_toArray, List.set_cons_zero, List.set_cons_succ])
  refine takeL (i := 2) (v := ?_) rfl (by kernel_rfl) (by kernel_rfl) (by kernel_rfl) (fun _ _ _ h => h) (Or.inl ⟨by rfl, ?_⟩) (unhide HH) ?_
  rotate_left 1
  · intro W hSW; go_simp; all_goals (with_reducible rfl)
  (try simp only [Act.put, List.setIfInBounds_toArray, List.set_cons_zero, List.set_cons_succ])
  refine wpAnyH_ready (rs := [3]) (by kernel_rfl) (by simp) ?_
  refine consL rfl (fun K hK => ?_) AllReadyH.nil
  go_simp
  refine (rminimal_any n _).mono ?_
  rintro e w2 ⟨v2, rfl, hF, hk⟩
  rw [unhide EP] at hF
  have HK2 : Hid (Below w1.drew.heap.size w1.drew w2) := hk
  clear hk
  replace HT := hide ((unhide HT).trans ((unhide HK2).mono (unhide HT).size))
  replace HA1 := hide ((unhide HA1).below (unhide HK2))
  obtain ⟨g2, hA, hge⟩ := hF.arg bp
  obtain ⟨⟨ao2, c2, rfl, h1, h2, h3, h4⟩, _⟩ := hA
  have HA2 : Hid (Arg w2 (.slice ao2 p.length c2) g2 p) := ⟨⟨ao2, c2, rfl, h1, h2, h3, h4⟩, bp⟩
  clear h1 h2 h3 h4 hF hge
  go_wp2_with fail
  refine hK.out _ _ (unhide HK2) (fun hHeld => ?_)
  clear hK K HH hHeld
  (try simp only [Act.put, List.setIfInBounds_toArray, List.set_cons_zero, List.set_cons_succ])
  refine stronger (S' := fun W => Below w2.heap.size w2 W) (fun W h => (unhide HK2).trans (h.mono (unhide HK2).size)) _ _ _ _ ?_
  have HH : Hid (Below w2.heap.size w2 w2) := Below.refl _ _
  refine takeL (i := 4) (v := ?_) rfl (by kernel_rfl) (by kernel_rfl) (by kernel_rfl) (fun _ _ _ h => h) (Or.inl ⟨by rfl, ?_⟩) (unhide HH) ?_
  rotate_left 1
  · intro W1 hSW; have hcv := conv_arg ((unhide HA2).below hSW); clear hSW; go_simp; all_goals (with_reducible rfl)
  (try simp only [Act.put, List.setIfInBounds_toArray, List.set_cons_zero, List.set_cons_succ])
  refine takeL (i := 5) (v := ?_) rfl (by kernel_rfl) (by kernel_rfl) (by kernel_rfl) (fun _ _ _ h => h) (Or.inl ⟨by rfl, ?_⟩) (unhide HH) ?_
  rotate_left 1
  · intro W hSW; go_simp; all_goals (with_reducible rfl)
  (try simp only [Act.put, List.setIfInBounds_toArray, List.set_cons_zero, List.set_cons_succ])
  refine takeL (i := 6) (v := ?_) rfl (by kernel_rfl) (by kernel_rfl) (by kernel_rfl) (fun _ _ _ h => h) (Or.inl ⟨by rfl, ?_⟩) (unhide HH) ?_
  rotate_left 1
  · intro W hSW; go_simp; all_goals (with_reducible rfl)
  (try simp only [Act.put, List.setIfInBounds_toArray, List.set_cons_zero, List.set_cons_succ])
  refine takeL (i := 7) (v := ?_) rfl (by kernel_rfl) (by kernel_rfl) (by kernel_rfl) (fun _ _ _ h => h) (Or.inl ⟨by rfl, ?_⟩) (unhide HH) ?_
  rotate_left 1
  · intro W hSW; go_simp; all_goals (with_reducible rfl)
  (try simp only [Act.put, List.setIfInBounds_toArray, List.set_cons_zero, List.set_cons_succ])
  refine takeL (i := 8) (v := ?_) rfl (by kernel_rfl) (by kernel_rfl) (by kernel_rfl) (fun _ _ _ h => h) (Or.inl ⟨by rfl, ?_⟩) (unhide HH) ?_
  rotate_left 1
  · intro W hSW; go_simp; all_goals (with_reducible rfl)
  (try simp only [Act.put, List.setIfInBounds_toArray, List.set_cons_zero, List.set_cons_succ])
  refine takeL (i := 9) (v := ?_) rfl (by kernel_rfl) (by kernel_rfl) (by kernel_rfl) (fun _ _ _ h => h) (Or.inl ⟨by rfl, ?_⟩) (unhide HH) ?_
  rotate_left 1
  · intro W hSW; go_simp; all_goals (with_reducible rfl)
  (try simp only [Act.put, List.setIfInBounds_toArray, List.set_cons_zero, List.set_cons_succ])
  refine takeL (i := 10) (v := ?_) rfl (by kernel_rfl) (by kernel_rfl) (by kernel_rfl) (fun _ _ _ h => h) (Or.inl ⟨by rfl, ?_⟩) (unhide HH) ?_
  rotate_left 1
  · intro W hSW; go_simp; all_goals (with_reducible rfl)
  (try simp only [Act.put, List.setIfInBounds_toArray, List.set_cons_zero, List.set_cons_succ])
  refine wpAnyH_done (by kernel_rfl) ?_ _
  refine NoPanic.normal ?_
  go_wp2_with fail
  clear HH
  obtain ⟨wl, hwl⟩ : ∃ wl, w2 = wl := ⟨_, rfl⟩
  rw [hwl] at HT HA1 ⊢
  clear hwl
  go_loop [4] (fun q => ∃ i : Nat, q = .int .i64 i ∧ i ≤ p.length) (fun q => p.length - (intOf q).toNat)
  case atStart => exact ⟨0, rfl, by omega⟩
  case round =>
    obtain ⟨i, rfl, hi⟩ := hrel
    by_cases hlt : i < p.length
    · have hi1 : (i : Int) < (p.length : Int) := by omega
      have hc := row_cell (unhide HA1).parts.1 hlt
      have hb : ((cf p i : Nat) : Int) ≤ 1 := by have := unhide HBIT i; omega
      go_wp2
      go_round
      case rel => exact ⟨i + 1, by go_num, by omega⟩
      case measure => simp [intOf]; omega
    · have hi1 : (p.length : Int) ≤ (i : Int) := by omega
      go_wp2_with fail
      refine (within_any n 255 _ (by omega) (by omega)).mono ?_
      rintro e wm ⟨rfl, hwm⟩
      rw [hwm, unhide HST]
      clear hwm wm
      go_wp2_with fail
      go_loopw [5, 6] (fun q r wr => ∃ (k m : Nat), r = .int .i64 k ∧ k ≤ 8 ∧ q = .int .i64 m ∧ m = st * 2 ^ k % 255 ∧ m < 255 ∧ Below w.heap.size w wr ∧ Arg wr (.slice (some ⟨g1, o1, none⟩) p.length c1) g1 p) (fun _ r _ => 8 - (intOf r).toNat)
      case atStart => exact ⟨0, st, rfl, by omega, rfl, by rw [Nat.pow_zero, Nat.mul_one, Nat.mod_eq_of_lt hst2], hst2, unhide HT, unhide HA1⟩
      case round =>
        obtain ⟨k, m, rfl, hk, rfl, hmk, hm, hT, hA1⟩ := hrel
        replace HT := hide hT
        replace HA1 := hide hA1
        have HMK := hide hmk
        clear hT hA1 hmk
        by_cases hlt2 : k < 8
        · have hk1 : (k : Int) < 8 := by omega
          have emp : minP m = p := by rw [unhide HMK, minP_orb st k hst2]; exact unhide HEP
          obtain ⟨y, ey⟩ : ∃ y, E m = y := ⟨_, rfl⟩
          have hyl : y < 256 := by rw [← ey]; exact E_lt m
          have EX : Hid (X (m : Int) = y) := by show _ = _; rw [X_nat]; exact ey
          have EV : Hid (ev p y = 0) := by show _ = _; rw [← ey, ← emp]; exact (minP_facts ⟨m, hm⟩).2.1
          have EM : Hid (minP ((m : Int) % 255).toNat = p) := by show _ = _; rw [show ((m : Int) % 255).toNat = m from by omega]; exact emp
          obtain ⟨m', hm'⟩ : ∃ m', 2 * m % 255 = m' := ⟨_, rfl⟩
          have hml : m' < 255 := by omega
          have htw : ((2 : Int) * (m : Int)).tmod 255 = (m' : Int) := by rw [twice_eq hm, hm']
          have HMM : Hid (m' = st * 2 ^ (k + 1) % 255) := by show _ = _; rw [← hm', unhide HMK]; exact orb_next _ _
          clear emp ey hm'
          go_wp2_with fail
          replace HT := hide ((unhide HT).drew)
          replace HA1 := hide ((unhide HA1).below (Below.refl _ _).drew)
          refine wp_region_noPanic ?_
          refine wp_region_held_drew (S := fun W => Below wr.drew.heap.size wr.drew W) (by kernel_rfl) (Below.refl _ _) (fun hHeld => ?_)
          have HH := hide hHeld
          clear hHeld
          refine takeL (i := 0) (v := ?_) rfl (by kernel_rfl) (by kernel_rfl) (by kernel_rfl) (fun _ _ _ h => h) (Or.inl ⟨by rfl, ?_⟩) (unhide HH) ?_
          rotate_left 1
          · intro W hSW; go_simp; all_goals (with_reducible rfl)
          (try simp only [Act.put, List.setIfInBounds_toArray, List.set_cons_zero, List.set_cons_succ])
          refine takeL (i := 1) (v := ?_) rfl (by kernel_rfl) (by kernel_rfl) (by kernel_rfl) (fun _ _ _ h => h) (Or.inl ⟨by rfl, ?_⟩) (unhide HH) ?_
          rotate_left 1
          · intro W hSW; go_simp; all_goals (with_reducible rfl)
          (try simp only [Act.put, List.setIfInBounds_toArray, List.set_cons_zero, List.set_cons_succ])
          refine wpAnyH_ready (rs := [2]) (by kernel_rfl) (by simp) ?_
          refine consL rfl (fun K hK => ?_) AllReadyH.nil
          go_simp
          refine (rexp_any (m : Int) _).mono ?_
          rintro e w11 ⟨rfl, hwk⟩
          rw [unhide EX]
          have hk : Below wr.drew.heap.size wr.drew w11 := by rw [hwk]; exact Below.refl _ wr.drew
          clear hwk
          have HK11 : Hid (Below wr.drew.heap.size wr.drew w11) := hk
          clear hk
          replace HT := hide ((unhide HT).trans ((unhide HK11).mono (unhide HT).size))
          replace HA1 := hide ((unhide HA1).below (unhide HK11))
          go_wp2_with fail
          refine hK.out _ _ (unhide HK11) (fun hHeld => ?_)
          clear hK K HH hHeld
          (try simp only [Act.put, List.setIfInBounds_toArray, List.set_cons_zero, List.set_cons_succ])
          refine stronger (S' := fun W => Below w11.heap.size w11 W) (fun W h => (unhide HK11).trans (h.mono (unhide HK11).size)) _ _ _ _ ?_
          have HH : Hid (Below w11.heap.size w11 w11) := Below.refl _ _
          refine wpAnyH_ready (rs := [3]) (by kernel_rfl) (by simp) ?_
          refine consL rfl (fun K hK => ?_) AllReadyH.nil
          go_simp
          refine (eval_any _ _ p y _ (unhide HA1) (by omega) (by omega)).mono ?_
          rintro e w12 ⟨rfl, hk⟩
          rw [unhide EV]
          have HK12 : Hid (Below w11.heap.size w11 w12) := hk
          clear hk
          replace HT := hide ((unhide HT).trans ((unhide HK12).mono (unhide HT).size))
          replace HA1 := hide ((unhide HA1).below (unhide HK12))
          go_wp2_with fail
          refine hK.out _ _ (unhide HK12) (fun hHeld => ?_)
          clear hK K HH hHeld
          (try simp only [Act.put, List.setIfInBounds_toArray, List.set_cons_zero, List.set_cons_succ])
          refine stronger (S' := fun W => Below w12.heap.size w12 W) (fun W h => (unhide HK12).trans (h.mono (unhide HK12).size)) _ _ _ _ ?_
          have HH : Hid (Below w12.heap.size w12 w12) := Below.refl _ _
          refine takeL (i := 4) (v := ?_) rfl (by kernel_rfl) (by kernel_rfl) (by kernel_rfl) (fun _ _ _ h => h) (Or.inl ⟨by rfl, ?_⟩) (unhide HH) ?_
          rotate_left 1
          · intro W hSW; go_simp; all_goals (with_reducible rfl)
          (try simp only [Act.put, List.setIfInBounds_toArray, List.set_cons_zero, List.set_cons_succ])
          refine takeL (i := 5) (v := ?_) rfl (by kernel_rfl) (by kernel_rfl) (by kernel_rfl) (fun _ _ _ h => h) (Or.inl ⟨by rfl, ?_⟩) (unhide HH) ?_
          rotate_left 1
          · intro W hSW; go_simp; all_goals (with_reducible rfl)
          (try simp only [Act.put, List.setIfInBounds_toArray, List.set_cons_zero, List.set_cons_succ])
          refine takeL (i := 6) (v := ?_) rfl (by kernel_rfl) (by kernel_rfl) (by kernel_rfl) (fun _ _ _ h => h) (Or.inl ⟨by rfl, ?_⟩) (unhide HH) ?_
          rotate_left 1
          · intro W hSW; go_simp; all_goals (with_reducible rfl)
          (try simp only [Act.put, List.setIfInBounds_toArray, List.set_cons_zero, List.set_cons_succ])
          refine takeL (i := 9) (v := ?_) rfl (by kernel_rfl) (by kernel_rfl) (by kernel_rfl) (fun _ _ _ h => h) (Or.inl ⟨by rfl, ?_⟩) (unhide HH) ?_
          rotate_left 1
          · intro W hSW; go_simp; all_goals (with_reducible rfl)
          (try simp only [Act.put, List.setIfInBounds_toArray, List.set_cons_zero, List.set_cons_succ])
          refine takeL (i := 10) (v := ?_) rfl (by kernel_rfl) (by kernel_rfl) (by kernel_rfl) (fun _ _ _ h => h) (Or.inl ⟨by rfl, ?_⟩) (unhide HH) ?_
          rotate_left 1
          · intro W1 hSW; have hcv := conv_arg ((unhide HA1).below hSW); clear hSW; go_simp; all_goals (with_reducible rfl)
          (try simp only [Act.put, List.setIfInBounds_toArray, List.set_cons_zero, List.set_cons_succ])
          refine wpAnyH_ready (rs := [7]) (by kernel_rfl) (by simp) ?_
          refine consL rfl (fun K hK => ?_) AllReadyH.nil
          go_simp
          refine (minimal_any (m : Int) _).mono ?_
          rintro e w13 ⟨v13, rfl, hF, hk⟩
          rw [unhide EM] at hF
          have HK13 : Hid (Below w12.heap.size w12 w13) := hk
          clear hk
          replace HT := hide ((unhide HT).trans ((unhide HK13).mono (unhide HT).size))
          replace HA1 := hide ((unhide HA1).below (unhide HK13))
          obtain ⟨g13, hA, hge⟩ := hF.arg bp
          obtain ⟨⟨ao13, c13, rfl, h1, h2, h3, h4⟩, _⟩ := hA
          have HA13 : Hid (Arg w13 (.slice ao13 p.length c13) g13 p) := ⟨⟨ao13, c13, rfl, h1, h2, h3, h4⟩, bp⟩
          clear h1 h2 h3 h4 hF hge
          go_wp2_with fail
          refine hK.out _ _ (unhide HK13) (fun hHeld => ?_)
          clear hK K HH hHeld
          (try simp only [Act.put, List.setIfInBounds_toArray, List.set_cons_zero, List.set_cons_succ])
          refine stronger (S' := fun W => Below w13.heap.size w13 W) (fun W h => (unhide HK13).trans (h.mono (unhide HK13).size)) _ _ _ _ ?_
          have HH : Hid (Below w13.heap.size w13 w13) := Below.refl _ _
          refine takeL (i := 8) (v := ?_) rfl (by kernel_rfl) (by kernel_rfl) (by kernel_rfl) (fun _ _ _ h => h) (Or.inl ⟨by rfl, ?_⟩) (unhide HH) ?_
          rotate_left 1
          · intro W1 hSW; have hcv := conv_arg ((unhide HA13).below hSW); clear hSW; go_simp; all_goals (with_reducible rfl)
          (try simp only [Act.put, List.setIfInBounds_toArray, List.set_cons_zero, List.set_cons_succ])
          refine takeL (i := 11) (v := ?_) rfl (by kernel_rfl) (by kernel_rfl) (by kernel_rfl) (fun _ _ _ h => h) (Or.inl ⟨by rfl, ?_⟩) (unhide HH) ?_
          rotate_left 1
          · intro W hSW; go_simp; all_goals (with_reducible rfl)
          (try simp only [Act.put, List.setIfInBounds_toArray, List.set_cons_zero, List.set_cons_succ])
          refine takeL (i := 12) (v := ?_) rfl (by kernel_rfl) (by kernel_rfl) (by kernel_rfl) (fun _ _ _ h => h) (Or.inl ⟨by rfl, ?_⟩) (unhide HH) ?_
          rotate_left 1
          · intro W hSW; go_simp; all_goals (with_reducible rfl)
          (try simp only [Act.put, List.setIfInBounds_toArray, List.set_cons_zero, List.set_cons_succ])
          refine wpAnyH_done (by kernel_rfl) ?_ _
          refine NoPanic.normal ?_
          clear HH
          go_wp2
          go_roundw
          case rel => exact ⟨k + 1, m', by go_num, by omega, rfl, unhide HMM, hml, unhide HT, unhide HA1⟩
          case measure => simp [intOf]; omega
        · have hk1 : (8 : Int) ≤ (k : Int) := by omega
          go_wp2
          go_ret
          exact ⟨rfl, unhide HT⟩

end Go.Proofs.Ytibmfblppjcenaa
