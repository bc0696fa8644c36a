/-
  The walk of BchSyndromes.
-/
import Derived.Test.YtahjcahmlangiaaLp
import Derived.Test.YtahjcahmlangiaaHp
import Derived.Test.YtahjcahmlangiaaR4s
namespace Go.Proofs.Ytahjcahmlangiaa
open Go.RowKit

theorem Arg.cellAt {w : World} {g o n c : Nat} {s : List Nat} (h : Arg w (.slice (some ⟨g, o, none⟩) n c) g s) {j : Nat} (hj : j < s.length) : w.cell? ⟨g, o + j, none⟩ = some (.int .u8 ((cf s j : Nat) : Int)) := by
  obtain ⟨o', e, hc⟩ := h.cells (fun e => by rw [e] at hj; simp at hj)
  cases e
  exact hc j hj
theorem synF_at (d : List Nat) {i : Nat} (hi : i < 8) : cf (synF d) i = ev (wb d) (E (i + 1)) := by
  rw [synF_eq]
  have : i = 0 ∨ i = 1 ∨ i = 2 ∨ i = 3 ∨ i = 4 ∨ i = 5 ∨ i = 6 ∨ i = 7 := by omega
  rcases this with rfl | rfl | rfl | rfl | rfl | rfl | rfl | rfl <;> rfl
theorem X_succ (i : Nat) : X ((i : Int) + 1) = E (i + 1) := X_nat (i + 1)

set_option maxRecDepth 100000 in
set_option maxHeartbeats 8000000 in
theorem syns_walk (va vb : Value) (ga gb : Nat) (b rw0 : List Nat) (w : World) (hA : Arg w va ga b) (hB : Arg w vb gb rw0) (ao1 : Option Addr) (g1 len1 cap1 : Nat) (zs : List Int) (hz1 : zs.length = len1) (hr1 : IRow w ao1 g1 zs) (hcp1 : len1 ≤ cap1) (hm1 : cap1 ≤ maxLen) (hbo1 : ∀ z ∈ zs, -9223372036854775808 ≤ z ∧ z ≤ 9223372036854775807) :
    Calls Try.prog 4 #[va, .slice ao1 len1 cap1, vb] w fun x w' => x = .returned (.bool true) ∧ Below w.heap.size w w' := by
  have HA := hide hA
  have HB := hide hB
  have HL1 := hide hr1
  clear hr1
  obtain ⟨⟨ao, c, rfl, _⟩, _⟩ := hA
  obtain ⟨⟨bo, d2, rfl, _⟩, _⟩ := hB
  have hmk224 : ∀ w : World, (Instr.makeSlice 22 (.int .i64 224) (.int .i64 224)).run Try.prog w = .ok (.slice (some ⟨w.heap.size, 0, none⟩) 224 224) (w.alloc (.cells (List.replicate 224 (Value.int .u8 0)).toArray 5)) := run_zeros 224 (by omega)
  have HZ224 := hide (fun W : World => zeros_arg 224 (by omega) W)
  have HZB224 := hide (fun W : World => blk_zeros 224 W)
  obtain ⟨z224, hz224⟩ : ∃ z, (List.replicate 224 (Value.int .u8 0)).toArray = z := ⟨_, rfl⟩
  rw [hz224] at HZ224 HZB224
  simp only [hz224] at hmk224
  clear hz224
  by_cases hla : 40 < rw0.length
  · have hla' : (40 : Int) < (rw0.length : Int) := by omega
    go_enter Try.func4, Try.ntmps4
    go_wp2_with fail
    refine (known_any w).mono ?_
    rintro x w1 ⟨rfl, hk1⟩
    have HK1 := hide hk1
    clear hk1
    go_wp2
    go_ret
    exact ⟨rfl, unhide HK1⟩
  · have hla' : (rw0.length : Int) ≤ 40 := by omega
    have hbr : Bs rw0 := (unhide HB).bs
    by_cases h28 : rw0.length = 28
    · have H28 := hide h28
      clear h28
      have HT : Hid (Below w.heap.size w w) := Below.refl _ _
      go_enter Try.func4, Try.ntmps4
      go_wp2_with fail
      refine (known_any _).mono ?_
      rintro e w1 ⟨rfl, hk⟩
      replace HA := hide ((unhide HA).below hk)
      replace HB := hide ((unhide HB).below hk)
      replace HL1 := hide ((unhide HL1).below hk)
      replace HT := hide ((unhide HT).trans (hk.mono (unhide HT).size))
      clear hk
      go_wp2_with fail
      refine (data_any _ _ b 24 (by omega) _ (unhide HA)).mono ?_
      rintro e w2 ⟨v2, d, rfl, hld, hbd, hF, hk⟩
      replace HA := hide ((unhide HA).below hk)
      replace HB := hide ((unhide HB).below hk)
      replace HL1 := hide ((unhide HL1).below hk)
      replace HT := hide ((unhide HT).trans (hk.mono (unhide HT).size))
      obtain ⟨g2, hA, hge⟩ := hF.arg hbd
      obtain ⟨⟨ao2, c2, rfl, h1, h2, h3, h4⟩, _⟩ := hA
      have HA2 : Hid (Arg w2 (.slice ao2 24 c2) g2 (d)) := ⟨⟨ao2, c2, by rw [hld], h1, h2, h3, h4⟩, hbd⟩
      rw [show (d).length = 24 from hld]
      clear h1 h2 h3 h4 hF hge
      clear hk
      go_wp2_with fail
      refine (rencode_any _ _ (d) _ (unhide HA2) hld).mono ?_
      rintro e w3 ⟨v3, rfl, hF, hk⟩
      replace HA := hide ((unhide HA).below hk)
      replace HB := hide ((unhide HB).below hk)
      replace HL1 := hide ((unhide HL1).below hk)
      replace HA2 := hide ((unhide HA2).below hk)
      replace HT := hide ((unhide HT).trans (hk.mono (unhide HT).size))
      obtain ⟨g3, hA, hge⟩ := hF.arg (encF_bs hbd)
      obtain ⟨⟨ao3, c3, rfl, h1, h2, h3, h4⟩, _⟩ := hA
      have HA3 : Hid (Arg w3 (.slice ao3 28 c3) g3 (encF (d))) := ⟨⟨ao3, c3, by rw [(encF_len hld)], h1, h2, h3, h4⟩, (encF_bs hbd)⟩
      rw [show (encF (d)).length = 28 from (encF_len hld)]
      clear h1 h2 h3 h4 hF hge
      clear hk
      go_wp2_with fail
      refine (places_any ao1 g1 len1 cap1 zs hz1 (unhide HL1) hcp1 hm1 hbo1 12 (by omega)).mono ?_
      rintro e w4 ⟨v4, ps, rfl, hnd, hlt, hpl, hO, hk⟩
      replace HA := hide ((unhide HA).below hk)
      replace HB := hide ((unhide HB).below hk)
      replace HL1 := hide ((unhide HL1).below hk)
      replace HA2 := hide ((unhide HA2).below hk)
      replace HA3 := hide ((unhide HA3).below hk)
      replace HT := hide ((unhide HT).trans (hk.mono (unhide HT).size))
      have HPL : Hid (Pl ps) := ⟨hnd, hlt⟩
      obtain ⟨g4, hI, _⟩ := hO.arg
      obtain ⟨ao4, c4, rfl, h1, h2, h3, h4⟩ := hI
      have HPS : Hid (IArg w4 (.slice ao4 ps.length c4) g4 ps) := ⟨ao4, c4, rfl, h1, h2, h3, h4⟩
      clear h1 h2 h3 h4 hO hnd hlt
      clear hk
      go_wp2_with fail
      refine (flip_any _ _ _ _ (encF d) ps _ (unhide HA3) (unhide HPS) (encF_len hld) (unhide HPL).lt (by omega)).mono ?_
      rintro e w5 ⟨v5, rfl, hF, hk⟩
      replace HA := hide ((unhide HA).below hk)
      replace HB := hide ((unhide HB).below hk)
      replace HL1 := hide ((unhide HL1).below hk)
      replace HA2 := hide ((unhide HA2).below hk)
      replace HA3 := hide ((unhide HA3).below hk)
      replace HPS := hide ((unhide HPS).below hk)
      replace HT := hide ((unhide HT).trans (hk.mono (unhide HT).size))
      obtain ⟨fX, hfX⟩ : ∃ f, flips (encF d) ps = f := ⟨_, rfl⟩
      have hflX : fX.length = 28 := by rw [← hfX, flips_len]; exact (encF_len hld)
      have hfbX : Bs fX := by rw [← hfX]; exact flips_bs (encF_bs hbd) _
      rw [hfX] at hF
      have HFX := hide hfX
      clear hfX
      obtain ⟨g5, hA, hge⟩ := hF.arg hfbX
      obtain ⟨⟨ao5, c5, rfl, h1, h2, h3, h4⟩, _⟩ := hA
      have HA5 : Hid (Arg w5 (.slice ao5 28 c5) g5 (fX)) := ⟨⟨ao5, c5, by rw [hflX], h1, h2, h3, h4⟩, hfbX⟩
      rw [show (fX).length = 28 from hflX]
      clear h1 h2 h3 h4 hF hge
      clear hk
      go_wp2_with fail
      refine (syndromes_any _ _ fX _ (unhide HA5) hflX).mono ?_
      rintro e w6 ⟨v6, rfl, hF, hk⟩
      replace HA := hide ((unhide HA).below hk)
      replace HB := hide ((unhide HB).below hk)
      replace HL1 := hide ((unhide HL1).below hk)
      replace HA2 := hide ((unhide HA2).below hk)
      replace HA3 := hide ((unhide HA3).below hk)
      replace HPS := hide ((unhide HPS).below hk)
      replace HA5 := hide ((unhide HA5).below hk)
      replace HT := hide ((unhide HT).trans (hk.mono (unhide HT).size))
      obtain ⟨g6, hA, hge⟩ := hF.arg (synF_bs fX)
      obtain ⟨⟨ao6, c6, rfl, h1, h2, h3, h4⟩, _⟩ := hA
      have HA6 : Hid (Arg w6 (.slice ao6 8 c6) g6 (synF fX)) := ⟨⟨ao6, c6, by rw [(synF_len fX)], h1, h2, h3, h4⟩, (synF_bs fX)⟩
      rw [show (synF fX).length = 8 from (synF_len fX)]
      clear h1 h2 h3 h4 hF hge
      clear hk
      go_wp2_with fail
      replace HT := hide ((unhide HT).drew)
      replace HA := hide ((unhide HA).below (Below.refl _ _).drew)
      replace HB := hide ((unhide HB).below (Below.refl _ _).drew)
      replace HL1 := hide ((unhide HL1).below (Below.refl _ _).drew)
      replace HA2 := hide ((unhide HA2).below (Below.refl _ _).drew)
      replace HA3 := hide ((unhide HA3).below (Below.refl _ _).drew)
      replace HPS := hide ((unhide HPS).below (Below.refl _ _).drew)
      replace HA5 := hide ((unhide HA5).below (Below.refl _ _).drew)
      replace HA6 := hide ((unhide HA6).below (Below.refl _ _).drew)
      refine wp_region_noPanic ?_
      refine wp_region_held_drew (S := fun W => Below w6.drew.heap.size w6.drew W) (by kernel_rfl) (Below.refl _ _) (fun hHeld => ?_)
      have HH := hide hHeld
      clear hHeld
      generalize w6.drew = w7 at HT HA HB HL1 HA2 HA3 HPS HA5 HA6 HH ⊢
      refine takeL (i := 0) (v := ?_) rfl (by kernel_rfl) (by kernel_rfl) (by kernel_rfl) (fun _ _ _ h => h) (Or.inl ⟨by rfl, ?_⟩) (unhide HH) ?_
      rotate_left 1
      · intro W hSW; go_simp; all_goals (with_reducible rfl)
      (try simp only [Act.put, List.setIfInBounds_toArray, List.set_cons_zero, List.set_cons_succ])
      refine takeL (i := 1) (v := ?_) rfl (by kernel_rfl) (by kernel_rfl) (by kernel_rfl) (fun _ _ _ h => h) (Or.inl ⟨by rfl, ?_⟩) (unhide HH) ?_
      rotate_left 1
      · intro W1 hSW; have hcv := conv_arg ((unhide HA6).below hSW); clear hSW; go_simp; all_goals (with_reducible rfl)
      (try simp only [Act.put, List.setIfInBounds_toArray, List.set_cons_zero, List.set_cons_succ])
      refine takeL (i := 2) (v := ?_) rfl (by kernel_rfl) (by kernel_rfl) (by kernel_rfl) (fun _ _ _ h => h) (Or.inl ⟨by rfl, ?_⟩) (unhide HH) ?_
      rotate_left 1
      · intro W hSW; go_simp; all_goals (with_reducible rfl)
      (try simp only [Act.put, List.setIfInBounds_toArray, List.set_cons_zero, List.set_cons_succ])
      refine wpAnyH_ready (rs := [3]) (by kernel_rfl) (by simp) ?_
      refine consL rfl (fun K hK => ?_) AllReadyH.nil
      go_simp
      refine (rsyn_any _ _ fX _ (unhide HA5) hflX).mono ?_
      rintro e w8 ⟨v8, rfl, hF, hk⟩
      replace HA := hide ((unhide HA).below hk)
      replace HB := hide ((unhide HB).below hk)
      replace HL1 := hide ((unhide HL1).below hk)
      replace HA2 := hide ((unhide HA2).below hk)
      replace HA3 := hide ((unhide HA3).below hk)
      replace HPS := hide ((unhide HPS).below hk)
      replace HA5 := hide ((unhide HA5).below hk)
      replace HA6 := hide ((unhide HA6).below hk)
      replace HT := hide ((unhide HT).trans (hk.mono (unhide HT).size))
      obtain ⟨g8, hA, hge⟩ := hF.arg (synF_bs fX)
      obtain ⟨⟨ao8, c8, rfl, h1, h2, h3, h4⟩, _⟩ := hA
      have HA8 : Hid (Arg w8 (.slice ao8 8 c8) g8 (synF fX)) := ⟨⟨ao8, c8, by rw [(synF_len fX)], h1, h2, h3, h4⟩, (synF_bs fX)⟩
      rw [show (synF fX).length = 8 from (synF_len fX)]
      clear h1 h2 h3 h4 hF hge
      go_wp2_with fail
      refine hK.out _ _ hk (fun hHeld => ?_)
      clear hK K HH hHeld
      (try simp only [Act.put, List.setIfInBounds_toArray, List.set_cons_zero, List.set_cons_succ])
      refine stronger (S' := fun W => Below w8.heap.size w8 W) (fun W h => hk.trans (h.mono hk.size)) _ _ _ _ ?_
      have HH : Hid (Below w8.heap.size w8 w8) := Below.refl _ _
      clear hk
      refine takeL (i := 4) (v := ?_) rfl (by kernel_rfl) (by kernel_rfl) (by kernel_rfl) (fun _ _ _ h => h) (Or.inl ⟨by rfl, ?_⟩) (unhide HH) ?_
      rotate_left 1
      · intro W1 hSW; have hcv := conv_arg ((unhide HA8).below hSW); clear hSW; go_simp; all_goals (with_reducible rfl)
      (try simp only [Act.put, List.setIfInBounds_toArray, List.set_cons_zero, List.set_cons_succ])
      refine takeL (i := 5) (v := ?_) rfl (by kernel_rfl) (by kernel_rfl) (by kernel_rfl) (fun _ _ _ h => h) (Or.inl ⟨by rfl, ?_⟩) (unhide HH) ?_
      rotate_left 1
      · intro W hSW; go_simp; all_goals (with_reducible rfl)
      (try simp only [Act.put, List.setIfInBounds_toArray, List.set_cons_zero, List.set_cons_succ])
      refine takeL (i := 6) (v := ?_) rfl (by kernel_rfl) (by kernel_rfl) (by kernel_rfl) (fun _ _ _ h => h) (Or.inl ⟨by rfl, ?_⟩) (unhide HH) ?_
      rotate_left 1
      · intro W hSW; go_simp; all_goals (with_reducible rfl)
      (try simp only [Act.put, List.setIfInBounds_toArray, List.set_cons_zero, List.set_cons_succ])
      refine takeL (i := 7) (v := ?_) rfl (by kernel_rfl) (by kernel_rfl) (by kernel_rfl) (fun _ _ _ h => h) (Or.inl ⟨by rfl, ?_⟩) (unhide HH) ?_
      rotate_left 1
      · intro W hSW; go_simp; all_goals (with_reducible rfl)
      (try simp only [Act.put, List.setIfInBounds_toArray, List.set_cons_zero, List.set_cons_succ])
      refine takeL (i := 10) (v := ?_) rfl (by kernel_rfl) (by kernel_rfl) (by kernel_rfl) (fun _ _ _ h => h) (Or.inl ⟨by rfl, ?_⟩) (unhide HH) ?_
      rotate_left 1
      · intro W hSW; go_simp; all_goals (with_reducible rfl)
      (try simp only [Act.put, List.setIfInBounds_toArray, List.set_cons_zero, List.set_cons_succ])
      refine wpAnyH_ready (rs := [8]) (by kernel_rfl) (by simp) ?_
      refine consL rfl (fun K hK => ?_) AllReadyH.nil
      go_simp
      refine (syndromes_any _ _ rw0 _ (unhide HB) (unhide H28)).mono ?_
      rintro e w9 ⟨v9, rfl, hF, hk⟩
      replace HA := hide ((unhide HA).below hk)
      replace HB := hide ((unhide HB).below hk)
      replace HL1 := hide ((unhide HL1).below hk)
      replace HA2 := hide ((unhide HA2).below hk)
      replace HA3 := hide ((unhide HA3).below hk)
      replace HPS := hide ((unhide HPS).below hk)
      replace HA5 := hide ((unhide HA5).below hk)
      replace HA6 := hide ((unhide HA6).below hk)
      replace HA8 := hide ((unhide HA8).below hk)
      replace HT := hide ((unhide HT).trans (hk.mono (unhide HT).size))
      obtain ⟨g9, hA, hge⟩ := hF.arg (synF_bs rw0)
      obtain ⟨⟨ao9, c9, rfl, h1, h2, h3, h4⟩, _⟩ := hA
      have HA9 : Hid (Arg w9 (.slice ao9 8 c9) g9 (synF rw0)) := ⟨⟨ao9, c9, by rw [(synF_len rw0)], h1, h2, h3, h4⟩, (synF_bs rw0)⟩
      rw [show (synF rw0).length = 8 from (synF_len rw0)]
      clear h1 h2 h3 h4 hF hge
      go_wp2_with fail
      refine hK.out _ _ hk (fun hHeld => ?_)
      clear hK K HH hHeld
      (try simp only [Act.put, List.setIfInBounds_toArray, List.set_cons_zero, List.set_cons_succ])
      refine stronger (S' := fun W => Below w9.heap.size w9 W) (fun W h => hk.trans (h.mono hk.size)) _ _ _ _ ?_
      have HH : Hid (Below w9.heap.size w9 w9) := Below.refl _ _
      clear hk
      refine takeL (i := 9) (v := ?_) rfl (by kernel_rfl) (by kernel_rfl) (by kernel_rfl) (fun _ _ _ h => h) (Or.inl ⟨by rfl, ?_⟩) (unhide HH) ?_
      rotate_left 1
      · intro W1 hSW; have hcv := conv_arg ((unhide HA9).below hSW); clear hSW; go_simp; all_goals (with_reducible rfl)
      (try simp only [Act.put, List.setIfInBounds_toArray, List.set_cons_zero, List.set_cons_succ])
      refine wpAnyH_ready (rs := [11]) (by kernel_rfl) (by simp) ?_
      refine consL rfl (fun K hK => ?_) AllReadyH.nil
      go_simp
      refine (rsyn_any _ _ rw0 _ (unhide HB) (unhide H28)).mono ?_
      rintro e w10 ⟨v10, rfl, hF, hk⟩
      replace HA := hide ((unhide HA).below hk)
      replace HB := hide ((unhide HB).below hk)
      replace HL1 := hide ((unhide HL1).below hk)
      replace HA2 := hide ((unhide HA2).below hk)
      replace HA3 := hide ((unhide HA3).below hk)
      replace HPS := hide ((unhide HPS).below hk)
      replace HA5 := hide ((unhide HA5).below hk)
      replace HA6 := hide ((unhide HA6).below hk)
      replace HA8 := hide ((unhide HA8).below hk)
      replace HA9 := hide ((unhide HA9).below hk)
      replace HT := hide ((unhide HT).trans (hk.mono (unhide HT).size))
      obtain ⟨g10, hA, hge⟩ := hF.arg (synF_bs rw0)
      obtain ⟨⟨ao10, c10, rfl, h1, h2, h3, h4⟩, _⟩ := hA
      have HA10 : Hid (Arg w10 (.slice ao10 8 c10) g10 (synF rw0)) := ⟨⟨ao10, c10, by rw [(synF_len rw0)], h1, h2, h3, h4⟩, (synF_bs rw0)⟩
      rw [show (synF rw0).length = 8 from (synF_len rw0)]
      clear h1 h2 h3 h4 hF hge
      go_wp2_with fail
      refine hK.out _ _ hk (fun hHeld => ?_)
      clear hK K HH hHeld
      (try simp only [Act.put, List.setIfInBounds_toArray, List.set_cons_zero, List.set_cons_succ])
      refine stronger (S' := fun W => Below w10.heap.size w10 W) (fun W h => hk.trans (h.mono hk.size)) _ _ _ _ ?_
      have HH : Hid (Below w10.heap.size w10 w10) := Below.refl _ _
      clear hk
      refine takeL (i := 12) (v := ?_) rfl (by kernel_rfl) (by kernel_rfl) (by kernel_rfl) (fun _ _ _ h => h) (Or.inl ⟨by rfl, ?_⟩) (unhide HH) ?_
      rotate_left 1
      · intro W1 hSW; have hcv := conv_arg ((unhide HA10).below hSW); clear hSW; go_simp; all_goals (with_reducible rfl)
      (try simp only [Act.put, List.setIfInBounds_toArray, List.set_cons_zero, List.set_cons_succ])
      refine takeL (i := 13) (v := ?_) rfl (by kernel_rfl) (by kernel_rfl) (by kernel_rfl) (fun _ _ _ h => h) (Or.inl ⟨by rfl, ?_⟩) (unhide HH) ?_
      rotate_left 1
      · intro W hSW; go_simp; all_goals (with_reducible rfl)
      (try simp only [Act.put, List.setIfInBounds_toArray, List.set_cons_zero, List.set_cons_succ])
      refine takeL (i := 14) (v := ?_) rfl (by kernel_rfl) (by kernel_rfl) (by kernel_rfl) (fun _ _ _ h => h) (Or.inl ⟨by rfl, ?_⟩) (unhide HH) ?_
      rotate_left 1
      · intro W hSW; go_simp; all_goals (with_reducible rfl)
      (try simp only [Act.put, List.setIfInBounds_toArray, List.set_cons_zero, List.set_cons_succ])
      refine takeL (i := 15) (v := ?_) rfl (by kernel_rfl) (by kernel_rfl) (by kernel_rfl) (fun _ _ _ h => h) (Or.inl ⟨by rfl, ?_⟩) (unhide HH) ?_
      rotate_left 1
      · intro W hSW; go_simp; all_goals (with_reducible rfl)
      (try simp only [Act.put, List.setIfInBounds_toArray, List.set_cons_zero, List.set_cons_succ])
      refine takeL (i := 16) (v := ?_) rfl (by kernel_rfl) (by kernel_rfl) (by kernel_rfl) (fun _ _ _ h => h) (Or.inl ⟨by rfl, ?_⟩) (unhide HH) ?_
      rotate_left 1
      · intro W hSW; go_simp; all_goals (with_reducible rfl)
      (try simp only [Act.put, List.setIfInBounds_toArray, List.set_cons_zero, List.set_cons_succ])
      refine takeL (i := 17) (v := ?_) rfl (by kernel_rfl) (by kernel_rfl) (by kernel_rfl) (fun _ _ _ h => h) (Or.inl ⟨by rfl, ?_⟩) (unhide HH) ?_
      rotate_left 1
      · intro W hSW; go_simp; all_goals (with_reducible rfl)
      (try simp only [Act.put, List.setIfInBounds_toArray, List.set_cons_zero, List.set_cons_succ])
      refine takeL (i := 18) (v := ?_) rfl (by kernel_rfl) (by kernel_rfl) (by kernel_rfl) (fun _ _ _ h => h) (Or.inl ⟨by rfl, ?_⟩) (unhide HH) ?_
      rotate_left 1
      · intro W hSW; go_simp; all_goals (with_reducible rfl)
      (try simp only [Act.put, List.setIfInBounds_toArray, List.set_cons_zero, List.set_cons_succ])
      refine takeL (i := 19) (v := ?_) rfl (by kernel_rfl) (by kernel_rfl) (by kernel_rfl) (fun _ _ _ h => h) (Or.inl ⟨by rfl, ?_⟩) (unhide HH) ?_
      rotate_left 1
      · intro W hSW; go_simp; all_goals (with_reducible rfl)
      (try simp only [Act.put, List.setIfInBounds_toArray, List.set_cons_zero, List.set_cons_succ])
      refine wpAnyH_done (by kernel_rfl) ?_ _
      refine NoPanic.normal ?_
      clear HA HB HL1 HPS HA2 HA3 HA8 HA9 HA10
      go_wp2_with fail
      have hg5 := (unhide HA5).lt (ne_len hflX)
      have hg6 := (unhide HA6).lt (ne_len (synF_len fX))
      have hw0 := (unhide HT).size
      have hk : Below w10.heap.size w10 (w10.alloc (.cells z224 5)) := (Below.refl _ _).alloc (Nat.le_refl _) _
      have hA := unhide HZ224 w10
      have hZB := unhide HZB224 w10
      generalize w10.alloc (.cells z224 5) = w11 at hk hA hZB ⊢
      replace HA5 := hide ((unhide HA5).below hk)
      replace HA6 := hide ((unhide HA6).below hk)
      replace HT := hide ((unhide HT).trans (hk.mono (unhide HT).size))
      have HA11 := hide hA
      clear hA
      have HZB := hide hZB
      clear hZB
      clear hk
      clear hmk224 HA11
      obtain ⟨P, hP⟩ : ∃ P, w10.heap.size = P := ⟨_, rfl⟩
      rw [hP] at hg5 hg6 hw0 HZB ⊢
      clear hP
      obtain ⟨oX, eX, _⟩ := (unhide HA5).cells (ne_len hflX)
      cases eX
      obtain ⟨oS, eS, _⟩ := (unhide HA6).cells (ne_len (synF_len fX))
      cases eS
      go_loopw [10] (fun p wr => ∃ (k : Nat) (s : List Nat), p = .int .i64 (k : Int) ∧ k ≤ 224 ∧ s.length = 224 ∧ (∀ j, cf s j = if j < k then cf (wb fX) j else 0) ∧ Blk wr P s ∧ Kp [] w wr ∧ Kp [P] w11 wr) (fun p _ => 224 - (intOf p).toNat)
      case atStart => exact ⟨0, _, rfl, by omega, List.length_replicate, fun j => by rw [cf_zeros]; rfl, unhide HZB, (Kp.refl [] w).ofBelow (unhide HT), Kp.refl _ _⟩
      case round =>
        obtain ⟨k, s, rfl, hk, hsl, hsc, hBk, hK, hK4⟩ := hrel
        have HSC := hide hsc
        have HBk := hide hBk
        have HK := hide hK
        have HK4 := hide hK4
        have HSL := hide hsl
        clear hsc hBk hK hK4 hsl
        by_cases hlt : k < 224
        · have hlt' : (k : Int) < 224 := by omega
          have hc5 := ((unhide HA5).keep (unhide HK4) (by simp; omega)).cellAt (j := k / 8) (by omega)
          have hk1 : (k : Int) / 8 < 28 := by omega
          have hk8 : k / 8 < 28 := by omega
          have q1 := bit_u8 (k % 8) (hfbX (k / 8))
          have HW := hide (cf_wb fX k)
          have hcP := (unhide HBk).cell (j := k) (by rw [unhide HSL]; exact hlt)
          have hfP := (unhide HBk).free (j := k)
          go_wp2_with fail
          go_roundw
          case rel =>
            refine ⟨k + 1, s.set k (cf (wb fX) k), by go_num, by omega, by rw [List.length_set]; exact unhide HSL, ?_, ?_, ((unhide HK).setCell ⟨P, k, none⟩ _ (.inr (by omega))), ((unhide HK4).setCell ⟨P, k, none⟩ _ (.inl (by simp)))⟩
            · intro j
              rw [cf_set _ _ _ _ (by rw [unhide HSL]; exact hlt), unhide HSC]
              by_cases e : j = k
              · rw [if_pos e, if_pos (by omega), e]
              · rw [if_neg e]
                by_cases e2 : j < k
                · rw [if_pos e2, if_pos (by omega)]
                · rw [if_neg e2, if_neg (by omega)]
            · have h := (unhide HBk).set k (cf (wb fX) k) (by rw [unhide HSL]; exact hlt)
              rw [unhide HW] at h ⊢
              exact h
          case measure => simp [intOf]; omega
        · have hk4 : k = 224 := by omega
          subst hk4
          rw [show ((224 : Nat) : Int) = 224 from rfl]
          have hwl : (wb fX).length = 224 := by rw [wb_len, hflX]
          have hsx : s = wb fX := eq_of_cf (by rw [unhide HSL, hwl]) (fun j => by
            rw [unhide HSC]
            by_cases e : j < 224
            · rw [if_pos e]
            · rw [if_neg e, cf_ge (by omega)])
          subst hsx
          have HWL := hide hwl
          clear hwl HSL HSC hk hlt
          replace HA6 := hide ((unhide HA6).keep (unhide HK4) (by simp; omega))
          replace HT := hide (unhide HK).below
          have HZ : Hid (Arg wr (.slice (some ⟨P, 0, none⟩) 224 224) P (wb fX)) := by
            have h := (unhide HBk).arg (wb_bin fX).bs (c := 224) (by rw [unhide HWL]; omega) (by unfold maxLen; omega)
            rw [unhide HWL] at h
            exact h
          clear HA5 HBk HK HK4 HZB
          go_wp2_with fail
          obtain ⟨W9, hW9⟩ : ∃ W, wr = W := ⟨_, rfl⟩
          rw [hW9] at HA6 HT HZ ⊢
          clear hW9
          go_loopw [11] (fun p wr => ∃ (i : Nat), p = .int .i64 ((i : Int) + 1) ∧ i ≤ 8 ∧ Below W9.heap.size W9 wr) (fun p _ => 9 - (intOf p).toNat)
          case atStart => exact ⟨0, rfl, by omega, Below.refl _ _⟩
          case round =>
            obtain ⟨i, rfl, hi, hnd⟩ := hrel
            have HZ2 := hide ((unhide HZ).below hnd)
            have HS2 := hide ((unhide HA6).below hnd)
            have HT2 := HT
            replace HT := hide ((unhide HT).trans (hnd.mono (unhide HT).size))
            have HND := hide hnd
            clear hnd
            by_cases hlt : i < 8
            · have hi1 : (i : Int) + 1 ≤ 8 := by omega
              have q4 : IntKind.i64.wrap (i : Int) = (i : Int) := IntWalk.i64_in _ ⟨by omega, by omega⟩
              have q5 : (i : Int) + 1 - 1 = (i : Int) := by omega
              have hi8 : (i : Int) < 8 := by omega
              have hy0 := synF_at fX hlt
              obtain ⟨y, hy⟩ : ∃ y, ev (wb fX) (E (i + 1)) = y := ⟨_, rfl⟩
              rw [hy] at hy0
              have HY := hide hy
              have HY0 := hide hy0
              clear hy hy0
              go_wp2_with fail
              replace HT := hide ((unhide HT).drew)
              replace HND := hide ((unhide HND).drew)
              replace HZ2 := hide ((unhide HZ2).below (Below.refl _ _).drew)
              replace HS2 := hide ((unhide HS2).below (Below.refl _ _).drew)
              refine wp_region_noPanic ?_
              refine wp_region_held_drew (S := fun W => Below wr.drew.heap.size wr.drew W) (by kernel_rfl) (Below.refl _ _) (fun hHeld => ?_)
              have HH := hide hHeld
              clear hHeld
              generalize wr.drew = w61 at HT HND HZ2 HS2 HH ⊢
              refine takeL (i := 0) (v := ?_) rfl (by kernel_rfl) (by kernel_rfl) (by kernel_rfl) (fun _ _ _ h => h) (Or.inl ⟨by rfl, ?_⟩) (unhide HH) ?_
              rotate_left 1
              · intro W hSW; go_simp; all_goals (with_reducible rfl)
              (try simp only [Act.put, List.setIfInBounds_toArray, List.set_cons_zero, List.set_cons_succ])
              refine takeL (i := 1) (v := ?_) rfl (by kernel_rfl) (by kernel_rfl) (by kernel_rfl) (fun _ _ _ h => h) (Or.inl ⟨by rfl, ?_⟩) (unhide HH) ?_
              rotate_left 1
              · intro W hSW; go_simp; all_goals (with_reducible rfl)
              (try simp only [Act.put, List.setIfInBounds_toArray, List.set_cons_zero, List.set_cons_succ])
              refine takeL (i := 4) (v := ?_) rfl (by kernel_rfl) (by kernel_rfl) (by kernel_rfl) (fun _ _ _ h => h) (Or.inl ⟨by rfl, ?_⟩) (unhide HH) ?_
              rotate_left 1
              · intro W hSW; go_simp; all_goals (with_reducible rfl)
              (try simp only [Act.put, List.setIfInBounds_toArray, List.set_cons_zero, List.set_cons_succ])
              refine takeL (i := 5) (v := ?_) rfl (by kernel_rfl) (by kernel_rfl) (by kernel_rfl) (fun _ _ _ h => h) (Or.inl ⟨by rfl, ?_⟩) (unhide HH) ?_
              rotate_left 1
              · intro W hSW; go_simp; all_goals (with_reducible rfl)
              (try simp only [Act.put, List.setIfInBounds_toArray, List.set_cons_zero, List.set_cons_succ])
              refine takeL (i := 6) (v := ?_) rfl (by kernel_rfl) (by kernel_rfl) (by kernel_rfl) (fun _ _ _ h => h) (Or.inl ⟨by rfl, ?_⟩) (unhide HH) ?_
              rotate_left 1
              · intro W hSW; go_simp; all_goals (with_reducible rfl)
              (try simp only [Act.put, List.setIfInBounds_toArray, List.set_cons_zero, List.set_cons_succ])
              refine takeL (i := 7) (v := ?_) rfl (by kernel_rfl) (by kernel_rfl) (by kernel_rfl) (fun _ _ _ h => h) (Or.inl ⟨by rfl, ?_⟩) (unhide HH) ?_
              rotate_left 1
              · intro W hSW; go_simp; all_goals (with_reducible rfl)
              (try simp only [Act.put, List.setIfInBounds_toArray, List.set_cons_zero, List.set_cons_succ])
              refine takeL (i := 8) (v := ?_) rfl (by kernel_rfl) (by kernel_rfl) (by kernel_rfl) (fun _ _ _ h => h) (Or.inl ⟨by rfl, ?_⟩) (unhide HH) ?_
              rotate_left 1
              · intro W1 hSW; have hc := ((unhide HS2).below hSW).cellAt (j := i) (by rw [synF_len]; omega); rw [unhide HY0] at hc; clear hSW; go_simp; all_goals (with_reducible rfl)
              (try simp only [Act.put, List.setIfInBounds_toArray, List.set_cons_zero, List.set_cons_succ])
              refine wpAnyH_ready (rs := [2]) (by kernel_rfl) (by simp) ?_
              refine consL rfl (fun K hK => ?_) AllReadyH.nil
              go_simp
              refine (rexp_any ((i : Int) + 1) _).mono ?_
              rintro e w62 ⟨rfl, hwk⟩
              have hk : Below w61.heap.size w61 w62 := by rw [hwk]; exact Below.refl _ _
              clear hwk
              rw [X_succ]
              replace HZ2 := hide ((unhide HZ2).below hk)
              replace HS2 := hide ((unhide HS2).below hk)
              replace HND := hide ((unhide HND).trans (hk.mono (unhide HND).size))
              replace HT := hide ((unhide HT).trans (hk.mono (unhide HT).size))
              go_wp2_with fail
              refine hK.out _ _ hk (fun hHeld => ?_)
              clear hK K HH hHeld
              (try simp only [Act.put, List.setIfInBounds_toArray, List.set_cons_zero, List.set_cons_succ])
              refine stronger (S' := fun W => Below w62.heap.size w62 W) (fun W h => hk.trans (h.mono hk.size)) _ _ _ _ ?_
              have HH : Hid (Below w62.heap.size w62 w62) := Below.refl _ _
              clear hk
              refine wpAnyH_ready (rs := [3]) (by kernel_rfl) (by simp) ?_
              refine consL rfl (fun K hK => ?_) AllReadyH.nil
              go_simp
              refine (reval_any _ _ (wb fX) (E (i + 1)) _ (unhide HZ2) (by rw [unhide HWL]; omega) (E_lt _)).mono ?_
              rintro e w63 ⟨rfl, hk⟩
              rw [unhide HY]
              replace HZ2 := hide ((unhide HZ2).below hk)
              replace HS2 := hide ((unhide HS2).below hk)
              replace HND := hide ((unhide HND).trans (hk.mono (unhide HND).size))
              replace HT := hide ((unhide HT).trans (hk.mono (unhide HT).size))
              go_wp2_with fail
              refine hK.out _ _ hk (fun hHeld => ?_)
              clear hK K HH hHeld
              (try simp only [Act.put, List.setIfInBounds_toArray, List.set_cons_zero, List.set_cons_succ])
              refine stronger (S' := fun W => Below w63.heap.size w63 W) (fun W h => hk.trans (h.mono hk.size)) _ _ _ _ ?_
              have HH : Hid (Below w63.heap.size w63 w63) := Below.refl _ _
              clear hk
              refine takeL (i := 9) (v := ?_) rfl (by kernel_rfl) (by kernel_rfl) (by kernel_rfl) (fun _ _ _ h => h) (Or.inl ⟨by rfl, ?_⟩) (unhide HH) ?_
              rotate_left 1
              · intro W hSW; go_simp; all_goals (with_reducible rfl)
              (try simp only [Act.put, List.setIfInBounds_toArray, List.set_cons_zero, List.set_cons_succ])
              refine wpAnyH_done (by kernel_rfl) ?_ _
              refine NoPanic.normal ?_
              go_wp2_with fail
              go_roundw
              case rel => exact ⟨i + 1, by go_num, by omega, unhide HND⟩
              case measure => simp [intOf]; omega
            · have hi9 : i = 8 := by omega
              subst hi9
              go_wp2
              go_ret
              exact ⟨rfl, unhide HT⟩
    · have H28 := hide h28
      clear h28
      have HT : Hid (Below w.heap.size w w) := Below.refl _ _
      go_enter Try.func4, Try.ntmps4
      go_wp2_with fail
      refine (known_any _).mono ?_
      rintro e w1 ⟨rfl, hk⟩
      replace HA := hide ((unhide HA).below hk)
      replace HB := hide ((unhide HB).below hk)
      replace HL1 := hide ((unhide HL1).below hk)
      replace HT := hide ((unhide HT).trans (hk.mono (unhide HT).size))
      clear hk
      go_wp2_with fail
      refine (data_any _ _ b 24 (by omega) _ (unhide HA)).mono ?_
      rintro e w2 ⟨v2, d, rfl, hld, hbd, hF, hk⟩
      replace HA := hide ((unhide HA).below hk)
      replace HB := hide ((unhide HB).below hk)
      replace HL1 := hide ((unhide HL1).below hk)
      replace HT := hide ((unhide HT).trans (hk.mono (unhide HT).size))
      obtain ⟨g2, hA, hge⟩ := hF.arg hbd
      obtain ⟨⟨ao2, c2, rfl, h1, h2, h3, h4⟩, _⟩ := hA
      have HA2 : Hid (Arg w2 (.slice ao2 24 c2) g2 (d)) := ⟨⟨ao2, c2, by rw [hld], h1, h2, h3, h4⟩, hbd⟩
      rw [show (d).length = 24 from hld]
      clear h1 h2 h3 h4 hF hge
      clear hk
      go_wp2_with fail
      refine (rencode_any _ _ (d) _ (unhide HA2) hld).mono ?_
      rintro e w3 ⟨v3, rfl, hF, hk⟩
      replace HA := hide ((unhide HA).below hk)
      replace HB := hide ((unhide HB).below hk)
      replace HL1 := hide ((unhide HL1).below hk)
      replace HA2 := hide ((unhide HA2).below hk)
      replace HT := hide ((unhide HT).trans (hk.mono (unhide HT).size))
      obtain ⟨g3, hA, hge⟩ := hF.arg (encF_bs hbd)
      obtain ⟨⟨ao3, c3, rfl, h1, h2, h3, h4⟩, _⟩ := hA
      have HA3 : Hid (Arg w3 (.slice ao3 28 c3) g3 (encF (d))) := ⟨⟨ao3, c3, by rw [(encF_len hld)], h1, h2, h3, h4⟩, (encF_bs hbd)⟩
      rw [show (encF (d)).length = 28 from (encF_len hld)]
      clear h1 h2 h3 h4 hF hge
      clear hk
      go_wp2_with fail
      refine (places_any ao1 g1 len1 cap1 zs hz1 (unhide HL1) hcp1 hm1 hbo1 12 (by omega)).mono ?_
      rintro e w4 ⟨v4, ps, rfl, hnd, hlt, hpl, hO, hk⟩
      replace HA := hide ((unhide HA).below hk)
      replace HB := hide ((unhide HB).below hk)
      replace HL1 := hide ((unhide HL1).below hk)
      replace HA2 := hide ((unhide HA2).below hk)
      replace HA3 := hide ((unhide HA3).below hk)
      replace HT := hide ((unhide HT).trans (hk.mono (unhide HT).size))
      have HPL : Hid (Pl ps) := ⟨hnd, hlt⟩
      obtain ⟨g4, hI, _⟩ := hO.arg
      obtain ⟨ao4, c4, rfl, h1, h2, h3, h4⟩ := hI
      have HPS : Hid (IArg w4 (.slice ao4 ps.length c4) g4 ps) := ⟨ao4, c4, rfl, h1, h2, h3, h4⟩
      clear h1 h2 h3 h4 hO hnd hlt
      clear hk
      go_wp2_with fail
      refine (flip_any _ _ _ _ (encF d) ps _ (unhide HA3) (unhide HPS) (encF_len hld) (unhide HPL).lt (by omega)).mono ?_
      rintro e w5 ⟨v5, rfl, hF, hk⟩
      replace HA := hide ((unhide HA).below hk)
      replace HB := hide ((unhide HB).below hk)
      replace HL1 := hide ((unhide HL1).below hk)
      replace HA2 := hide ((unhide HA2).below hk)
      replace HA3 := hide ((unhide HA3).below hk)
      replace HPS := hide ((unhide HPS).below hk)
      replace HT := hide ((unhide HT).trans (hk.mono (unhide HT).size))
      obtain ⟨fX, hfX⟩ : ∃ f, flips (encF d) ps = f := ⟨_, rfl⟩
      have hflX : fX.length = 28 := by rw [← hfX, flips_len]; exact (encF_len hld)
      have hfbX : Bs fX := by rw [← hfX]; exact flips_bs (encF_bs hbd) _
      rw [hfX] at hF
      have HFX := hide hfX
      clear hfX
      obtain ⟨g5, hA, hge⟩ := hF.arg hfbX
      obtain ⟨⟨ao5, c5, rfl, h1, h2, h3, h4⟩, _⟩ := hA
      have HA5 : Hid (Arg w5 (.slice ao5 28 c5) g5 (fX)) := ⟨⟨ao5, c5, by rw [hflX], h1, h2, h3, h4⟩, hfbX⟩
      rw [show (fX).length = 28 from hflX]
      clear h1 h2 h3 h4 hF hge
      clear hk
      go_wp2_with fail
      refine (syndromes_any _ _ fX _ (unhide HA5) hflX).mono ?_
      rintro e w6 ⟨v6, rfl, hF, hk⟩
      replace HA := hide ((unhide HA).below hk)
      replace HB := hide ((unhide HB).below hk)
      replace HL1 := hide ((unhide HL1).below hk)
      replace HA2 := hide ((unhide HA2).below hk)
      replace HA3 := hide ((unhide HA3).below hk)
      replace HPS := hide ((unhide HPS).below hk)
      replace HA5 := hide ((unhide HA5).below hk)
      replace HT := hide ((unhide HT).trans (hk.mono (unhide HT).size))
      obtain ⟨g6, hA, hge⟩ := hF.arg (synF_bs fX)
      obtain ⟨⟨ao6, c6, rfl, h1, h2, h3, h4⟩, _⟩ := hA
      have HA6 : Hid (Arg w6 (.slice ao6 8 c6) g6 (synF fX)) := ⟨⟨ao6, c6, by rw [(synF_len fX)], h1, h2, h3, h4⟩, (synF_bs fX)⟩
      rw [show (synF fX).length = 8 from (synF_len fX)]
      clear h1 h2 h3 h4 hF hge
      clear hk
      go_wp2_with fail
      replace HT := hide ((unhide HT).drew)
      replace HA := hide ((unhide HA).below (Below.refl _ _).drew)
      replace HB := hide ((unhide HB).below (Below.refl _ _).drew)
      replace HL1 := hide ((unhide HL1).below (Below.refl _ _).drew)
      replace HA2 := hide ((unhide HA2).below (Below.refl _ _).drew)
      replace HA3 := hide ((unhide HA3).below (Below.refl _ _).drew)
      replace HPS := hide ((unhide HPS).below (Below.refl _ _).drew)
      replace HA5 := hide ((unhide HA5).below (Below.refl _ _).drew)
      replace HA6 := hide ((unhide HA6).below (Below.refl _ _).drew)
      refine wp_region_noPanic ?_
      refine wp_region_held_drew (S := fun W => Below w6.drew.heap.size w6.drew W) (by kernel_rfl) (Below.refl _ _) (fun hHeld => ?_)
      have HH := hide hHeld
      clear hHeld
      generalize w6.drew = w7 at HT HA HB HL1 HA2 HA3 HPS HA5 HA6 HH ⊢
      refine takeL (i := 0) (v := ?_) rfl (by kernel_rfl) (by kernel_rfl) (by kernel_rfl) (fun _ _ _ h => h) (Or.inl ⟨by rfl, ?_⟩) (unhide HH) ?_
      rotate_left 1
      · intro W hSW; go_simp; all_goals (with_reducible rfl)
      (try simp only [Act.put, List.setIfInBounds_toArray, List.set_cons_zero, List.set_cons_succ])
      refine takeL (i := 1) (v := ?_) rfl (by kernel_rfl) (by kernel_rfl) (by kernel_rfl) (fun _ _ _ h => h) (Or.inl ⟨by rfl, ?_⟩) (unhide HH) ?_
      rotate_left 1
      · intro W1 hSW; have hcv := conv_arg ((unhide HA6).below hSW); clear hSW; go_simp; all_goals (with_reducible rfl)
      (try simp only [Act.put, List.setIfInBounds_toArray, List.set_cons_zero, List.set_cons_succ])
      refine takeL (i := 2) (v := ?_) rfl (by kernel_rfl) (by kernel_rfl) (by kernel_rfl) (fun _ _ _ h => h) (Or.inl ⟨by rfl, ?_⟩) (unhide HH) ?_
      rotate_left 1
      · intro W hSW; go_simp; all_goals (with_reducible rfl)
      (try simp only [Act.put, List.setIfInBounds_toArray, List.set_cons_zero, List.set_cons_succ])
      refine wpAnyH_ready (rs := [3]) (by kernel_rfl) (by simp) ?_
      refine consL rfl (fun K hK => ?_) AllReadyH.nil
      go_simp
      refine (rsyn_any _ _ fX _ (unhide HA5) hflX).mono ?_
      rintro e w8 ⟨v8, rfl, hF, hk⟩
      replace HA := hide ((unhide HA).below hk)
      replace HB := hide ((unhide HB).below hk)
      replace HL1 := hide ((unhide HL1).below hk)
      replace HA2 := hide ((unhide HA2).below hk)
      replace HA3 := hide ((unhide HA3).below hk)
      replace HPS := hide ((unhide HPS).below hk)
      replace HA5 := hide ((unhide HA5).below hk)
      replace HA6 := hide ((unhide HA6).below hk)
      replace HT := hide ((unhide HT).trans (hk.mono (unhide HT).size))
      obtain ⟨g8, hA, hge⟩ := hF.arg (synF_bs fX)
      obtain ⟨⟨ao8, c8, rfl, h1, h2, h3, h4⟩, _⟩ := hA
      have HA8 : Hid (Arg w8 (.slice ao8 8 c8) g8 (synF fX)) := ⟨⟨ao8, c8, by rw [(synF_len fX)], h1, h2, h3, h4⟩, (synF_bs fX)⟩
      rw [show (synF fX).length = 8 from (synF_len fX)]
      clear h1 h2 h3 h4 hF hge
      go_wp2_with fail
      refine hK.out _ _ hk (fun hHeld => ?_)
      clear hK K HH hHeld
      (try simp only [Act.put, List.setIfInBounds_toArray, List.set_cons_zero, List.set_cons_succ])
      refine stronger (S' := fun W => Below w8.heap.size w8 W) (fun W h => hk.trans (h.mono hk.size)) _ _ _ _ ?_
      have HH : Hid (Below w8.heap.size w8 w8) := Below.refl _ _
      clear hk
      refine takeL (i := 4) (v := ?_) rfl (by kernel_rfl) (by kernel_rfl) (by kernel_rfl) (fun _ _ _ h => h) (Or.inl ⟨by rfl, ?_⟩) (unhide HH) ?_
      rotate_left 1
      · intro W1 hSW; have hcv := conv_arg ((unhide HA8).below hSW); clear hSW; go_simp; all_goals (with_reducible rfl)
      (try simp only [Act.put, List.setIfInBounds_toArray, List.set_cons_zero, List.set_cons_succ])
      refine takeL (i := 5) (v := ?_) rfl (by kernel_rfl) (by kernel_rfl) (by kernel_rfl) (fun _ _ _ h => h) (Or.inl ⟨by rfl, ?_⟩) (unhide HH) ?_
      rotate_left 1
      · intro W hSW; go_simp; all_goals (with_reducible rfl)
      (try simp only [Act.put, List.setIfInBounds_toArray, List.set_cons_zero, List.set_cons_succ])
      refine takeL (i := 6) (v := ?_) rfl (by kernel_rfl) (by kernel_rfl) (by kernel_rfl) (fun _ _ _ h => h) (Or.inl ⟨by rfl, ?_⟩) (unhide HH) ?_
      rotate_left 1
      · intro W hSW; go_simp; all_goals (with_reducible rfl)
      (try simp only [Act.put, List.setIfInBounds_toArray, List.set_cons_zero, List.set_cons_succ])
      refine takeL (i := 7) (v := ?_) rfl (by kernel_rfl) (by kernel_rfl) (by kernel_rfl) (fun _ _ _ h => h) (Or.inl ⟨by rfl, ?_⟩) (unhide HH) ?_
      rotate_left 1
      · intro W hSW; go_simp; all_goals (with_reducible rfl)
      (try simp only [Act.put, List.setIfInBounds_toArray, List.set_cons_zero, List.set_cons_succ])
      refine takeL (i := 10) (v := ?_) rfl (by kernel_rfl) (by kernel_rfl) (by kernel_rfl) (fun _ _ _ h => h) (Or.inl ⟨by rfl, ?_⟩) (unhide HH) ?_
      rotate_left 1
      · intro W hSW; go_simp; all_goals (with_reducible rfl)
      (try simp only [Act.put, List.setIfInBounds_toArray, List.set_cons_zero, List.set_cons_succ])
      refine wpAnyH_ready (rs := [8]) (by kernel_rfl) (by simp) ?_
      refine consL rfl (fun K hK => ?_) AllReadyH.nil
      go_simp
      refine (syndromes_not _ _ rw0 _ (unhide HB) (unhide H28)).mono ?_
      rintro e w9 ⟨rfl, hwk⟩
      have hk : Below w8.heap.size w8 w9 := by rw [hwk]; exact Below.refl _ _
      clear hwk
      replace HA := hide ((unhide HA).below hk)
      replace HB := hide ((unhide HB).below hk)
      replace HL1 := hide ((unhide HL1).below hk)
      replace HA2 := hide ((unhide HA2).below hk)
      replace HA3 := hide ((unhide HA3).below hk)
      replace HPS := hide ((unhide HPS).below hk)
      replace HA5 := hide ((unhide HA5).below hk)
      replace HA6 := hide ((unhide HA6).below hk)
      replace HA8 := hide ((unhide HA8).below hk)
      replace HT := hide ((unhide HT).trans (hk.mono (unhide HT).size))
      have HA9 : Hid (Arg w9 (.slice none 0 0) 0 []) := ⟨⟨none, 0, rfl, by simp, by simp, fun _ => rfl, .inl rfl⟩, Bs.nil⟩
      go_wp2_with fail
      refine hK.out _ _ hk (fun hHeld => ?_)
      clear hK K HH hHeld
      (try simp only [Act.put, List.setIfInBounds_toArray, List.set_cons_zero, List.set_cons_succ])
      refine stronger (S' := fun W => Below w9.heap.size w9 W) (fun W h => hk.trans (h.mono hk.size)) _ _ _ _ ?_
      have HH : Hid (Below w9.heap.size w9 w9) := Below.refl _ _
      clear hk
      refine takeL (i := 9) (v := ?_) rfl (by kernel_rfl) (by kernel_rfl) (by kernel_rfl) (fun _ _ _ h => h) (Or.inl ⟨by rfl, ?_⟩) (unhide HH) ?_
      rotate_left 1
      · intro W1 hSW; have hcv := conv_arg ((unhide HA9).below hSW); clear hSW; go_simp; all_goals (with_reducible rfl)
      (try simp only [Act.put, List.setIfInBounds_toArray, List.set_cons_zero, List.set_cons_succ])
      refine wpAnyH_ready (rs := [11]) (by kernel_rfl) (by simp) ?_
      refine consL rfl (fun K hK => ?_) AllReadyH.nil
      go_simp
      refine (rsyn_not _ _ rw0 _ (unhide HB) (unhide H28)).mono ?_
      rintro e w10 ⟨rfl, hwk⟩
      have hk : Below w9.heap.size w9 w10 := by rw [hwk]; exact Below.refl _ _
      clear hwk
      replace HA := hide ((unhide HA).below hk)
      replace HB := hide ((unhide HB).below hk)
      replace HL1 := hide ((unhide HL1).below hk)
      replace HA2 := hide ((unhide HA2).below hk)
      replace HA3 := hide ((unhide HA3).below hk)
      replace HPS := hide ((unhide HPS).below hk)
      replace HA5 := hide ((unhide HA5).below hk)
      replace HA6 := hide ((unhide HA6).below hk)
      replace HA8 := hide ((unhide HA8).below hk)
      replace HA9 := hide ((unhide HA9).below hk)
      replace HT := hide ((unhide HT).trans (hk.mono (unhide HT).size))
      have HA10 : Hid (Arg w10 (.slice none 0 0) 0 []) := ⟨⟨none, 0, rfl, by simp, by simp, fun _ => rfl, .inl rfl⟩, Bs.nil⟩
      go_wp2_with fail
      refine hK.out _ _ hk (fun hHeld => ?_)
      clear hK K HH hHeld
      (try simp only [Act.put, List.setIfInBounds_toArray, List.set_cons_zero, List.set_cons_succ])
      refine stronger (S' := fun W => Below w10.heap.size w10 W) (fun W h => hk.trans (h.mono hk.size)) _ _ _ _ ?_
      have HH : Hid (Below w10.heap.size w10 w10) := Below.refl _ _
      clear hk
      refine takeL (i := 12) (v := ?_) rfl (by kernel_rfl) (by kernel_rfl) (by kernel_rfl) (fun _ _ _ h => h) (Or.inl ⟨by rfl, ?_⟩) (unhide HH) ?_
      rotate_left 1
      · intro W1 hSW; have hcv := conv_arg ((unhide HA10).below hSW); clear hSW; go_simp; all_goals (with_reducible rfl)
      (try simp only [Act.put, List.setIfInBounds_toArray, List.set_cons_zero, List.set_cons_succ])
      refine takeL (i := 13) (v := ?_) rfl (by kernel_rfl) (by kernel_rfl) (by kernel_rfl) (fun _ _ _ h => h) (Or.inl ⟨by rfl, ?_⟩) (unhide HH) ?_
      rotate_left 1
      · intro W hSW; go_simp; all_goals (with_reducible rfl)
      (try simp only [Act.put, List.setIfInBounds_toArray, List.set_cons_zero, List.set_cons_succ])
      refine takeL (i := 14) (v := ?_) rfl (by kernel_rfl) (by kernel_rfl) (by kernel_rfl) (fun _ _ _ h => h) (Or.inl ⟨by rfl, ?_⟩) (unhide HH) ?_
      rotate_left 1
      · intro W hSW; go_simp; all_goals (with_reducible rfl)
      (try simp only [Act.put, List.setIfInBounds_toArray, List.set_cons_zero, List.set_cons_succ])
      refine takeL (i := 15) (v := ?_) rfl (by kernel_rfl) (by kernel_rfl) (by kernel_rfl) (fun _ _ _ h => h) (Or.inl ⟨by rfl, ?_⟩) (unhide HH) ?_
      rotate_left 1
      · intro W hSW; go_simp; all_goals (with_reducible rfl)
      (try simp only [Act.put, List.setIfInBounds_toArray, List.set_cons_zero, List.set_cons_succ])
      refine takeL (i := 16) (v := ?_) rfl (by kernel_rfl) (by kernel_rfl) (by kernel_rfl) (fun _ _ _ h => h) (Or.inl ⟨by rfl, ?_⟩) (unhide HH) ?_
      rotate_left 1
      · intro W hSW; go_simp; all_goals (with_reducible rfl)
      (try simp only [Act.put, List.setIfInBounds_toArray, List.set_cons_zero, List.set_cons_succ])
      refine takeL (i := 17) (v := ?_) rfl (by kernel_rfl) (by kernel_rfl) (by kernel_rfl) (fun _ _ _ h => h) (Or.inl ⟨by rfl, ?_⟩) (unhide HH) ?_
      rotate_left 1
      · intro W hSW; go_simp; all_goals (with_reducible rfl)
      (try simp only [Act.put, List.setIfInBounds_toArray, List.set_cons_zero, List.set_cons_succ])
      refine takeL (i := 18) (v := ?_) rfl (by kernel_rfl) (by kernel_rfl) (by kernel_rfl) (fun _ _ _ h => h) (Or.inl ⟨by rfl, ?_⟩) (unhide HH) ?_
      rotate_left 1
      · intro W hSW; go_simp; all_goals (with_reducible rfl)
      (try simp only [Act.put, List.setIfInBounds_toArray, List.set_cons_zero, List.set_cons_succ])
      refine takeL (i := 19) (v := ?_) rfl (by kernel_rfl) (by kernel_rfl) (by kernel_rfl) (fun _ _ _ h => h) (Or.inl ⟨by rfl, ?_⟩) (unhide HH) ?_
      rotate_left 1
      · intro W hSW; go_simp; all_goals (with_reducible rfl)
      (try simp only [Act.put, List.setIfInBounds_toArray, List.set_cons_zero, List.set_cons_succ])
      refine wpAnyH_done (by kernel_rfl) ?_ _
      refine NoPanic.normal ?_
      clear HA HB HL1 HPS HA2 HA3 HA8 HA9 HA10
      go_wp2_with fail
      have hg5 := (unhide HA5).lt (ne_len hflX)
      have hg6 := (unhide HA6).lt (ne_len (synF_len fX))
      have hw0 := (unhide HT).size
      have hk : Below w10.heap.size w10 (w10.alloc (.cells z224 5)) := (Below.refl _ _).alloc (Nat.le_refl _) _
      have hA := unhide HZ224 w10
      have hZB := unhide HZB224 w10
      generalize w10.alloc (.cells z224 5) = w11 at hk hA hZB ⊢
      replace HA5 := hide ((unhide HA5).below hk)
      replace HA6 := hide ((unhide HA6).below hk)
      replace HT := hide ((unhide HT).trans (hk.mono (unhide HT).size))
      have HA11 := hide hA
      clear hA
      have HZB := hide hZB
      clear hZB
      clear hk
      clear hmk224 HA11
      obtain ⟨P, hP⟩ : ∃ P, w10.heap.size = P := ⟨_, rfl⟩
      rw [hP] at hg5 hg6 hw0 HZB ⊢
      clear hP
      obtain ⟨oX, eX, _⟩ := (unhide HA5).cells (ne_len hflX)
      cases eX
      obtain ⟨oS, eS, _⟩ := (unhide HA6).cells (ne_len (synF_len fX))
      cases eS
      go_loopw [10] (fun p wr => ∃ (k : Nat) (s : List Nat), p = .int .i64 (k : Int) ∧ k ≤ 224 ∧ s.length = 224 ∧ (∀ j, cf s j = if j < k then cf (wb fX) j else 0) ∧ Blk wr P s ∧ Kp [] w wr ∧ Kp [P] w11 wr) (fun p _ => 224 - (intOf p).toNat)
      case atStart => exact ⟨0, _, rfl, by omega, List.length_replicate, fun j => by rw [cf_zeros]; rfl, unhide HZB, (Kp.refl [] w).ofBelow (unhide HT), Kp.refl _ _⟩
      case round =>
        obtain ⟨k, s, rfl, hk, hsl, hsc, hBk, hK, hK4⟩ := hrel
        have HSC := hide hsc
        have HBk := hide hBk
        have HK := hide hK
        have HK4 := hide hK4
        have HSL := hide hsl
        clear hsc hBk hK hK4 hsl
        by_cases hlt : k < 224
        · have hlt' : (k : Int) < 224 := by omega
          have hc5 := ((unhide HA5).keep (unhide HK4) (by simp; omega)).cellAt (j := k / 8) (by omega)
          have hk1 : (k : Int) / 8 < 28 := by omega
          have hk8 : k / 8 < 28 := by omega
          have q1 := bit_u8 (k % 8) (hfbX (k / 8))
          have HW := hide (cf_wb fX k)
          have hcP := (unhide HBk).cell (j := k) (by rw [unhide HSL]; exact hlt)
          have hfP := (unhide HBk).free (j := k)
          go_wp2_with fail
          go_roundw
          case rel =>
            refine ⟨k + 1, s.set k (cf (wb fX) k), by go_num, by omega, by rw [List.length_set]; exact unhide HSL, ?_, ?_, ((unhide HK).setCell ⟨P, k, none⟩ _ (.inr (by omega))), ((unhide HK4).setCell ⟨P, k, none⟩ _ (.inl (by simp)))⟩
            · intro j
              rw [cf_set _ _ _ _ (by rw [unhide HSL]; exact hlt), unhide HSC]
              by_cases e : j = k
              · rw [if_pos e, if_pos (by omega), e]
              · rw [if_neg e]
                by_cases e2 : j < k
                · rw [if_pos e2, if_pos (by omega)]
                · rw [if_neg e2, if_neg (by omega)]
            · have h := (unhide HBk).set k (cf (wb fX) k) (by rw [unhide HSL]; exact hlt)
              rw [unhide HW] at h ⊢
              exact h
          case measure => simp [intOf]; omega
        · have hk4 : k = 224 := by omega
          subst hk4
          rw [show ((224 : Nat) : Int) = 224 from rfl]
          have hwl : (wb fX).length = 224 := by rw [wb_len, hflX]
          have hsx : s = wb fX := eq_of_cf (by rw [unhide HSL, hwl]) (fun j => by
            rw [unhide HSC]
            by_cases e : j < 224
            · rw [if_pos e]
            · rw [if_neg e, cf_ge (by omega)])
          subst hsx
          have HWL := hide hwl
          clear hwl HSL HSC hk hlt
          replace HA6 := hide ((unhide HA6).keep (unhide HK4) (by simp; omega))
          replace HT := hide (unhide HK).below
          have HZ : Hid (Arg wr (.slice (some ⟨P, 0, none⟩) 224 224) P (wb fX)) := by
            have h := (unhide HBk).arg (wb_bin fX).bs (c := 224) (by rw [unhide HWL]; omega) (by unfold maxLen; omega)
            rw [unhide HWL] at h
            exact h
          clear HA5 HBk HK HK4 HZB
          go_wp2_with fail
          obtain ⟨W9, hW9⟩ : ∃ W, wr = W := ⟨_, rfl⟩
          rw [hW9] at HA6 HT HZ ⊢
          clear hW9
          go_loopw [11] (fun p wr => ∃ (i : Nat), p = .int .i64 ((i : Int) + 1) ∧ i ≤ 8 ∧ Below W9.heap.size W9 wr) (fun p _ => 9 - (intOf p).toNat)
          case atStart => exact ⟨0, rfl, by omega, Below.refl _ _⟩
          case round =>
            obtain ⟨i, rfl, hi, hnd⟩ := hrel
            have HZ2 := hide ((unhide HZ).below hnd)
            have HS2 := hide ((unhide HA6).below hnd)
            have HT2 := HT
            replace HT := hide ((unhide HT).trans (hnd.mono (unhide HT).size))
            have HND := hide hnd
            clear hnd
            by_cases hlt : i < 8
            · have hi1 : (i : Int) + 1 ≤ 8 := by omega
              have q4 : IntKind.i64.wrap (i : Int) = (i : Int) := IntWalk.i64_in _ ⟨by omega, by omega⟩
              have q5 : (i : Int) + 1 - 1 = (i : Int) := by omega
              have hi8 : (i : Int) < 8 := by omega
              have hy0 := synF_at fX hlt
              obtain ⟨y, hy⟩ : ∃ y, ev (wb fX) (E (i + 1)) = y := ⟨_, rfl⟩
              rw [hy] at hy0
              have HY := hide hy
              have HY0 := hide hy0
              clear hy hy0
              go_wp2_with fail
              replace HT := hide ((unhide HT).drew)
              replace HND := hide ((unhide HND).drew)
              replace HZ2 := hide ((unhide HZ2).below (Below.refl _ _).drew)
              replace HS2 := hide ((unhide HS2).below (Below.refl _ _).drew)
              refine wp_region_noPanic ?_
              refine wp_region_held_drew (S := fun W => Below wr.drew.heap.size wr.drew W) (by kernel_rfl) (Below.refl _ _) (fun hHeld => ?_)
              have HH := hide hHeld
              clear hHeld
              generalize wr.drew = w61 at HT HND HZ2 HS2 HH ⊢
              refine takeL (i := 0) (v := ?_) rfl (by kernel_rfl) (by kernel_rfl) (by kernel_rfl) (fun _ _ _ h => h) (Or.inl ⟨by rfl, ?_⟩) (unhide HH) ?_
              rotate_left 1
              · intro W hSW; go_simp; all_goals (with_reducible rfl)
              (try simp only [Act.put, List.setIfInBounds_toArray, List.set_cons_zero, List.set_cons_succ])
              refine takeL (i := 1) (v := ?_) rfl (by kernel_rfl) (by kernel_rfl) (by kernel_rfl) (fun _ _ _ h => h) (Or.inl ⟨by rfl, ?_⟩) (unhide HH) ?_
              rotate_left 1
              · intro W hSW; go_simp; all_goals (with_reducible rfl)
              (try simp only [Act.put, List.setIfInBounds_toArray, List.set_cons_zero, List.set_cons_succ])
              refine takeL (i := 4) (v := ?_) rfl (by kernel_rfl) (by kernel_rfl) (by kernel_rfl) (fun _ _ _ h => h) (Or.inl ⟨by rfl, ?_⟩) (unhide HH) ?_
              rotate_left 1
              · intro W hSW; go_simp; all_goals (with_reducible rfl)
              (try simp only [Act.put, List.setIfInBounds_toArray, List.set_cons_zero, List.set_cons_succ])
              refine takeL (i := 5) (v := ?_) rfl (by kernel_rfl) (by kernel_rfl) (by kernel_rfl) (fun _ _ _ h => h) (Or.inl ⟨by rfl, ?_⟩) (unhide HH) ?_
              rotate_left 1
              · intro W hSW; go_simp; all_goals (with_reducible rfl)
              (try simp only [Act.put, List.setIfInBounds_toArray, List.set_cons_zero, List.set_cons_succ])
              refine takeL (i := 6) (v := ?_) rfl (by kernel_rfl) (by kernel_rfl) (by kernel_rfl) (fun _ _ _ h => h) (Or.inl ⟨by rfl, ?_⟩) (unhide HH) ?_
              rotate_left 1
              · intro W hSW; go_simp; all_goals (with_reducible rfl)
              (try simp only [Act.put, List.setIfInBounds_toArray, List.set_cons_zero, List.set_cons_succ])
              refine takeL (i := 7) (v := ?_) rfl (by kernel_rfl) (by kernel_rfl) (by kernel_rfl) (fun _ _ _ h => h) (Or.inl ⟨by rfl, ?_⟩) (unhide HH) ?_
              rotate_left 1
              · intro W hSW; go_simp; all_goals (with_reducible rfl)
              (try simp only [Act.put, List.setIfInBounds_toArray, List.set_cons_zero, List.set_cons_succ])
              refine takeL (i := 8) (v := ?_) rfl (by kernel_rfl) (by kernel_rfl) (by kernel_rfl) (fun _ _ _ h => h) (Or.inl ⟨by rfl, ?_⟩) (unhide HH) ?_
              rotate_left 1
              · intro W1 hSW; have hc := ((unhide HS2).below hSW).cellAt (j := i) (by rw [synF_len]; omega); rw [unhide HY0] at hc; clear hSW; go_simp; all_goals (with_reducible rfl)
              (try simp only [Act.put, List.setIfInBounds_toArray, List.set_cons_zero, List.set_cons_succ])
              refine wpAnyH_ready (rs := [2]) (by kernel_rfl) (by simp) ?_
              refine consL rfl (fun K hK => ?_) AllReadyH.nil
              go_simp
              refine (rexp_any ((i : Int) + 1) _).mono ?_
              rintro e w62 ⟨rfl, hwk⟩
              have hk : Below w61.heap.size w61 w62 := by rw [hwk]; exact Below.refl _ _
              clear hwk
              rw [X_succ]
              replace HZ2 := hide ((unhide HZ2).below hk)
              replace HS2 := hide ((unhide HS2).below hk)
              replace HND := hide ((unhide HND).trans (hk.mono (unhide HND).size))
              replace HT := hide ((unhide HT).trans (hk.mono (unhide HT).size))
              go_wp2_with fail
              refine hK.out _ _ hk (fun hHeld => ?_)
              clear hK K HH hHeld
              (try simp only [Act.put, List.setIfInBounds_toArray, List.set_cons_zero, List.set_cons_succ])
              refine stronger (S' := fun W => Below w62.heap.size w62 W) (fun W h => hk.trans (h.mono hk.size)) _ _ _ _ ?_
              have HH : Hid (Below w62.heap.size w62 w62) := Below.refl _ _
              clear hk
              refine wpAnyH_ready (rs := [3]) (by kernel_rfl) (by simp) ?_
              refine consL rfl (fun K hK => ?_) AllReadyH.nil
              go_simp
              refine (reval_any _ _ (wb fX) (E (i + 1)) _ (unhide HZ2) (by rw [unhide HWL]; omega) (E_lt _)).mono ?_
              rintro e w63 ⟨rfl, hk⟩
              rw [unhide HY]
              replace HZ2 := hide ((unhide HZ2).below hk)
              replace HS2 := hide ((unhide HS2).below hk)
              replace HND := hide ((unhide HND).trans (hk.mono (unhide HND).size))
              replace HT := hide ((unhide HT).trans (hk.mono (unhide HT).size))
              go_wp2_with fail
              refine hK.out _ _ hk (fun hHeld => ?_)
              clear hK K HH hHeld
              (try simp only [Act.put, List.setIfInBounds_toArray, List.set_cons_zero, List.set_cons_succ])
              refine stronger (S' := fun W => Below w63.heap.size w63 W) (fun W h => hk.trans (h.mono hk.size)) _ _ _ _ ?_
              have HH : Hid (Below w63.heap.size w63 w63) := Below.refl _ _
              clear hk
              refine takeL (i := 9) (v := ?_) rfl (by kernel_rfl) (by kernel_rfl) (by kernel_rfl) (fun _ _ _ h => h) (Or.inl ⟨by rfl, ?_⟩) (unhide HH) ?_
              rotate_left 1
              · intro W hSW; go_simp; all_goals (with_reducible rfl)
              (try simp only [Act.put, List.setIfInBounds_toArray, List.set_cons_zero, List.set_cons_succ])
              refine wpAnyH_done (by kernel_rfl) ?_ _
              refine NoPanic.normal ?_
              go_wp2_with fail
              go_roundw
              case rel => exact ⟨i + 1, by go_num, by omega, unhide HND⟩
              case measure => simp [intOf]; omega
            · have hi9 : i = 8 := by omega
              subst hi9
              go_wp2
              go_ret
              exact ⟨rfl, unhide HT⟩

end Go.Proofs.Ytahjcahmlangiaa
