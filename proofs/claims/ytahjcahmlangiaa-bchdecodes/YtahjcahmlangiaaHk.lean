/-
  Strings of bytes; the laws' own known.
-/
import Derived.Test.YtahjcahmlangiaaBe
import Derived.Laws.BytesString
namespace Go.Proofs.Ytahjcahmlangiaa
open Go.RowKit

/-- The string of such bytes. -/
def strOf (zs : List Int) : ByteArray := zs.foldl (fun r n => r.push (UInt8.ofNat n.toNat)) ByteArray.empty

theorem run_conv (w : World) (ao : Option Addr) (g n c : Nat) (zs : List Int) (hl : zs.length = n) (hr : Row w ao g zs) :
    (convert 22 9 (.slice ao n c)).run Try.prog w = .ok (.string (strOf zs)) w := by
  rw [run_convert_bytes_string w 22 9 5 ao n c Try.underlying22 Try.underlying5 Try.underlying9]
  cases ao with
  | none =>
    have h0 : zs = [] := by
      rcases hr with h | ⟨o, h, _⟩
      · exact h
      · cases h
    subst h0
    simp [Conv.bytesToString, strOf, Sem.run_pure]
  | some ad =>
    refine run_bytesToString w ad n c zs ?_
    have := run_loadCells_list (P := Try.prog) w ad (zs.map (Value.int .u8)) (fun j v hv => by
      obtain ⟨hj, hv⟩ := List.getElem?_eq_some_iff.1 hv
      simp only [List.length_map] at hj
      rcases hr with rfl | ⟨o, ho, hc⟩
      · simp at hj
      · cases ho
        rw [Addr.add_lit, hc j hj]
        simp [← hv, List.getD_eq_getElem?_getD, hj])
    rw [List.length_map, hl] at this
    exact this

theorem conv_arg {w : World} {ao : Option Addr} {n c g : Nat} {s : List Nat} (h : Arg w (.slice ao n c) g s) : (convert 22 9 (.slice ao n c)).run Try.prog w = .ok (.string (strOf (ints s))) w := by
  obtain ⟨⟨ao', c', h1, h2, h3, h4, h5⟩, _⟩ := h
  cases h1
  exact run_conv w ao g s.length c (ints s) (ints_len s) h5

/-- As naturals. -/
def nats (zs : List Int) : List Nat := zs.map Int.toNat
theorem ints_nats {zs : List Int} (h : Byt zs) : ints (nats zs) = zs := by
  unfold ints nats
  rw [List.map_map]
  conv => rhs; rw [← List.map_id zs]
  refine List.map_congr_left (fun z hz => ?_)
  have := h z hz
  simp only [Function.comp, id]
  omega
theorem nats_bs {zs : List Int} (h : Byt zs) : Bs (nats zs) := Bs.of (fun x hx => by
  obtain ⟨z, hz, rfl⟩ := List.mem_map.1 hx
  have := h z hz
  omega)
theorem arg_in {w : World} {ao : Option Addr} {g len cap : Nat} {zs : List Int} (l : zs.length = len) (r : Row w ao g zs) (b : Byt zs) (c : len ≤ cap) (n : ao = none → len = 0 ∧ cap = 0) (m : cap ≤ maxLen) : Arg w (.slice ao len cap) g (nats zs) := by
  have hl : (nats zs).length = len := by simp [nats, l]
  refine ⟨⟨ao, cap, by rw [hl], by omega, m, fun h => (n h).2, ?_⟩, nats_bs b⟩
  rw [ints_nats b]
  exact r

theorem enc_noughts : encF (List.replicate 24 0) = List.replicate 28 0 := by decide +kernel

/-- Noughts that were made. -/
theorem zeros_arg (m : Nat) (hm : m ≤ 1000) (w : World) : Arg (w.alloc (.cells (List.replicate m (Value.int .u8 0)).toArray 5)) (.slice (some ⟨w.heap.size, 0, none⟩) m m) w.heap.size (List.replicate m 0) := by
  have h := (blk_zeros m w).arg (Bs.zeros m) (c := m) (by simp) (by unfold maxLen; omega)
  rwa [List.length_replicate] at h

set_option maxRecDepth 100000 in
set_option maxHeartbeats 8000000 in
theorem known_any (w : World) : Calls Try.prog 9 #[] w fun e w' => e = .returned (.bool true) ∧ Below w.heap.size w w' := by
  have hmk24 : ∀ w : World, (Instr.makeSlice 22 (.int .i64 24) (.int .i64 24)).run Try.prog w = .ok (.slice (some ⟨w.heap.size, 0, none⟩) 24 24) (w.alloc (.cells (List.replicate 24 (Value.int .u8 0)).toArray 5)) := run_zeros 24 (by omega)
  have HZ24 := hide (fun W : World => zeros_arg 24 (by omega) W)
  obtain ⟨z24, hz24⟩ : ∃ z, (List.replicate 24 (Value.int .u8 0)).toArray = z := ⟨_, rfl⟩
  rw [hz24] at HZ24
  simp only [hz24] at hmk24
  clear hz24
  have hmk28 : ∀ w : World, (Instr.makeSlice 22 (.int .i64 28) (.int .i64 28)).run Try.prog w = .ok (.slice (some ⟨w.heap.size, 0, none⟩) 28 28) (w.alloc (.cells (List.replicate 28 (Value.int .u8 0)).toArray 5)) := run_zeros 28 (by omega)
  have HZ28 := hide (fun W : World => zeros_arg 28 (by omega) W)
  obtain ⟨z28, hz28⟩ : ∃ z, (List.replicate 28 (Value.int .u8 0)).toArray = z := ⟨_, rfl⟩
  rw [hz28] at HZ28
  simp only [hz28] at hmk28
  clear hz28
  have hgl : genP.length = 33 := genP_facts.1
  go_enter Try.func9, Try.ntmps9
  go_wp2_with fail
  have HT : Hid (Below w.heap.size w w) := Below.refl _ _
  replace HT := hide ((unhide HT).drew)
  refine wp_region_noPanic ?_
  refine wp_region_held_drew (S := fun W => Below w.drew.heap.size w.drew W) (by kernel_rfl) (Below.refl _ _) (fun hHeld => ?_)
  have HH := hide hHeld
  clear hHeld
  generalize w.drew = w1 at HT  HH ⊢
  refine wpAnyH_ready (rs := [0, 3]) (by kernel_rfl) (by simp) ?_
  refine consL rfl (fun K hK => ?_) (consL rfl (fun K hK => ?_) AllReadyH.nil)
  focus
    go_simp
    have hk : Below w1.heap.size w1 (w1.alloc (.cells z24 5)) := (Below.refl _ _).alloc (Nat.le_refl _) _
    have hA := unhide HZ24 w1
    generalize w1.alloc (.cells z24 5) = w2 at hk hA ⊢
    replace HT := hide ((unhide HT).trans (hk.mono (unhide HT).size))
    have HA2 := hide hA
    clear hA
    refine hK.out _ _ hk (fun hHeld => ?_)
    clear hK K HH hHeld
    (try simp only [Act.put, List.setIfInBounds_toArray, List.set_cons_zero, List.set_cons_succ])
    refine stronger (S' := fun W => Below w2.heap.size w2 W) (fun W h => hk.trans (h.mono hk.size)) _ _ _ _ ?_
    have HH : Hid (Below w2.heap.size w2 w2) := Below.refl _ _
    clear hk
    refine wpAnyH_ready (rs := [1, 3]) (by kernel_rfl) (by simp) ?_
    refine consL rfl (fun K hK => ?_) (consL rfl (fun K hK => ?_) AllReadyH.nil)
    focus
      go_simp
      refine (encode_any _ _ (List.replicate 24 0) _ (unhide HA2) List.length_replicate).mono ?_
      rintro e w3 ⟨v3, rfl, hF, hk⟩
      rw [enc_noughts] at hF
      replace HA2 := hide ((unhide HA2).below hk)
      replace HT := hide ((unhide HT).trans (hk.mono (unhide HT).size))
      obtain ⟨g3, hA, hge⟩ := hF.arg (Bs.zeros 28)
      obtain ⟨⟨ao3, c3, rfl, h1, h2, h3, h4⟩, _⟩ := hA
      have HA3 : Hid (Arg w3 (.slice ao3 28 c3) g3 (List.replicate 28 0)) := ⟨⟨ao3, c3, by rw [List.length_replicate], h1, h2, h3, h4⟩, (Bs.zeros 28)⟩
      rw [show (List.replicate 28 0).length = 28 from List.length_replicate]
      clear h1 h2 h3 h4 hF hge
      go_wp2_with fail
      refine hK.out _ _ hk (fun hHeld => ?_)
      clear hK K HH hHeld
      (try simp only [Act.put, List.setIfInBounds_toArray, List.set_cons_zero, List.set_cons_succ])
      refine stronger (S' := fun W => Below w3.heap.size w3 W) (fun W h => hk.trans (h.mono hk.size)) _ _ _ _ ?_
      have HH : Hid (Below w3.heap.size w3 w3) := Below.refl _ _
      clear hk
      refine takeL (i := 2) (v := ?_) rfl (by kernel_rfl) (by kernel_rfl) (by kernel_rfl) (fun _ _ _ h => h) (Or.inl ⟨by rfl, ?_⟩) (unhide HH) ?_
      rotate_left 1
      · intro W1 hSW; have hcv := conv_arg ((unhide HA3).below hSW); clear hSW; go_simp; all_goals (with_reducible rfl)
      (try simp only [Act.put, List.setIfInBounds_toArray, List.set_cons_zero, List.set_cons_succ])
      refine wpAnyH_ready (rs := [3]) (by kernel_rfl) (by simp) ?_
      refine consL rfl (fun K hK => ?_) AllReadyH.nil
      go_simp
      have hk : Below w3.heap.size w3 (w3.alloc (.cells z28 5)) := (Below.refl _ _).alloc (Nat.le_refl _) _
      have hA := unhide HZ28 w3
      generalize w3.alloc (.cells z28 5) = w4 at hk hA ⊢
      replace HA2 := hide ((unhide HA2).below hk)
      replace HA3 := hide ((unhide HA3).below hk)
      replace HT := hide ((unhide HT).trans (hk.mono (unhide HT).size))
      have HA4 := hide hA
      clear hA
      refine hK.out _ _ hk (fun hHeld => ?_)
      clear hK K HH hHeld
      (try simp only [Act.put, List.setIfInBounds_toArray, List.set_cons_zero, List.set_cons_succ])
      refine stronger (S' := fun W => Below w4.heap.size w4 W) (fun W h => hk.trans (h.mono hk.size)) _ _ _ _ ?_
      have HH : Hid (Below w4.heap.size w4 w4) := Below.refl _ _
      clear hk
      refine takeL (i := 4) (v := ?_) rfl (by kernel_rfl) (by kernel_rfl) (by kernel_rfl) (fun _ _ _ h => h) (Or.inl ⟨by rfl, ?_⟩) (unhide HH) ?_
      rotate_left 1
      · intro W1 hSW; have hcv := conv_arg ((unhide HA4).below hSW); clear hSW; go_simp; all_goals (with_reducible rfl)
      (try simp only [Act.put, List.setIfInBounds_toArray, List.set_cons_zero, List.set_cons_succ])
      refine takeL (i := 5) (v := ?_) rfl (by kernel_rfl) (by kernel_rfl) (by kernel_rfl) (fun _ _ _ h => h) (Or.inl ⟨by rfl, ?_⟩) (unhide HH) ?_
      rotate_left 1
      · intro W hSW; go_simp; all_goals (with_reducible rfl)
      (try simp only [Act.put, List.setIfInBounds_toArray, List.set_cons_zero, List.set_cons_succ])
      refine takeL (i := 6) (v := ?_) rfl (by kernel_rfl) (by kernel_rfl) (by kernel_rfl) (fun _ _ _ h => h) (Or.inl ⟨by rfl, ?_⟩) (unhide HH) ?_
      rotate_left 1
      · intro W hSW; go_simp; all_goals (with_reducible rfl)
      (try simp only [Act.put, List.setIfInBounds_toArray, List.set_cons_zero, List.set_cons_succ])
      refine wpAnyH_ready (rs := [7]) (by kernel_rfl) (by simp) ?_
      refine consL rfl (fun K hK => ?_) AllReadyH.nil
      go_simp
      refine (generator_any _).mono ?_
      rintro e w5 ⟨v5, rfl, hF, hk⟩
      replace HA2 := hide ((unhide HA2).below hk)
      replace HA3 := hide ((unhide HA3).below hk)
      replace HA4 := hide ((unhide HA4).below hk)
      replace HT := hide ((unhide HT).trans (hk.mono (unhide HT).size))
      obtain ⟨g5, hA, hge⟩ := hF.arg genP_bin.bs
      obtain ⟨⟨ao5, c5, rfl, h1, h2, h3, h4⟩, _⟩ := hA
      have HA5 : Hid (Arg w5 (.slice ao5 33 c5) g5 (genP)) := ⟨⟨ao5, c5, by rw [hgl], h1, h2, h3, h4⟩, genP_bin.bs⟩
      rw [show (genP).length = 33 from hgl]
      clear h1 h2 h3 h4 hF hge
      go_wp2_with fail
      refine hK.out _ _ hk (fun hHeld => ?_)
      clear hK K HH hHeld
      (try simp only [Act.put, List.setIfInBounds_toArray, List.set_cons_zero, List.set_cons_succ])
      refine stronger (S' := fun W => Below w5.heap.size w5 W) (fun W h => hk.trans (h.mono hk.size)) _ _ _ _ ?_
      have HH : Hid (Below w5.heap.size w5 w5) := Below.refl _ _
      clear hk
      refine takeL (i := 8) (v := ?_) rfl (by kernel_rfl) (by kernel_rfl) (by kernel_rfl) (fun _ _ _ h => h) (Or.inl ⟨by rfl, ?_⟩) (unhide HH) ?_
      rotate_left 1
      · intro W hSW; go_simp; all_goals (with_reducible rfl)
      (try simp only [Act.put, List.setIfInBounds_toArray, List.set_cons_zero, List.set_cons_succ])
      refine takeL (i := 9) (v := ?_) rfl (by kernel_rfl) (by kernel_rfl) (by kernel_rfl) (fun _ _ _ h => h) (Or.inl ⟨by rfl, ?_⟩) (unhide HH) ?_
      rotate_left 1
      · intro W hSW; go_simp; all_goals (with_reducible rfl)
      (try simp only [Act.put, List.setIfInBounds_toArray, List.set_cons_zero, List.set_cons_succ])
      refine takeL (i := 10) (v := ?_) rfl (by kernel_rfl) (by kernel_rfl) (by kernel_rfl) (fun _ _ _ h => h) (Or.inl ⟨by rfl, ?_⟩) (unhide HH) ?_
      rotate_left 1
      · intro W hSW; go_simp; all_goals (with_reducible rfl)
      (try simp only [Act.put, List.setIfInBounds_toArray, List.set_cons_zero, List.set_cons_succ])
      refine takeL (i := 11) (v := ?_) rfl (by kernel_rfl) (by kernel_rfl) (by kernel_rfl) (fun _ _ _ h => h) (Or.inl ⟨by rfl, ?_⟩) (unhide HH) ?_
      rotate_left 1
      · intro W hSW; go_simp; all_goals (with_reducible rfl)
      (try simp only [Act.put, List.setIfInBounds_toArray, List.set_cons_zero])
      refine wpAnyH_done (by kernel_rfl) ?_ _
      refine NoPanic.normal ?_
      go_wp2
      go_ret
      exact ⟨rfl, unhide HT⟩
    focus
      go_simp
      have hk : Below w2.heap.size w2 (w2.alloc (.cells z28 5)) := (Below.refl _ _).alloc (Nat.le_refl _) _
      have hA := unhide HZ28 w2
      generalize w2.alloc (.cells z28 5) = w3 at hk hA ⊢
      replace HA2 := hide ((unhide HA2).below hk)
      replace HT := hide ((unhide HT).trans (hk.mono (unhide HT).size))
      have HA3 := hide hA
      clear hA
      refine hK.out _ _ hk (fun hHeld => ?_)
      clear hK K HH hHeld
      (try simp only [Act.put, List.setIfInBounds_toArray, List.set_cons_zero, List.set_cons_succ])
      refine stronger (S' := fun W => Below w3.heap.size w3 W) (fun W h => hk.trans (h.mono hk.size)) _ _ _ _ ?_
      have HH : Hid (Below w3.heap.size w3 w3) := Below.refl _ _
      clear hk
      refine takeL (i := 4) (v := ?_) rfl (by kernel_rfl) (by kernel_rfl) (by kernel_rfl) (fun _ _ _ h => h) (Or.inl ⟨by rfl, ?_⟩) (unhide HH) ?_
      rotate_left 1
      · intro W1 hSW; have hcv := conv_arg ((unhide HA3).below hSW); clear hSW; go_simp; all_goals (with_reducible rfl)
      (try simp only [Act.put, List.setIfInBounds_toArray, List.set_cons_zero, List.set_cons_succ])
      refine wpAnyH_ready (rs := [1]) (by kernel_rfl) (by simp) ?_
      refine consL rfl (fun K hK => ?_) AllReadyH.nil
      go_simp
      refine (encode_any _ _ (List.replicate 24 0) _ (unhide HA2) List.length_replicate).mono ?_
      rintro e w4 ⟨v4, rfl, hF, hk⟩
      rw [enc_noughts] at hF
      replace HA2 := hide ((unhide HA2).below hk)
      replace HA3 := hide ((unhide HA3).below hk)
      replace HT := hide ((unhide HT).trans (hk.mono (unhide HT).size))
      obtain ⟨g4, hA, hge⟩ := hF.arg (Bs.zeros 28)
      obtain ⟨⟨ao4, c4, rfl, h1, h2, h3, h4⟩, _⟩ := hA
      have HA4 : Hid (Arg w4 (.slice ao4 28 c4) g4 (List.replicate 28 0)) := ⟨⟨ao4, c4, by rw [List.length_replicate], h1, h2, h3, h4⟩, (Bs.zeros 28)⟩
      rw [show (List.replicate 28 0).length = 28 from List.length_replicate]
      clear h1 h2 h3 h4 hF hge
      go_wp2_with fail
      refine hK.out _ _ hk (fun hHeld => ?_)
      clear hK K HH hHeld
      (try simp only [Act.put, List.setIfInBounds_toArray, List.set_cons_zero, List.set_cons_succ])
      refine stronger (S' := fun W => Below w4.heap.size w4 W) (fun W h => hk.trans (h.mono hk.size)) _ _ _ _ ?_
      have HH : Hid (Below w4.heap.size w4 w4) := Below.refl _ _
      clear hk
      refine takeL (i := 2) (v := ?_) rfl (by kernel_rfl) (by kernel_rfl) (by kernel_rfl) (fun _ _ _ h => h) (Or.inl ⟨by rfl, ?_⟩) (unhide HH) ?_
      rotate_left 1
      · intro W1 hSW; have hcv := conv_arg ((unhide HA4).below hSW); clear hSW; go_simp; all_goals (with_reducible rfl)
      (try simp only [Act.put, List.setIfInBounds_toArray, List.set_cons_zero, List.set_cons_succ])
      refine takeL (i := 5) (v := ?_) rfl (by kernel_rfl) (by kernel_rfl) (by kernel_rfl) (fun _ _ _ h => h) (Or.inl ⟨by rfl, ?_⟩) (unhide HH) ?_
      rotate_left 1
      · intro W hSW; go_simp; all_goals (with_reducible rfl)
      (try simp only [Act.put, List.setIfInBounds_toArray, List.set_cons_zero, List.set_cons_succ])
      refine takeL (i := 6) (v := ?_) rfl (by kernel_rfl) (by kernel_rfl) (by kernel_rfl) (fun _ _ _ h => h) (Or.inl ⟨by rfl, ?_⟩) (unhide HH) ?_
      rotate_left 1
      · intro W hSW; go_simp; all_goals (with_reducible rfl)
      (try simp only [Act.put, List.setIfInBounds_toArray, List.set_cons_zero, List.set_cons_succ])
      refine wpAnyH_ready (rs := [7]) (by kernel_rfl) (by simp) ?_
      refine consL rfl (fun K hK => ?_) AllReadyH.nil
      go_simp
      refine (generator_any _).mono ?_
      rintro e w5 ⟨v5, rfl, hF, hk⟩
      replace HA2 := hide ((unhide HA2).below hk)
      replace HA3 := hide ((unhide HA3).below hk)
      replace HA4 := hide ((unhide HA4).below hk)
      replace HT := hide ((unhide HT).trans (hk.mono (unhide HT).size))
      obtain ⟨g5, hA, hge⟩ := hF.arg genP_bin.bs
      obtain ⟨⟨ao5, c5, rfl, h1, h2, h3, h4⟩, _⟩ := hA
      have HA5 : Hid (Arg w5 (.slice ao5 33 c5) g5 (genP)) := ⟨⟨ao5, c5, by rw [hgl], h1, h2, h3, h4⟩, genP_bin.bs⟩
      rw [show (genP).length = 33 from hgl]
      clear h1 h2 h3 h4 hF hge
      go_wp2_with fail
      refine hK.out _ _ hk (fun hHeld => ?_)
      clear hK K HH hHeld
      (try simp only [Act.put, List.setIfInBounds_toArray, List.set_cons_zero, List.set_cons_succ])
      refine stronger (S' := fun W => Below w5.heap.size w5 W) (fun W h => hk.trans (h.mono hk.size)) _ _ _ _ ?_
      have HH : Hid (Below w5.heap.size w5 w5) := Below.refl _ _
      clear hk
      refine takeL (i := 8) (v := ?_) rfl (by kernel_rfl) (by kernel_rfl) (by kernel_rfl) (fun _ _ _ h => h) (Or.inl ⟨by rfl, ?_⟩) (unhide HH) ?_
      rotate_left 1
      · intro W hSW; go_simp; all_goals (with_reducible rfl)
      (try simp only [Act.put, List.setIfInBounds_toArray, List.set_cons_zero, List.set_cons_succ])
      refine takeL (i := 9) (v := ?_) rfl (by kernel_rfl) (by kernel_rfl) (by kernel_rfl) (fun _ _ _ h => h) (Or.inl ⟨by rfl, ?_⟩) (unhide HH) ?_
      rotate_left 1
      · intro W hSW; go_simp; all_goals (with_reducible rfl)
      (try simp only [Act.put, List.setIfInBounds_toArray, List.set_cons_zero, List.set_cons_succ])
      refine takeL (i := 10) (v := ?_) rfl (by kernel_rfl) (by kernel_rfl) (by kernel_rfl) (fun _ _ _ h => h) (Or.inl ⟨by rfl, ?_⟩) (unhide HH) ?_
      rotate_left 1
      · intro W hSW; go_simp; all_goals (with_reducible rfl)
      (try simp only [Act.put, List.setIfInBounds_toArray, List.set_cons_zero, List.set_cons_succ])
      refine takeL (i := 11) (v := ?_) rfl (by kernel_rfl) (by kernel_rfl) (by kernel_rfl) (fun _ _ _ h => h) (Or.inl ⟨by rfl, ?_⟩) (unhide HH) ?_
      rotate_left 1
      · intro W hSW; go_simp; all_goals (with_reducible rfl)
      (try simp only [Act.put, List.setIfInBounds_toArray, List.set_cons_zero])
      refine wpAnyH_done (by kernel_rfl) ?_ _
      refine NoPanic.normal ?_
      go_wp2
      go_ret
      exact ⟨rfl, unhide HT⟩
  focus
    go_simp
    have hk : Below w1.heap.size w1 (w1.alloc (.cells z28 5)) := (Below.refl _ _).alloc (Nat.le_refl _) _
    have hA := unhide HZ28 w1
    generalize w1.alloc (.cells z28 5) = w2 at hk hA ⊢
    replace HT := hide ((unhide HT).trans (hk.mono (unhide HT).size))
    have HA2 := hide hA
    clear hA
    refine hK.out _ _ hk (fun hHeld => ?_)
    clear hK K HH hHeld
    (try simp only [Act.put, List.setIfInBounds_toArray, List.set_cons_zero, List.set_cons_succ])
    refine stronger (S' := fun W => Below w2.heap.size w2 W) (fun W h => hk.trans (h.mono hk.size)) _ _ _ _ ?_
    have HH : Hid (Below w2.heap.size w2 w2) := Below.refl _ _
    clear hk
    refine takeL (i := 4) (v := ?_) rfl (by kernel_rfl) (by kernel_rfl) (by kernel_rfl) (fun _ _ _ h => h) (Or.inl ⟨by rfl, ?_⟩) (unhide HH) ?_
    rotate_left 1
    · intro W1 hSW; have hcv := conv_arg ((unhide HA2).below hSW); clear hSW; go_simp; all_goals (with_reducible rfl)
    (try simp only [Act.put, List.setIfInBounds_toArray, List.set_cons_zero, List.set_cons_succ])
    refine wpAnyH_ready (rs := [0]) (by kernel_rfl) (by simp) ?_
    refine consL rfl (fun K hK => ?_) AllReadyH.nil
    go_simp
    have hk : Below w2.heap.size w2 (w2.alloc (.cells z24 5)) := (Below.refl _ _).alloc (Nat.le_refl _) _
    have hA := unhide HZ24 w2
    generalize w2.alloc (.cells z24 5) = w3 at hk hA ⊢
    replace HA2 := hide ((unhide HA2).below hk)
    replace HT := hide ((unhide HT).trans (hk.mono (unhide HT).size))
    have HA3 := hide hA
    clear hA
    refine hK.out _ _ hk (fun hHeld => ?_)
    clear hK K HH hHeld
    (try simp only [Act.put, List.setIfInBounds_toArray, List.set_cons_zero, List.set_cons_succ])
    refine stronger (S' := fun W => Below w3.heap.size w3 W) (fun W h => hk.trans (h.mono hk.size)) _ _ _ _ ?_
    have HH : Hid (Below w3.heap.size w3 w3) := Below.refl _ _
    clear hk
    refine wpAnyH_ready (rs := [1]) (by kernel_rfl) (by simp) ?_
    refine consL rfl (fun K hK => ?_) AllReadyH.nil
    go_simp
    refine (encode_any _ _ (List.replicate 24 0) _ (unhide HA3) List.length_replicate).mono ?_
    rintro e w4 ⟨v4, rfl, hF, hk⟩
    rw [enc_noughts] at hF
    replace HA2 := hide ((unhide HA2).below hk)
    replace HA3 := hide ((unhide HA3).below hk)
    replace HT := hide ((unhide HT).trans (hk.mono (unhide HT).size))
    obtain ⟨g4, hA, hge⟩ := hF.arg (Bs.zeros 28)
    obtain ⟨⟨ao4, c4, rfl, h1, h2, h3, h4⟩, _⟩ := hA
    have HA4 : Hid (Arg w4 (.slice ao4 28 c4) g4 (List.replicate 28 0)) := ⟨⟨ao4, c4, by rw [List.length_replicate], h1, h2, h3, h4⟩, (Bs.zeros 28)⟩
    rw [show (List.replicate 28 0).length = 28 from List.length_replicate]
    clear h1 h2 h3 h4 hF hge
    go_wp2_with fail
    refine hK.out _ _ hk (fun hHeld => ?_)
    clear hK K HH hHeld
    (try simp only [Act.put, List.setIfInBounds_toArray, List.set_cons_zero, List.set_cons_succ])
    refine stronger (S' := fun W => Below w4.heap.size w4 W) (fun W h => hk.trans (h.mono hk.size)) _ _ _ _ ?_
    have HH : Hid (Below w4.heap.size w4 w4) := Below.refl _ _
    clear hk
    refine takeL (i := 2) (v := ?_) rfl (by kernel_rfl) (by kernel_rfl) (by kernel_rfl) (fun _ _ _ h => h) (Or.inl ⟨by rfl, ?_⟩) (unhide HH) ?_
    rotate_left 1
    · intro W1 hSW; have hcv := conv_arg ((unhide HA4).below hSW); clear hSW; go_simp; all_goals (with_reducible rfl)
    (try simp only [Act.put, List.setIfInBounds_toArray, List.set_cons_zero, List.set_cons_succ])
    refine takeL (i := 5) (v := ?_) rfl (by kernel_rfl) (by kernel_rfl) (by kernel_rfl) (fun _ _ _ h => h) (Or.inl ⟨by rfl, ?_⟩) (unhide HH) ?_
    rotate_left 1
    · intro W hSW; go_simp; all_goals (with_reducible rfl)
    (try simp only [Act.put, List.setIfInBounds_toArray, List.set_cons_zero, List.set_cons_succ])
    refine takeL (i := 6) (v := ?_) rfl (by kernel_rfl) (by kernel_rfl) (by kernel_rfl) (fun _ _ _ h => h) (Or.inl ⟨by rfl, ?_⟩) (unhide HH) ?_
    rotate_left 1
    · intro W hSW; go_simp; all_goals (with_reducible rfl)
    (try simp only [Act.put, List.setIfInBounds_toArray, List.set_cons_zero, List.set_cons_succ])
    refine wpAnyH_ready (rs := [7]) (by kernel_rfl) (by simp) ?_
    refine consL rfl (fun K hK => ?_) AllReadyH.nil
    go_simp
    refine (generator_any _).mono ?_
    rintro e w5 ⟨v5, rfl, hF, hk⟩
    replace HA2 := hide ((unhide HA2).below hk)
    replace HA3 := hide ((unhide HA3).below hk)
    replace HA4 := hide ((unhide HA4).below hk)
    replace HT := hide ((unhide HT).trans (hk.mono (unhide HT).size))
    obtain ⟨g5, hA, hge⟩ := hF.arg genP_bin.bs
    obtain ⟨⟨ao5, c5, rfl, h1, h2, h3, h4⟩, _⟩ := hA
    have HA5 : Hid (Arg w5 (.slice ao5 33 c5) g5 (genP)) := ⟨⟨ao5, c5, by rw [hgl], h1, h2, h3, h4⟩, genP_bin.bs⟩
    rw [show (genP).length = 33 from hgl]
    clear h1 h2 h3 h4 hF hge
    go_wp2_with fail
    refine hK.out _ _ hk (fun hHeld => ?_)
    clear hK K HH hHeld
    (try simp only [Act.put, List.setIfInBounds_toArray, List.set_cons_zero, List.set_cons_succ])
    refine stronger (S' := fun W => Below w5.heap.size w5 W) (fun W h => hk.trans (h.mono hk.size)) _ _ _ _ ?_
    have HH : Hid (Below w5.heap.size w5 w5) := Below.refl _ _
    clear hk
    refine takeL (i := 8) (v := ?_) rfl (by kernel_rfl) (by kernel_rfl) (by kernel_rfl) (fun _ _ _ h => h) (Or.inl ⟨by rfl, ?_⟩) (unhide HH) ?_
    rotate_left 1
    · intro W hSW; go_simp; all_goals (with_reducible rfl)
    (try simp only [Act.put, List.setIfInBounds_toArray, List.set_cons_zero, List.set_cons_succ])
    refine takeL (i := 9) (v := ?_) rfl (by kernel_rfl) (by kernel_rfl) (by kernel_rfl) (fun _ _ _ h => h) (Or.inl ⟨by rfl, ?_⟩) (unhide HH) ?_
    rotate_left 1
    · intro W hSW; go_simp; all_goals (with_reducible rfl)
    (try simp only [Act.put, List.setIfInBounds_toArray, List.set_cons_zero, List.set_cons_succ])
    refine takeL (i := 10) (v := ?_) rfl (by kernel_rfl) (by kernel_rfl) (by kernel_rfl) (fun _ _ _ h => h) (Or.inl ⟨by rfl, ?_⟩) (unhide HH) ?_
    rotate_left 1
    · intro W hSW; go_simp; all_goals (with_reducible rfl)
    (try simp only [Act.put, List.setIfInBounds_toArray, List.set_cons_zero, List.set_cons_succ])
    refine takeL (i := 11) (v := ?_) rfl (by kernel_rfl) (by kernel_rfl) (by kernel_rfl) (fun _ _ _ h => h) (Or.inl ⟨by rfl, ?_⟩) (unhide HH) ?_
    rotate_left 1
    · intro W hSW; go_simp; all_goals (with_reducible rfl)
    (try simp only [Act.put, List.setIfInBounds_toArray, List.set_cons_zero])
    refine wpAnyH_done (by kernel_rfl) ?_ _
    refine NoPanic.normal ?_
    go_wp2
    go_ret
    exact ⟨rfl, unhide HT⟩

end Go.Proofs.Ytahjcahmlangiaa
