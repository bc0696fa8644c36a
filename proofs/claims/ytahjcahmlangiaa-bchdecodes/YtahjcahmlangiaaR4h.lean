/-
  The second telling's Decode (ramekinref4).
-/
import Derived.Test.YtahjcahmlangiaaR4f
namespace Go.Proofs.Ytahjcahmlangiaa
open Go.RowKit

theorem Sf_syn (s : List Nat) {e : Nat} (h1 : 1 ≤ e) (h8 : e ≤ 8) : Sf (synF s) e = syn s e := by
  unfold Sf
  rw [synF_eq]
  have : e = 1 ∨ e = 2 ∨ e = 3 ∨ e = 4 ∨ e = 5 ∨ e = 6 ∨ e = 7 ∨ e = 8 := by omega
  rcases this with rfl | rfl | rfl | rfl | rfl | rfl | rfl | rfl <;> rfl
theorem cut_arg {w : World} {q c : Nat} {s : List Nat} (h : Blk w q s) (hb : Bs s) (hl : s.length = 28) (h1 : 28 ≤ c) (h2 : c ≤ maxLen) : Arg w (.slice (some ⟨q, 4, none⟩) 24 (c - 4)) q (s.drop 4) := by
  have hd : (s.drop 4).length = 24 := by rw [List.length_drop, hl]
  refine ⟨⟨some ⟨q, 4, none⟩, c - 4, by rw [hd], by rw [hd]; omega, by omega, (fun h => by cases h), ?_⟩, fun i => by rw [cf_drop]; exact hb _⟩
  have hr := h.row (o := 4) (n := 24)
  rwa [List.take_of_length_le (by rw [hd]; omega)] at hr

set_option maxRecDepth 100000 in
set_option maxHeartbeats 2000000 in
theorem rdecode_not (v : Value) (g : Nat) (d : List Nat) (w : World) (hA : Arg w v g d) (hl : d.length ≠ 28) : Calls Try.prog 22 #[v] w fun e w' => e = .returned (.tuple #[.slice none 0 0, .int .i64 0, .bool false]) ∧ w' = w := by
  obtain ⟨⟨ao, c, rfl, hc1, hc2, hnil, hr⟩, hbs⟩ := hA
  have h24 : ((d.length : Int) != 28) = true := by rw [bne_iff_ne]; omega
  clear hr hnil
  go_enter Try.func22, Try.ntmps22
  go_wp2
  go_returns
  exact ⟨rfl, rfl⟩

/-- What Decode tells. -/
def DecR (w : World) (s : List Nat) (e : Ending) : Prop :=
  (∃ l, Good (syn s) l ∧ l.length ≤ 3 ∧ ∃ q c, e = .returned (.tuple #[.slice (some ⟨q, 4, none⟩) 24 c, .int .i64 (l.length : Nat), .bool true]) ∧ Arg w (.slice (some ⟨q, 4, none⟩) 24 c) q ((flips s l).drop 4)) ∨
  ((∀ l, Good (syn s) l → 4 ≤ l.length) ∧ e = .returned (.tuple #[.slice none 0 0, .int .i64 0, .bool false]))

set_option maxRecDepth 100000 in
set_option maxHeartbeats 8000000 in
theorem rdecode_any (v : Value) (g : Nat) (s : List Nat) (w : World) (hA : Arg w v g s) (hs : s.length = 28) :
    Calls Try.prog 22 #[v] w fun e w' => Below w.heap.size w w' ∧ DecR w' s e := by
  have HA0 := hide hA
  obtain ⟨⟨ao, c, rfl, hc1, hc2, hnil, hr⟩, hbs⟩ := hA
  obtain ⟨o, rfl⟩ := row_some hr (by omega)
  have HA := hide (show Arg w (.slice (some ⟨g, o, none⟩) 28 c) g s from by rw [← hs]; exact unhide HA0)
  obtain ⟨i0, hi0, hz0, hz1, hz2⟩ := info_parts infoE
  have HR0 := hide hr
  have HS := hide hs
  have HI := hide hi0
  rw [hs]
  clear hr hnil hi0 HA0
  go_enter Try.func22, Try.ntmps22
  go_wp2_with fail
  refine (rsyn_any _ _ s w (unhide HA) (unhide HS)).mono ?_
  rintro e w1 ⟨v1, rfl, hF, hk1⟩
  obtain ⟨g1, hA1, _⟩ := hF.arg (synF_bs s)
  have HA1 := hide hA1
  have HB1 := hide hk1
  clear hF hA1 hk1
  go_wp2_with fail
  refine (places4_any _ _ (synF s) w1 (unhide HA1) (synF_len s)).mono ?_
  rintro e w2 ⟨hR, hk2⟩
  have HB2 := hide ((unhide HB1).trans (hk2.mono (unhide HB1).size))
  have hw2 := (unhide HB2).size
  clear hk2 HB1 HA1
  rcases hR with ⟨l, vl, gl, rfl, hI, hg, hl3⟩ | ⟨rfl, hn⟩
  · have HG : Hid (Good (syn s) l) := hg.congr (fun _ h1 h8 => Sf_syn s h1 h8)
    have hl : ∀ k ∈ l, k < 224 := hg.lt
    obtain ⟨bo, cl, rfl, hd1, hd2, hnil2, hr2⟩ := hI
    have HR2 := hide hr2
    have HR := hide ((unhide HR0).below (unhide HB2))
    have HO := hide (empty_owns' w2)
    have HK1 : Hid (Kp [] w2 (w2.alloc (.cells #[] 5))) := (Kp.refl [] w2).alloc _
    clear hr2 hnil2 hg HR0
    go_wp2_with (at_builtin; refine wpList_append_row _ rfl _ _ 22 rfl w2.heap.size 5 i0 Try.underlying22 (unhide HI) hz0 hz1 hz2 (.slice (some ⟨w2.heap.size, 0, none⟩) 0 0) 0 _ rfl (unhide HO) (some ⟨g, o, none⟩) g 28 c (ints s) rfl (by rw [ints_len]; exact unhide HS) ((unhide HR).keep (unhide HK1) (by simp)) (fun h => by cases h) (by omega) (by simp) ?_)
    intro v' w3 ho hg _
    have hF := (owns_fr (s := s) ho).2
    obtain ⟨q, cq, rfl, hq1, hq2, hB, hq3⟩ := hF.blk (by intro h; rw [h] at hs; simp at hs)
    rw [hs] at hq1 ⊢
    have HB1 := hide hB
    have HK2 := hide ((unhide HK1).grown hg (fun k e => by cases e; exact .inr (Nat.le_refl _)))
    clear ho hg hF hB HK1 HO
    go_wp2_with fail
    go_loopw [8] (fun p wr => ∃ (i : Nat), p = .int .i64 i ∧ i ≤ l.length ∧ Blk wr q (flips s (l.take i)) ∧ Kp [] w2 wr) (fun p _ => l.length - (intOf p).toNat)
    case atStart => exact ⟨0, rfl, by omega, unhide HB1, unhide HK2⟩
    case round =>
      obtain ⟨i, rfl, hi, hB, hK⟩ := hrel
      have HK := hide hK
      clear hK
      by_cases hlt : i < l.length
      · have hi1 : (i : Int) < (l.length : Int) := by omega
        obtain ⟨ol, rfl⟩ := irow_some (unhide HR2) (by omega)
        have hcl := irow_cell (unhide HR2) (j := i) hlt
        have hgl := block_lt_of_cell hcl
        dsimp only at hgl
        have hcw := (unhide HK).cell hcl (by simp)
        have hk := hl _ (cf_memb hlt)
        have hft := flips_take (s := s) hlt
        obtain ⟨t, ht⟩ : ∃ t, flips s (l.take i) = t := ⟨_, rfl⟩
        have htl : t.length = 28 := by rw [← ht, flips_len]; exact hs
        have htb : Bs t := by rw [← ht]; exact flips_bs hbs _
        rw [ht] at hB hft
        have HB := hide hB
        have HFT := hide hft
        clear hB hft ht
        obtain ⟨k, hkk⟩ : ∃ k, cf l i = k := ⟨_, rfl⟩
        rw [hkk] at hcw hk HFT
        clear hkk hcl
        obtain ⟨j, hj⟩ : ∃ j, k / 8 = j := ⟨_, rfl⟩
        obtain ⟨m, hm⟩ : ∃ m, k % 8 = m := ⟨_, rfl⟩
        have hj28 : j < 28 := by omega
        have hm8 : m < 8 := by omega
        have hj1 : (j : Int) < 28 := by omega
        have q0 : (k : Int) / 8 = (j : Int) := by omega
        have q1 : IntKind.i64.wrap ((k : Int) / 8) = (j : Int) := by rw [IntWalk.i64_in _ ⟨by omega, by omega⟩]; omega
        have q1' : IntKind.i64.wrap (j : Int) = (j : Int) := by rw [IntWalk.i64_in _ ⟨by omega, by omega⟩]
        have q2 : (k : Int).tmod 8 = (m : Int) := by rw [Int.tmod_eq_emod_of_nonneg (by omega)]; omega
        have q2' : (k : Int) % 8 = (m : Int) := by omega
        have q3 : IntKind.u64.wrap (m : Int) = (m : Int) := IntWalk.u64_in _ ⟨by omega, by omega⟩
        have hpm : 2 ^ m < 256 := by have := pow_lt8 k; rw [hm] at this; exact this
        obtain ⟨p, hp⟩ : ∃ p, 2 ^ m = p := ⟨_, rfl⟩
        rw [hp] at hpm
        have q4 : IntKind.u8.wrap ((2 : Int) ^ m) = (p : Int) := by rw [show (2 : Int) ^ m = ((2 ^ m : Nat) : Int) from by simp, hp]; exact wraps_u8 _ (by omega) (by omega)
        have HFL : Hid (flip1 t k = t.set j (cf t j ^^^ p)) := by show _ = _; rw [← hp, ← hj, ← hm]; rfl
        have hxor := bits_xor_u8 (htb j) hpm
        clear hj hm hp
        go_wp2_with fail
        have HCW := hide hcw
        clear hcw
        refine wp_region_noPanic ?_
        refine wp_region_held_drew (S := fun W => Kp [q] wr W) (by kernel_rfl) ((Kp.refl _ _).drew) (fun hHeld => ?_)
        have HH := hide hHeld
        clear hHeld
        refine takeL (i := 0) (v := ?_) rfl (by kernel_rfl) (by kernel_rfl) (by kernel_rfl) (fun _ _ _ h => h) (Or.inl ⟨by rfl, ?_⟩) (unhide HH) ?_
        rotate_left 1
        · intro W hSW; go_simp; all_goals (with_reducible rfl)
        (try simp only [Act.put, List.setIfInBounds_toArray, List.set_cons_zero, List.set_cons_succ])
        refine takeL (i := 1) (v := ?_) rfl (by kernel_rfl) (by kernel_rfl) (by kernel_rfl) (fun _ _ _ h => h) (Or.inl ⟨by rfl, ?_⟩) (unhide HH) ?_
        rotate_left 1
        · intro W hSW; go_simp; all_goals (with_reducible rfl)
        (try simp only [Act.put, List.setIfInBounds_toArray, List.set_cons_zero, List.set_cons_succ])
        refine takeL (i := 2) (v := ?_) rfl (by kernel_rfl) (by kernel_rfl) (by kernel_rfl) (fun _ _ _ h => h) (Or.inl ⟨by rfl, ?_⟩) (unhide HH) ?_
        rotate_left 1
        · intro W hSW; go_simp; all_goals (with_reducible rfl)
        (try simp only [Act.put, List.setIfInBounds_toArray, List.set_cons_zero, List.set_cons_succ])
        refine takeL (i := 3) (v := ?_) rfl (by kernel_rfl) (by kernel_rfl) (by kernel_rfl) (fun _ _ _ h => h) (Or.inl ⟨by rfl, ?_⟩) (unhide HH) ?_
        rotate_left 1
        · intro W hSW; go_simp; all_goals (with_reducible rfl)
        (try simp only [Act.put, List.setIfInBounds_toArray, List.set_cons_zero, List.set_cons_succ])
        refine takeL (i := 4) (v := ?_) rfl (by kernel_rfl) (by kernel_rfl) (by kernel_rfl) (fun _ _ _ h => h) (Or.inl ⟨by rfl, ?_⟩) (unhide HH) ?_
        rotate_left 1
        · intro W1 hSW; have hc := hSW.cell (unhide HCW) (by simp; omega); clear hSW; go_simp; all_goals (with_reducible rfl)
        (try simp only [Act.put, List.setIfInBounds_toArray, List.set_cons_zero, List.set_cons_succ])
        refine takeL (i := 5) (v := ?_) rfl (by kernel_rfl) (by kernel_rfl) (by kernel_rfl) (fun _ _ _ h => h) (Or.inl ⟨by rfl, ?_⟩) (unhide HH) ?_
        rotate_left 1
        · intro W hSW; go_simp; all_goals (with_reducible rfl)
        (try simp only [Act.put, List.setIfInBounds_toArray, List.set_cons_zero, List.set_cons_succ])
        refine takeL (i := 6) (v := ?_) rfl (by kernel_rfl) (by kernel_rfl) (by kernel_rfl) (fun _ _ _ h => h) (Or.inl ⟨by rfl, ?_⟩) (unhide HH) ?_
        rotate_left 1
        · intro W hSW; go_simp; all_goals (with_reducible rfl)
        (try simp only [Act.put, List.setIfInBounds_toArray, List.set_cons_zero, List.set_cons_succ])
        refine takeL (i := 7) (v := ?_) rfl (by kernel_rfl) (by kernel_rfl) (by kernel_rfl) (fun _ _ _ h => h) (Or.inl ⟨by rfl, ?_⟩) (unhide HH) ?_
        rotate_left 1
        · intro W hSW; go_simp; all_goals (with_reducible rfl)
        (try simp only [Act.put, List.setIfInBounds_toArray, List.set_cons_zero, List.set_cons_succ])
        refine takeL (i := 8) (v := ?_) rfl (by kernel_rfl) (by kernel_rfl) (by kernel_rfl) (fun _ _ _ h => h) (Or.inl ⟨by rfl, ?_⟩) (unhide HH) ?_
        rotate_left 1
        · intro W hSW; go_simp; all_goals (with_reducible rfl)
        (try simp only [Act.put, List.setIfInBounds_toArray, List.set_cons_zero, List.set_cons_succ])
        refine takeL (i := 9) (v := ?_) rfl (by kernel_rfl) (by kernel_rfl) (by kernel_rfl) (fun _ _ _ h => h) (Or.inl ⟨by rfl, ?_⟩) (unhide HH) ?_
        rotate_left 1
        · intro W hSW; go_simp; all_goals (with_reducible rfl)
        (try simp only [Act.put, List.setIfInBounds_toArray, List.set_cons_zero, List.set_cons_succ])
        refine takeL (i := 10) (v := ?_) rfl (by kernel_rfl) (by kernel_rfl) (by kernel_rfl) (fun _ _ _ h => h) (Or.inl ⟨by rfl, ?_⟩) (unhide HH) ?_
        rotate_left 1
        · intro W1 hSW; have hc := hSW.cell (unhide HCW) (by simp; omega); clear hSW; go_simp; all_goals (with_reducible rfl)
        (try simp only [Act.put, List.setIfInBounds_toArray, List.set_cons_zero, List.set_cons_succ])
        refine takeL (i := 11) (v := ?_) rfl (by kernel_rfl) (by kernel_rfl) (by kernel_rfl) (fun _ _ _ h => h) (Or.inl ⟨by rfl, ?_⟩) (unhide HH) ?_
        rotate_left 1
        · intro W hSW; go_simp; all_goals (with_reducible rfl)
        (try simp only [Act.put, List.setIfInBounds_toArray, List.set_cons_zero, List.set_cons_succ])
        refine takeL (i := 12) (v := ?_) rfl (by kernel_rfl) (by kernel_rfl) (by kernel_rfl) (fun _ _ _ h => h) (Or.inl ⟨by rfl, ?_⟩) (unhide HH) ?_
        rotate_left 1
        · intro W hSW; go_simp; all_goals (with_reducible rfl)
        (try simp only [Act.put, List.setIfInBounds_toArray, List.set_cons_zero, List.set_cons_succ])
        refine takeL (i := 14) (v := ?_) rfl (by kernel_rfl) (by kernel_rfl) (by kernel_rfl) (fun _ _ _ h => h) (Or.inl ⟨by rfl, ?_⟩) (unhide HH) ?_
        rotate_left 1
        · intro W hSW; go_simp; all_goals (with_reducible rfl)
        (try simp only [Act.put, List.setIfInBounds_toArray, List.set_cons_zero, List.set_cons_succ])
        refine takeL (i := 15) (v := ?_) rfl (by kernel_rfl) (by kernel_rfl) (by kernel_rfl) (fun _ _ _ h => h) (Or.inl ⟨by rfl, ?_⟩) (unhide HH) ?_
        rotate_left 1
        · intro W hSW; go_simp; all_goals (with_reducible rfl)
        (try simp only [Act.put, List.setIfInBounds_toArray, List.set_cons_zero, List.set_cons_succ])
        refine takeL (i := 16) (v := ?_) rfl (by kernel_rfl) (by kernel_rfl) (by kernel_rfl) (fun _ _ _ h => h) (Or.inl ⟨by rfl, ?_⟩) (unhide HH) ?_
        rotate_left 1
        · intro W hSW; go_simp; all_goals (with_reducible rfl)
        (try simp only [Act.put, List.setIfInBounds_toArray, List.set_cons_zero, List.set_cons_succ])
        refine takeL (i := 17) (v := ?_) rfl (by kernel_rfl) (by kernel_rfl) (by kernel_rfl) (fun _ _ _ h => h) (Or.inl ⟨by rfl, ?_⟩) (unhide HH) ?_
        rotate_left 1
        · intro W1 hSW; have hc := hSW.cell (unhide HCW) (by simp; omega); clear hSW; go_simp; all_goals (with_reducible rfl)
        (try simp only [Act.put, List.setIfInBounds_toArray, List.set_cons_zero, List.set_cons_succ])
        refine takeL (i := 18) (v := ?_) rfl (by kernel_rfl) (by kernel_rfl) (by kernel_rfl) (fun _ _ _ h => h) (Or.inl ⟨by rfl, ?_⟩) (unhide HH) ?_
        rotate_left 1
        · intro W hSW; go_simp; all_goals (with_reducible rfl)
        (try simp only [Act.put, List.setIfInBounds_toArray, List.set_cons_zero, List.set_cons_succ])
        refine takeL (i := 19) (v := ?_) rfl (by kernel_rfl) (by kernel_rfl) (by kernel_rfl) (fun _ _ _ h => h) (Or.inl ⟨by rfl, ?_⟩) (unhide HH) ?_
        rotate_left 1
        · intro W hSW; go_simp; all_goals (with_reducible rfl)
        (try simp only [Act.put, List.setIfInBounds_toArray, List.set_cons_zero, List.set_cons_succ])
        refine takeL (i := 20) (v := ?_) rfl (by kernel_rfl) (by kernel_rfl) (by kernel_rfl) (fun _ _ _ h => h) (Or.inl ⟨by rfl, ?_⟩) (unhide HH) ?_
        rotate_left 1
        · intro W hSW; go_simp; all_goals (with_reducible rfl)
        (try simp only [Act.put, List.setIfInBounds_toArray, List.set_cons_zero, List.set_cons_succ])
        refine wpAnyH_ready (rs := [13]) (by kernel_rfl) (by simp) ?_
        refine consL rfl (fun K hK => ?_) AllReadyH.nil
        have hc4 := ((unhide HB).of (w' := wr.drew) rfl).cell (j := j) (by omega)
        go_simp
        refine hK.out _ _ (unhide HH) (fun hHeld => ?_)
        clear hK K HH
        have HH := hide hHeld
        clear hHeld
        (try simp only [Act.put, List.setIfInBounds_toArray, List.set_cons_zero, List.set_cons_succ])
        clear hc4
        refine takeL (i := 21) (v := ?_) rfl (by kernel_rfl) (by kernel_rfl) (by kernel_rfl) (fun _ _ _ h => h) (Or.inl ⟨by rfl, ?_⟩) (unhide HH) ?_
        rotate_left 1
        · intro W hSW; go_simp; all_goals (with_reducible rfl)
        (try simp only [Act.put, List.setIfInBounds_toArray, List.set_cons_zero, List.set_cons_succ])
        refine takeL (i := 22) (v := ?_) rfl (by kernel_rfl) (by kernel_rfl) (by kernel_rfl) (fun _ _ _ h => h) (Or.inl ⟨by rfl, ?_⟩) (unhide HH) ?_
        rotate_left 1
        · intro W hSW; go_simp; all_goals (with_reducible rfl)
        (try simp only [Act.put, List.setIfInBounds_toArray, List.set_cons_zero, List.set_cons_succ])
        refine wpAnyH_ready (rs := [23]) (by kernel_rfl) (by simp) ?_
        refine consL rfl (fun K hK => ?_) AllReadyH.nil
        have hc4 := ((unhide HB).of (w' := wr.drew) rfl).cell (j := j) (by omega)
        have hf4 := ((unhide HB).of (w' := wr.drew) rfl).free (j := j)
        have HH2 := HH
        go_simp
        refine hK.out _ _ ((unhide HH2).setCell ⟨q, j, none⟩ _ (.inl (by simp))) (fun hHeld => ?_)
        clear hHeld hK K hc4 hf4
        (try simp only [Act.put, List.setIfInBounds_toArray, List.set_cons_zero, List.set_cons_succ])
        refine wpAnyH_done (by kernel_rfl) ?_ _
        refine NoPanic.normal ?_
        go_wp2_with fail
        go_roundw
        case rel => exact ⟨i + 1, by go_num, by omega, by rw [unhide HFT, unhide HFL]; exact ((unhide HB).set j _ (by omega)).of rfl, ((unhide HK).setCell ⟨q, j, none⟩ _ (.inr (by omega))).drew⟩
        case measure => simp [intOf]; omega
      · have hi2 : i = l.length := by omega
        subst hi2
        rw [List.take_length] at hB
        have hc := cut_arg hB (flips_bs hbs l) (by rw [flips_len, hs]) hq1 hq2
        have HC := hide hc
        have HT := hide ((unhide HB2).trans ((unhide HK).below.mono hw2))
        have hcq : ¬ cq = 4 := by omega
        have hcq2 : (4 : Int) ≤ (cq : Int) := by omega
        clear hB hc
        go_wp2
        go_returns
        exact ⟨unhide HT, .inl ⟨l, unhide HG, hl3, q, cq - 4, rfl, unhide HC⟩⟩
  · have HN : Hid (∀ l, Good (syn s) l → 4 ≤ l.length) := fun l h => hn l (h.congr (fun _ h1 h8 => (Sf_syn s h1 h8).symm))
    clear hn
    go_wp2
    go_returns
    exact ⟨unhide HB2, .inr ⟨unhide HN, rfl⟩⟩

end Go.Proofs.Ytahjcahmlangiaa
