/-
  The walk of EntryUnlike.
-/
import Derived.Test.YtabfaehpopeckaaXCut
import Derived.Test.YtabfaehpopeckaaXBou
namespace Go.Proofs.Ytabfaehpopeckaa
open Go.RowKit Go.Shelf

theorem build_TH (a b c e : Int) (w : World) : (Instr.build 29 #[(0, .int .i64 a), (1, .int .i64 b), (2, .int .i64 c), (3, .int .i64 e)]).run Try.prog w = .ok (.agg (headA a b c e)) w := run_build w 29 _ _ (by kernel_rfl)
theorem bs_nat10 {a : List Int} (h : Byt a) : Bs (nat10 a) := Bs.of (fun x hx => by
  obtain ⟨z, hz, rfl⟩ := List.mem_map.1 hx
  have := h z hz
  omega)
theorem str_neZ {a b : List Int} (ha : Byt a) (hb : Byt b) (h : a ≠ b) : ((strOf a).toList == (strOf b).toList) = false := by
  have e1 : ints (nat10 a) = a := ints_nat10 (fun z hz => (ha z hz).1)
  have e2 : ints (nat10 b) = b := ints_nat10 (fun z hz => (hb z hz).1)
  rw [← e1, ← e2]
  exact str_ne (bs_nat10 ha) (bs_nat10 hb) (fun e => h (by rw [← e1, ← e2, e]))
theorem ints_inj10 {a b : List Nat} (h : ints a = ints b) : a = b := by rw [← nat10_ints a, ← nat10_ints b, h]
theorem okE_rng {k l s : Int} {d : List Nat} (h : okE k l s d) : k % 256 = k ∧ wrap64 l = l ∧ wrap64 s = s := by
  have hk := h.1
  have hl : -9223372036854775808 ≤ l ∧ l ≤ 9223372036854775807 := by
    by_cases hq : k = 1 ∨ k = 2
    · have := (h.2.1 hq).1; omega
    · have := (h.2.2.1 hq).1; omega
  have hs : -9223372036854775808 ≤ s ∧ s ≤ 9223372036854775807 := by
    by_cases hq : k = 1 ∨ k = 2
    · have := (h.2.1 hq).2; omega
    · have := (h.2.2.1 hq).2; omega
  exact ⟨by omega, wrap64_in10 hl, wrap64_in10 hs⟩
/-- Unlike heads, or slots, are other bytes. -/
theorem byT_inj {a b c e k l s a' b' c' e' k' l' s' : Int} {d d' : List Nat} (hd : d.length = 16) (hd' : d'.length = 16) (hb : ∀ x ∈ d, x < 256) (hb' : ∀ x ∈ d', x < 256) (ok : okE k l s d) (ok' : okE k' l' s' d')
    (ha : 0 ≤ a ∧ a < 100000) (ha' : 0 ≤ a' ∧ a' < 100000) (h1 : 0 ≤ b ∧ b < 256) (h1' : 0 ≤ b' ∧ b' < 256) (h2 : 0 ≤ c ∧ c < 256) (h2' : 0 ≤ c' ∧ c' < 256) (h3 : 0 ≤ e ∧ e < 256) (h3' : 0 ≤ e' ∧ e' < 256)
    (h : byT a b c e k l s d = byT a' b' c' e' k' l' s' d') : (k = k' ∧ l = l' ∧ s = s' ∧ d = d') ∧ a = a' ∧ b = b' ∧ c = c' ∧ e = e' := by
  obtain ⟨p1, p2, _, _⟩ := read_byW a b c e k l s d [0, 0, 0, 0] hd rfl hb (by simp)
  obtain ⟨q1, q2, _, _⟩ := read_byW a' b' c' e' k' l' s' d' [0, 0, 0, 0] hd' rfl hb' (by simp)
  unfold byT at h
  rw [h, q1] at p1
  rw [h, q2] at p2
  obtain ⟨o1, o2, o3⟩ := okE_rng ok
  obtain ⟨o1', o2', o3'⟩ := okE_rng ok'
  rw [o1, o2, o3, o1', o2', o3'] at p2
  rw [wrap64_in10 (v := a) ⟨by omega, by omega⟩, wrap64_in10 (v := a') ⟨by omega, by omega⟩] at p1
  simp only [List.cons.injEq, and_true] at p1 p2
  obtain ⟨x1, x2, x3, x4⟩ := p1
  obtain ⟨y1, y2, y3, y4⟩ := p2
  exact ⟨⟨y1.symm, y2.symm, y3.symm, (ints_inj10 y4).symm⟩, x1.symm, by omega, by omega, by omega⟩

set_option maxRecDepth 100000 in
set_option maxHeartbeats 32000000 in
theorem unlike_any (k l s : Int) (d : List Nat) (hd : d.length = 16) (hdb : ∀ j, cf d j < 256) (k' l' s' : Int) (d' : List Nat) (hd' : d'.length = 16) (hdb' : ∀ j, cf d' j < 256) (a0 a1 a2 a3 b0 b1 b2 b3 : Int) (w : World) :
    Calls Try.prog 7 #[.agg (entA k l s d), .agg (entA k' l' s' d'), .agg (headA a0 a1 a2 a3), .agg (headA b0 b1 b2 b3)] w fun e w' => e = .returned (.bool true) ∧ Below w.heap.size w w' := by
  obtain ⟨P0, hP0, P0l, P0u⟩ : ∃ r : Int, a0 % 99 = r ∧ 0 ≤ r ∧ r < 99 := ⟨_, rfl, Int.emod_nonneg _ (by omega), Int.emod_lt_of_pos _ (by omega)⟩
  have HP0 := hide hP0
  clear hP0
  obtain ⟨Q0, hQ0, Q0l, Q0u⟩ : ∃ r : Int, b0 % 99 = r ∧ 0 ≤ r ∧ r < 99 := ⟨_, rfl, Int.emod_nonneg _ (by omega), Int.emod_lt_of_pos _ (by omega)⟩
  have HQ0 := hide hQ0
  clear hQ0
  obtain ⟨P1, hP1, P1l, P1u⟩ : ∃ r : Int, a1 % 256 = r ∧ 0 ≤ r ∧ r < 256 := ⟨_, rfl, Int.emod_nonneg _ (by omega), Int.emod_lt_of_pos _ (by omega)⟩
  have HP1 := hide hP1
  clear hP1
  obtain ⟨Q1, hQ1, Q1l, Q1u⟩ : ∃ r : Int, b1 % 256 = r ∧ 0 ≤ r ∧ r < 256 := ⟨_, rfl, Int.emod_nonneg _ (by omega), Int.emod_lt_of_pos _ (by omega)⟩
  have HQ1 := hide hQ1
  clear hQ1
  obtain ⟨P2, hP2, P2l, P2u⟩ : ∃ r : Int, a2 % 256 = r ∧ 0 ≤ r ∧ r < 256 := ⟨_, rfl, Int.emod_nonneg _ (by omega), Int.emod_lt_of_pos _ (by omega)⟩
  have HP2 := hide hP2
  clear hP2
  obtain ⟨Q2, hQ2, Q2l, Q2u⟩ : ∃ r : Int, b2 % 256 = r ∧ 0 ≤ r ∧ r < 256 := ⟨_, rfl, Int.emod_nonneg _ (by omega), Int.emod_lt_of_pos _ (by omega)⟩
  have HQ2 := hide hQ2
  clear hQ2
  obtain ⟨P3, hP3, P3l, P3u⟩ : ∃ r : Int, a3 % 256 = r ∧ 0 ≤ r ∧ r < 256 := ⟨_, rfl, Int.emod_nonneg _ (by omega), Int.emod_lt_of_pos _ (by omega)⟩
  have HP3 := hide hP3
  clear hP3
  obtain ⟨Q3, hQ3, Q3l, Q3u⟩ : ∃ r : Int, b3 % 256 = r ∧ 0 ≤ r ∧ r < 256 := ⟨_, rfl, Int.emod_nonneg _ (by omega), Int.emod_lt_of_pos _ (by omega)⟩
  have HQ3 := hide hQ3
  clear hQ3
  have HOK := hide (gd_ok k l s d)
  have HGL := hide (gdD_len (k := k) hd)
  have HGB := hide (gd_lt k hdb)
  have HOK' := hide (gd_ok k' l' s' d')
  have HGL' := hide (gdD_len (k := k') hd')
  have HGB' := hide (gd_lt k' hdb')
  clear hdb hdb'
  obtain ⟨w1, hw1⟩ : ∃ w1, (((w.alloc (.cells (entA k l s d) 24)).alloc (.cells (entA k' l' s' d') 24)).alloc (.cells (headA a0 a1 a2 a3) 29)).alloc (.cells (headA b0 b1 b2 b3) 29) = w1 := ⟨_, rfl⟩
  have h4 : AtB w1 w.heap.size (entA k l s d) 24 ∧ AtB w1 (w.heap.size + 1) (entA k' l' s' d') 24 ∧ AtB w1 (w.heap.size + 1 + 1) (headA a0 a1 a2 a3) 29 ∧ AtB w1 (w.heap.size + 1 + 1 + 1) (headA b0 b1 b2 b3) 29 ∧ Below w.heap.size w w1 := by
    rw [← hw1]
    have k1 := (Below.refl _ w).alloc (Nat.le_refl _) (.cells (entA k l s d) 24)
    refine ⟨⟨?_⟩, ⟨?_⟩, ⟨?_⟩, ⟨?_⟩, ?_⟩
    · rw [Below.heap_alloc _ _ _ (by simp <;> omega), Below.heap_alloc _ _ _ (by simp <;> omega), Below.heap_alloc _ _ _ (by simp)]
      exact World.alloc_heap_new w _
    · rw [Below.heap_alloc _ _ _ (by simp <;> omega), Below.heap_alloc _ _ _ (by simp)]
      have := World.alloc_heap_new (w.alloc (.cells (entA k l s d) 24)) (.cells (entA k' l' s' d') 24)
      rwa [World.size_alloc] at this
    · rw [Below.heap_alloc _ _ _ (by simp)]
      have := World.alloc_heap_new ((w.alloc (.cells (entA k l s d) 24)).alloc (.cells (entA k' l' s' d') 24)) (.cells (headA a0 a1 a2 a3) 29)
      rwa [World.size_alloc, World.size_alloc] at this
    · have := World.alloc_heap_new (((w.alloc (.cells (entA k l s d) 24)).alloc (.cells (entA k' l' s' d') 24)).alloc (.cells (headA a0 a1 a2 a3) 29)) (.cells (headA b0 b1 b2 b3) 29)
      rwa [World.size_alloc, World.size_alloc, World.size_alloc] at this
    · exact (((k1.alloc (by simp) _).alloc (by simp <;> omega) _).alloc (by simp <;> omega) _)
  obtain ⟨hA, hB, hP, hQ, hT⟩ := h4
  have HBA := hide hA
  have HBB := hide hB
  have HBP := hide hP
  have HBQ := hide hQ
  have HT := hide hT
  clear hA hB hP hQ hT
  go_enter Try.func7, Try.ntmps7
  go_wp2_with fail
  clear hw1
  refine (known10_any _).mono ?_
  rintro e w2 ⟨rfl, hk⟩
  replace HT := hide ((unhide HT).trans (hk.mono (unhide HT).size))
  replace HBA := hide ((unhide HBA).below hk)
  replace HBB := hide ((unhide HBB).below hk)
  replace HBP := hide ((unhide HBP).below hk)
  replace HBQ := hide ((unhide HBQ).below hk)
  clear hk
  go_wp2_with fail
  refine Code.wp_mono (Q := fun e a W => e = .normal ∧ ∃ n9 n10, a = { tmps := #[.agg (entA k l s d), .agg (entA k' l' s' d'), .agg (headA a0 a1 a2 a3), .agg (headA b0 b1 b2 b3), .pointer (some ⟨w.heap.size, 0, none⟩), .pointer (some ⟨w.heap.size + 1, 0, none⟩), .pointer (some ⟨w.heap.size + 1 + 1, 0, none⟩), .pointer (some ⟨w.heap.size + 1 + 1 + 1, 0, none⟩), .bool false, .pointer (some ⟨n9, 0, none⟩), .pointer (some ⟨n10, 0, none⟩), undef, undef, .bool true, .bool false, .agg (entA k l s d), .agg (entA (gdK k) (gdLb k l) (gdS k s) (gdD k d)), .agg (entA k' l' s' d'), .agg (entA (gdK k') (gdLb k' l') (gdS k' s') (gdD k' d')), undef, undef, undef, undef, undef, undef, undef, undef, undef, undef, undef, undef, undef, undef, undef, undef, undef, undef, undef, undef, undef, undef, undef, undef, undef, undef, undef, undef, undef, undef, undef, undef, undef, undef, undef, undef, undef, undef, undef, undef, undef, undef, undef, undef, undef, undef], defers := [] } ∧ AtB W n9 (entA (gdK k) (gdLb k l) (gdS k s) (gdD k d)) 24 ∧ AtB W n10 (entA (gdK k') (gdLb k' l') (gdS k' s') (gdD k' d')) 24 ∧ AtB W (w.heap.size + 1 + 1) (headA a0 a1 a2 a3) 29 ∧ AtB W (w.heap.size + 1 + 1 + 1) (headA b0 b1 b2 b3) 29 ∧ Below w.heap.size w W) ?_ ?_
  rotate_left 1
  · replace HT := hide ((unhide HT).drew)
    replace HBA := hide ((unhide HBA).below (Below.refl _ _).drew)
    replace HBB := hide ((unhide HBB).below (Below.refl _ _).drew)
    replace HBP := hide ((unhide HBP).below (Below.refl _ _).drew)
    replace HBQ := hide ((unhide HBQ).below (Below.refl _ _).drew)
    refine wp_region_noPanic ?_
    refine wp_region_held_drew (S := fun V => Below w2.drew.heap.size w2.drew V) (by kernel_rfl) (Below.refl _ _) (fun hHeld => ?_)
    have HH := hide hHeld
    clear hHeld
    generalize w2.drew = wc at HT HBA HBB HBP HBQ HH ⊢
    refine takeL (i := 0) (v := .agg (entA k l s d)) rfl (by kernel_rfl) (by kernel_rfl) (by kernel_rfl) (fun _ _ _ h => h) (Or.inl ⟨by rfl, fun W1 hSW => run_load_agg9 rfl rfl (load_TE ((unhide HBA).below hSW).blk (entA_size hd))⟩) (unhide HH) ?_
    (try simp only [Act.put, List.setIfInBounds_toArray, List.set_cons_zero, List.set_cons_succ])
    refine takeL (i := 2) (v := .agg (entA k' l' s' d')) rfl (by kernel_rfl) (by kernel_rfl) (by kernel_rfl) (fun _ _ _ h => h) (Or.inl ⟨by rfl, fun W1 hSW => run_load_agg9 rfl rfl (load_TE ((unhide HBB).below hSW).blk (entA_size hd'))⟩) (unhide HH) ?_
    (try simp only [Act.put, List.setIfInBounds_toArray, List.set_cons_zero, List.set_cons_succ])
    refine wpAnyH_ready (rs := [1, 4, 5]) (by kernel_rfl) (by simp) ?_
    refine consL rfl (fun K hK => ?_) (consL rfl (fun K hK => ?_) (consL rfl (fun K hK => ?_) AllReadyH.nil))
    focus
      go_simp
      refine (good_any k l s d hd _).mono ?_
      rintro e w21 ⟨rfl, hk⟩
      have hS : Below wc.heap.size wc w21 := (unhide HH).trans (hk.mono (unhide HH).size)
      clear hk
      refine hK.out _ _ hS (fun hHeld => ?_)
      clear hK K HH hS
      have HH := hide hHeld
      clear hHeld
      (try simp only [Act.put, List.setIfInBounds_toArray, List.set_cons_zero, List.set_cons_succ])
      refine wpAnyH_ready (rs := [3, 4, 5]) (by kernel_rfl) (by simp) ?_
      refine consL rfl (fun K hK => ?_) (consL rfl (fun K hK => ?_) (consL rfl (fun K hK => ?_) AllReadyH.nil))
      focus
        go_simp
        refine (good_any k' l' s' d' hd' _).mono ?_
        rintro e w22 ⟨rfl, hk⟩
        have hS : Below wc.heap.size wc w22 := (unhide HH).trans (hk.mono (unhide HH).size)
        clear hk
        refine hK.out _ _ hS (fun hHeld => ?_)
        clear hK K HH hS
        have HH := hide hHeld
        clear hHeld
        (try simp only [Act.put, List.setIfInBounds_toArray, List.set_cons_zero, List.set_cons_succ])
        refine wpAnyH_ready (rs := [4, 5]) (by kernel_rfl) (by simp) ?_
        refine consL rfl (fun K hK => ?_) (consL rfl (fun K hK => ?_) AllReadyH.nil)
        focus
          go_simp
          have hk : Below w22.heap.size w22 (w22.alloc (.cells #[.int .i64 0, .int .i64 0, .int .i64 0, .int .u8 0, .int .u8 0, .int .u8 0, .int .u8 0, .int .u8 0, .int .u8 0, .int .u8 0, .int .u8 0, .int .u8 0, .int .u8 0, .int .u8 0, .int .u8 0, .int .u8 0, .int .u8 0, .int .u8 0, .int .u8 0] 24)) := (Below.refl _ _).alloc (Nat.le_refl _) _
          have hN : AtB (w22.alloc (.cells #[.int .i64 0, .int .i64 0, .int .i64 0, .int .u8 0, .int .u8 0, .int .u8 0, .int .u8 0, .int .u8 0, .int .u8 0, .int .u8 0, .int .u8 0, .int .u8 0, .int .u8 0, .int .u8 0, .int .u8 0, .int .u8 0, .int .u8 0, .int .u8 0, .int .u8 0] 24)) w22.heap.size #[.int .i64 0, .int .i64 0, .int .i64 0, .int .u8 0, .int .u8 0, .int .u8 0, .int .u8 0, .int .u8 0, .int .u8 0, .int .u8 0, .int .u8 0, .int .u8 0, .int .u8 0, .int .u8 0, .int .u8 0, .int .u8 0, .int .u8 0, .int .u8 0, .int .u8 0] 24 := ⟨World.alloc_heap_new w22 _⟩
          have hb0 : wc.heap.size ≤ w22.heap.size := (unhide HH).size
          have hS : Below wc.heap.size wc (w22.alloc (.cells #[.int .i64 0, .int .i64 0, .int .i64 0, .int .u8 0, .int .u8 0, .int .u8 0, .int .u8 0, .int .u8 0, .int .u8 0, .int .u8 0, .int .u8 0, .int .u8 0, .int .u8 0, .int .u8 0, .int .u8 0, .int .u8 0, .int .u8 0, .int .u8 0, .int .u8 0] 24)) := (unhide HH).trans (hk.mono (unhide HH).size)
          generalize w22.alloc (.cells #[.int .i64 0, .int .i64 0, .int .i64 0, .int .u8 0, .int .u8 0, .int .u8 0, .int .u8 0, .int .u8 0, .int .u8 0, .int .u8 0, .int .u8 0, .int .u8 0, .int .u8 0, .int .u8 0, .int .u8 0, .int .u8 0, .int .u8 0, .int .u8 0, .int .u8 0] 24) = w23 at hk hN hS ⊢
          obtain ⟨n9, hn9⟩ : ∃ b, w22.heap.size = b := ⟨_, rfl⟩
          have HG9 : Hid (wc.heap.size ≤ n9) := by rw [← hn9]; exact hb0
          rw [hn9] at hN ⊢
          have HN9 := hide hN
          clear hk hN hb0 hn9
          refine hK.out _ _ hS (fun hHeld => ?_)
          clear hK K HH hS
          have HH := hide hHeld
          clear hHeld
          (try simp only [Act.put, List.setIfInBounds_toArray, List.set_cons_zero, List.set_cons_succ])
          refine wpAnyH_ready (rs := [5]) (by kernel_rfl) (by simp) ?_
          refine consL rfl (fun K hK => ?_) AllReadyH.nil
          go_simp
          have hk : Below w23.heap.size w23 (w23.alloc (.cells #[.int .i64 0, .int .i64 0, .int .i64 0, .int .u8 0, .int .u8 0, .int .u8 0, .int .u8 0, .int .u8 0, .int .u8 0, .int .u8 0, .int .u8 0, .int .u8 0, .int .u8 0, .int .u8 0, .int .u8 0, .int .u8 0, .int .u8 0, .int .u8 0, .int .u8 0] 24)) := (Below.refl _ _).alloc (Nat.le_refl _) _
          have hN : AtB (w23.alloc (.cells #[.int .i64 0, .int .i64 0, .int .i64 0, .int .u8 0, .int .u8 0, .int .u8 0, .int .u8 0, .int .u8 0, .int .u8 0, .int .u8 0, .int .u8 0, .int .u8 0, .int .u8 0, .int .u8 0, .int .u8 0, .int .u8 0, .int .u8 0, .int .u8 0, .int .u8 0] 24)) w23.heap.size #[.int .i64 0, .int .i64 0, .int .i64 0, .int .u8 0, .int .u8 0, .int .u8 0, .int .u8 0, .int .u8 0, .int .u8 0, .int .u8 0, .int .u8 0, .int .u8 0, .int .u8 0, .int .u8 0, .int .u8 0, .int .u8 0, .int .u8 0, .int .u8 0, .int .u8 0] 24 := ⟨World.alloc_heap_new w23 _⟩
          have hb0 : wc.heap.size ≤ w23.heap.size := (unhide HH).size
          have hS : Below wc.heap.size wc (w23.alloc (.cells #[.int .i64 0, .int .i64 0, .int .i64 0, .int .u8 0, .int .u8 0, .int .u8 0, .int .u8 0, .int .u8 0, .int .u8 0, .int .u8 0, .int .u8 0, .int .u8 0, .int .u8 0, .int .u8 0, .int .u8 0, .int .u8 0, .int .u8 0, .int .u8 0, .int .u8 0] 24)) := (unhide HH).trans (hk.mono (unhide HH).size)
          have hltn9 := (unhide HN9).lt
          generalize w23.alloc (.cells #[.int .i64 0, .int .i64 0, .int .i64 0, .int .u8 0, .int .u8 0, .int .u8 0, .int .u8 0, .int .u8 0, .int .u8 0, .int .u8 0, .int .u8 0, .int .u8 0, .int .u8 0, .int .u8 0, .int .u8 0, .int .u8 0, .int .u8 0, .int .u8 0, .int .u8 0] 24) = w24 at hk hN hS ⊢
          replace HN9 := hide ((unhide HN9).below hk)
          obtain ⟨n10, hn10⟩ : ∃ b, w23.heap.size = b := ⟨_, rfl⟩
          have HG10 : Hid (wc.heap.size ≤ n10) := by rw [← hn10]; exact hb0
          rw [hn10] at hN ⊢
          have HN10 := hide hN
          rw [hn10] at hltn9
          have HD10 : Hid (n9 ≠ n10) := by unfold Hid; omega
          clear hltn9
          clear hk hN hb0 hn10
          refine hK.out _ _ hS (fun hHeld => ?_)
          clear hK K HH hS
          have HH := hide hHeld
          clear hHeld
          (try simp only [Act.put, List.setIfInBounds_toArray, List.set_cons_zero, List.set_cons_succ])
          refine wpAnyH_ready (rs := [6]) (by kernel_rfl) (by simp) ?_
          refine consL rfl (fun K hK => ?_) AllReadyH.nil
          refine wp_store_row (P := Try.prog) 24 (.tmp 9) (.tmp 16) (by rfl) n9 (entA (gdK k) (gdLb k l) (gdS k s) (gdD k d)) (by rfl) (by rfl) 24 #[.int .i64 0, .int .i64 0, .int .i64 0, .int .u8 0, .int .u8 0, .int .u8 0, .int .u8 0, .int .u8 0, .int .u8 0, .int .u8 0, .int .u8 0, .int .u8 0, .int .u8 0, .int .u8 0, .int .u8 0, .int .u8 0, .int .u8 0, .int .u8 0, .int .u8 0] (unhide HN9).blk (by rw [sizeTE, entA_size (unhide HGL)]) (by rw [entA_size (unhide HGL)]; rfl) (entA_one _ _ _ _) ?_
          have hS : Below wc.heap.size wc (w24.setRow n9 (entA (gdK k) (gdLb k l) (gdS k s) (gdD k d))) := below_setRow10 (unhide HH) (unhide HG9) _
          have hN : AtB (w24.setRow n9 (entA (gdK k) (gdLb k l) (gdS k s) (gdD k d))) n9 (entA (gdK k) (gdLb k l) (gdS k s) (gdD k d)) 24 := ⟨setRow_heap _ _ _ _ _ _ (unhide HN9).blk⟩
          have ho10 := (unhide HN10).kp (S := [n9]) (w' := w24.setRow n9 (entA (gdK k) (gdLb k l) (gdS k s) (gdD k d))) ⟨rfl, rfl, rfl, by simp, fun k _ h => setRow_other _ _ k _ (by simpa using h)⟩ (by have h1 := unhide HD10; simp; omega)
          generalize w24.setRow n9 (entA (gdK k) (gdLb k l) (gdS k s) (gdD k d)) = w25 at hS hN ho10 ⊢
          replace HN9 := hide hN
          replace HN10 := hide ho10
          clear hN ho10
          refine hK.out _ _ hS (fun hHeld => ?_)
          clear hK K HH hS
          have HH := hide hHeld
          clear hHeld
          (try simp only [Act.put])
          refine wpAnyH_ready (rs := [7]) (by kernel_rfl) (by simp) ?_
          refine consL rfl (fun K hK => ?_) AllReadyH.nil
          refine wp_store_row (P := Try.prog) 24 (.tmp 10) (.tmp 18) (by rfl) n10 (entA (gdK k') (gdLb k' l') (gdS k' s') (gdD k' d')) (by rfl) (by rfl) 24 #[.int .i64 0, .int .i64 0, .int .i64 0, .int .u8 0, .int .u8 0, .int .u8 0, .int .u8 0, .int .u8 0, .int .u8 0, .int .u8 0, .int .u8 0, .int .u8 0, .int .u8 0, .int .u8 0, .int .u8 0, .int .u8 0, .int .u8 0, .int .u8 0, .int .u8 0] (unhide HN10).blk (by rw [sizeTE, entA_size (unhide HGL')]) (by rw [entA_size (unhide HGL')]; rfl) (entA_one _ _ _ _) ?_
          have hS : Below wc.heap.size wc (w25.setRow n10 (entA (gdK k') (gdLb k' l') (gdS k' s') (gdD k' d'))) := below_setRow10 (unhide HH) (unhide HG10) _
          have hN : AtB (w25.setRow n10 (entA (gdK k') (gdLb k' l') (gdS k' s') (gdD k' d'))) n10 (entA (gdK k') (gdLb k' l') (gdS k' s') (gdD k' d')) 24 := ⟨setRow_heap _ _ _ _ _ _ (unhide HN10).blk⟩
          have ho9 := (unhide HN9).kp (S := [n10]) (w' := w25.setRow n10 (entA (gdK k') (gdLb k' l') (gdS k' s') (gdD k' d'))) ⟨rfl, rfl, rfl, by simp, fun k _ h => setRow_other _ _ k _ (by simpa using h)⟩ (by have h1 := unhide HD10; simp; omega)
          generalize w25.setRow n10 (entA (gdK k') (gdLb k' l') (gdS k' s') (gdD k' d')) = w26 at hS hN ho9 ⊢
          replace HN10 := hide hN
          replace HN9 := hide ho9
          clear hN ho9
          refine hK.out _ _ hS (fun hHeld => ?_)
          clear hK K HH hS
          have HH := hide hHeld
          clear hHeld
          (try simp only [Act.put])
          refine wpAnyH_done (by kernel_rfl) ?_ _
          refine NoPanic.normal ?_
          exact ⟨rfl, _, _, rfl, unhide HN9, unhide HN10, (unhide HBP).below (unhide HH), (unhide HBQ).below (unhide HH), (unhide HT).trans ((unhide HH).mono (unhide HT).size)⟩
        focus
          go_simp
          have hk : Below w22.heap.size w22 (w22.alloc (.cells #[.int .i64 0, .int .i64 0, .int .i64 0, .int .u8 0, .int .u8 0, .int .u8 0, .int .u8 0, .int .u8 0, .int .u8 0, .int .u8 0, .int .u8 0, .int .u8 0, .int .u8 0, .int .u8 0, .int .u8 0, .int .u8 0, .int .u8 0, .int .u8 0, .int .u8 0] 24)) := (Below.refl _ _).alloc (Nat.le_refl _) _
          have hN : AtB (w22.alloc (.cells #[.int .i64 0, .int .i64 0, .int .i64 0, .int .u8 0, .int .u8 0, .int .u8 0, .int .u8 0, .int .u8 0, .int .u8 0, .int .u8 0, .int .u8 0, .int .u8 0, .int .u8 0, .int .u8 0, .int .u8 0, .int .u8 0, .int .u8 0, .int .u8 0, .int .u8 0] 24)) w22.heap.size #[.int .i64 0, .int .i64 0, .int .i64 0, .int .u8 0, .int .u8 0, .int .u8 0, .int .u8 0, .int .u8 0, .int .u8 0, .int .u8 0, .int .u8 0, .int .u8 0, .int .u8 0, .int .u8 0, .int .u8 0, .int .u8 0, .int .u8 0, .int .u8 0, .int .u8 0] 24 := ⟨World.alloc_heap_new w22 _⟩
          have hb0 : wc.heap.size ≤ w22.heap.size := (unhide HH).size
          have hS : Below wc.heap.size wc (w22.alloc (.cells #[.int .i64 0, .int .i64 0, .int .i64 0, .int .u8 0, .int .u8 0, .int .u8 0, .int .u8 0, .int .u8 0, .int .u8 0, .int .u8 0, .int .u8 0, .int .u8 0, .int .u8 0, .int .u8 0, .int .u8 0, .int .u8 0, .int .u8 0, .int .u8 0, .int .u8 0] 24)) := (unhide HH).trans (hk.mono (unhide HH).size)
          generalize w22.alloc (.cells #[.int .i64 0, .int .i64 0, .int .i64 0, .int .u8 0, .int .u8 0, .int .u8 0, .int .u8 0, .int .u8 0, .int .u8 0, .int .u8 0, .int .u8 0, .int .u8 0, .int .u8 0, .int .u8 0, .int .u8 0, .int .u8 0, .int .u8 0, .int .u8 0, .int .u8 0] 24) = w23 at hk hN hS ⊢
          obtain ⟨n10, hn10⟩ : ∃ b, w22.heap.size = b := ⟨_, rfl⟩
          have HG10 : Hid (wc.heap.size ≤ n10) := by rw [← hn10]; exact hb0
          rw [hn10] at hN ⊢
          have HN10 := hide hN
          clear hk hN hb0 hn10
          refine hK.out _ _ hS (fun hHeld => ?_)
          clear hK K HH hS
          have HH := hide hHeld
          clear hHeld
          (try simp only [Act.put, List.setIfInBounds_toArray, List.set_cons_zero, List.set_cons_succ])
          refine wpAnyH_ready (rs := [4]) (by kernel_rfl) (by simp) ?_
          refine consL rfl (fun K hK => ?_) AllReadyH.nil
          go_simp
          have hk : Below w23.heap.size w23 (w23.alloc (.cells #[.int .i64 0, .int .i64 0, .int .i64 0, .int .u8 0, .int .u8 0, .int .u8 0, .int .u8 0, .int .u8 0, .int .u8 0, .int .u8 0, .int .u8 0, .int .u8 0, .int .u8 0, .int .u8 0, .int .u8 0, .int .u8 0, .int .u8 0, .int .u8 0, .int .u8 0] 24)) := (Below.refl _ _).alloc (Nat.le_refl _) _
          have hN : AtB (w23.alloc (.cells #[.int .i64 0, .int .i64 0, .int .i64 0, .int .u8 0, .int .u8 0, .int .u8 0, .int .u8 0, .int .u8 0, .int .u8 0, .int .u8 0, .int .u8 0, .int .u8 0, .int .u8 0, .int .u8 0, .int .u8 0, .int .u8 0, .int .u8 0, .int .u8 0, .int .u8 0] 24)) w23.heap.size #[.int .i64 0, .int .i64 0, .int .i64 0, .int .u8 0, .int .u8 0, .int .u8 0, .int .u8 0, .int .u8 0, .int .u8 0, .int .u8 0, .int .u8 0, .int .u8 0, .int .u8 0, .int .u8 0, .int .u8 0, .int .u8 0, .int .u8 0, .int .u8 0, .int .u8 0] 24 := ⟨World.alloc_heap_new w23 _⟩
          have hb0 : wc.heap.size ≤ w23.heap.size := (unhide HH).size
          have hS : Below wc.heap.size wc (w23.alloc (.cells #[.int .i64 0, .int .i64 0, .int .i64 0, .int .u8 0, .int .u8 0, .int .u8 0, .int .u8 0, .int .u8 0, .int .u8 0, .int .u8 0, .int .u8 0, .int .u8 0, .int .u8 0, .int .u8 0, .int .u8 0, .int .u8 0, .int .u8 0, .int .u8 0, .int .u8 0] 24)) := (unhide HH).trans (hk.mono (unhide HH).size)
          have hltn10 := (unhide HN10).lt
          generalize w23.alloc (.cells #[.int .i64 0, .int .i64 0, .int .i64 0, .int .u8 0, .int .u8 0, .int .u8 0, .int .u8 0, .int .u8 0, .int .u8 0, .int .u8 0, .int .u8 0, .int .u8 0, .int .u8 0, .int .u8 0, .int .u8 0, .int .u8 0, .int .u8 0, .int .u8 0, .int .u8 0] 24) = w24 at hk hN hS ⊢
          replace HN10 := hide ((unhide HN10).below hk)
          obtain ⟨n9, hn9⟩ : ∃ b, w23.heap.size = b := ⟨_, rfl⟩
          have HG9 : Hid (wc.heap.size ≤ n9) := by rw [← hn9]; exact hb0
          rw [hn9] at hN ⊢
          have HN9 := hide hN
          rw [hn9] at hltn10
          have HD9 : Hid (n10 ≠ n9) := by unfold Hid; omega
          clear hltn10
          clear hk hN hb0 hn9
          refine hK.out _ _ hS (fun hHeld => ?_)
          clear hK K HH hS
          have HH := hide hHeld
          clear hHeld
          (try simp only [Act.put, List.setIfInBounds_toArray, List.set_cons_zero, List.set_cons_succ])
          refine wpAnyH_ready (rs := [6]) (by kernel_rfl) (by simp) ?_
          refine consL rfl (fun K hK => ?_) AllReadyH.nil
          refine wp_store_row (P := Try.prog) 24 (.tmp 9) (.tmp 16) (by rfl) n9 (entA (gdK k) (gdLb k l) (gdS k s) (gdD k d)) (by rfl) (by rfl) 24 #[.int .i64 0, .int .i64 0, .int .i64 0, .int .u8 0, .int .u8 0, .int .u8 0, .int .u8 0, .int .u8 0, .int .u8 0, .int .u8 0, .int .u8 0, .int .u8 0, .int .u8 0, .int .u8 0, .int .u8 0, .int .u8 0, .int .u8 0, .int .u8 0, .int .u8 0] (unhide HN9).blk (by rw [sizeTE, entA_size (unhide HGL)]) (by rw [entA_size (unhide HGL)]; rfl) (entA_one _ _ _ _) ?_
          have hS : Below wc.heap.size wc (w24.setRow n9 (entA (gdK k) (gdLb k l) (gdS k s) (gdD k d))) := below_setRow10 (unhide HH) (unhide HG9) _
          have hN : AtB (w24.setRow n9 (entA (gdK k) (gdLb k l) (gdS k s) (gdD k d))) n9 (entA (gdK k) (gdLb k l) (gdS k s) (gdD k d)) 24 := ⟨setRow_heap _ _ _ _ _ _ (unhide HN9).blk⟩
          have ho10 := (unhide HN10).kp (S := [n9]) (w' := w24.setRow n9 (entA (gdK k) (gdLb k l) (gdS k s) (gdD k d))) ⟨rfl, rfl, rfl, by simp, fun k _ h => setRow_other _ _ k _ (by simpa using h)⟩ (by have h1 := unhide HD9; simp; omega)
          generalize w24.setRow n9 (entA (gdK k) (gdLb k l) (gdS k s) (gdD k d)) = w25 at hS hN ho10 ⊢
          replace HN9 := hide hN
          replace HN10 := hide ho10
          clear hN ho10
          refine hK.out _ _ hS (fun hHeld => ?_)
          clear hK K HH hS
          have HH := hide hHeld
          clear hHeld
          (try simp only [Act.put])
          refine wpAnyH_ready (rs := [7]) (by kernel_rfl) (by simp) ?_
          refine consL rfl (fun K hK => ?_) AllReadyH.nil
          refine wp_store_row (P := Try.prog) 24 (.tmp 10) (.tmp 18) (by rfl) n10 (entA (gdK k') (gdLb k' l') (gdS k' s') (gdD k' d')) (by rfl) (by rfl) 24 #[.int .i64 0, .int .i64 0, .int .i64 0, .int .u8 0, .int .u8 0, .int .u8 0, .int .u8 0, .int .u8 0, .int .u8 0, .int .u8 0, .int .u8 0, .int .u8 0, .int .u8 0, .int .u8 0, .int .u8 0, .int .u8 0, .int .u8 0, .int .u8 0, .int .u8 0] (unhide HN10).blk (by rw [sizeTE, entA_size (unhide HGL')]) (by rw [entA_size (unhide HGL')]; rfl) (entA_one _ _ _ _) ?_
          have hS : Below wc.heap.size wc (w25.setRow n10 (entA (gdK k') (gdLb k' l') (gdS k' s') (gdD k' d'))) := below_setRow10 (unhide HH) (unhide HG10) _
          have hN : AtB (w25.setRow n10 (entA (gdK k') (gdLb k' l') (gdS k' s') (gdD k' d'))) n10 (entA (gdK k') (gdLb k' l') (gdS k' s') (gdD k' d')) 24 := ⟨setRow_heap _ _ _ _ _ _ (unhide HN10).blk⟩
          have ho9 := (unhide HN9).kp (S := [n10]) (w' := w25.setRow n10 (entA (gdK k') (gdLb k' l') (gdS k' s') (gdD k' d'))) ⟨rfl, rfl, rfl, by simp, fun k _ h => setRow_other _ _ k _ (by simpa using h)⟩ (by have h1 := unhide HD9; simp; omega)
          generalize w25.setRow n10 (entA (gdK k') (gdLb k' l') (gdS k' s') (gdD k' d')) = w26 at hS hN ho9 ⊢
          replace HN10 := hide hN
          replace HN9 := hide ho9
          clear hN ho9
          refine hK.out _ _ hS (fun hHeld => ?_)
          clear hK K HH hS
          have HH := hide hHeld
          clear hHeld
          (try simp only [Act.put])
          refine wpAnyH_done (by kernel_rfl) ?_ _
          refine NoPanic.normal ?_
          exact ⟨rfl, _, _, rfl, unhide HN9, unhide HN10, (unhide HBP).below (unhide HH), (unhide HBQ).below (unhide HH), (unhide HT).trans ((unhide HH).mono (unhide HT).size)⟩
      focus
        go_simp
        have hk : Below w21.heap.size w21 (w21.alloc (.cells #[.int .i64 0, .int .i64 0, .int .i64 0, .int .u8 0, .int .u8 0, .int .u8 0, .int .u8 0, .int .u8 0, .int .u8 0, .int .u8 0, .int .u8 0, .int .u8 0, .int .u8 0, .int .u8 0, .int .u8 0, .int .u8 0, .int .u8 0, .int .u8 0, .int .u8 0] 24)) := (Below.refl _ _).alloc (Nat.le_refl _) _
        have hN : AtB (w21.alloc (.cells #[.int .i64 0, .int .i64 0, .int .i64 0, .int .u8 0, .int .u8 0, .int .u8 0, .int .u8 0, .int .u8 0, .int .u8 0, .int .u8 0, .int .u8 0, .int .u8 0, .int .u8 0, .int .u8 0, .int .u8 0, .int .u8 0, .int .u8 0, .int .u8 0, .int .u8 0] 24)) w21.heap.size #[.int .i64 0, .int .i64 0, .int .i64 0, .int .u8 0, .int .u8 0, .int .u8 0, .int .u8 0, .int .u8 0, .int .u8 0, .int .u8 0, .int .u8 0, .int .u8 0, .int .u8 0, .int .u8 0, .int .u8 0, .int .u8 0, .int .u8 0, .int .u8 0, .int .u8 0] 24 := ⟨World.alloc_heap_new w21 _⟩
        have hb0 : wc.heap.size ≤ w21.heap.size := (unhide HH).size
        have hS : Below wc.heap.size wc (w21.alloc (.cells #[.int .i64 0, .int .i64 0, .int .i64 0, .int .u8 0, .int .u8 0, .int .u8 0, .int .u8 0, .int .u8 0, .int .u8 0, .int .u8 0, .int .u8 0, .int .u8 0, .int .u8 0, .int .u8 0, .int .u8 0, .int .u8 0, .int .u8 0, .int .u8 0, .int .u8 0] 24)) := (unhide HH).trans (hk.mono (unhide HH).size)
        generalize w21.alloc (.cells #[.int .i64 0, .int .i64 0, .int .i64 0, .int .u8 0, .int .u8 0, .int .u8 0, .int .u8 0, .int .u8 0, .int .u8 0, .int .u8 0, .int .u8 0, .int .u8 0, .int .u8 0, .int .u8 0, .int .u8 0, .int .u8 0, .int .u8 0, .int .u8 0, .int .u8 0] 24) = w22 at hk hN hS ⊢
        obtain ⟨n9, hn9⟩ : ∃ b, w21.heap.size = b := ⟨_, rfl⟩
        have HG9 : Hid (wc.heap.size ≤ n9) := by rw [← hn9]; exact hb0
        rw [hn9] at hN ⊢
        have HN9 := hide hN
        clear hk hN hb0 hn9
        refine hK.out _ _ hS (fun hHeld => ?_)
        clear hK K HH hS
        have HH := hide hHeld
        clear hHeld
        (try simp only [Act.put, List.setIfInBounds_toArray, List.set_cons_zero, List.set_cons_succ])
        refine wpAnyH_ready (rs := [3, 5]) (by kernel_rfl) (by simp) ?_
        refine consL rfl (fun K hK => ?_) (consL rfl (fun K hK => ?_) AllReadyH.nil)
        focus
          go_simp
          refine (good_any k' l' s' d' hd' _).mono ?_
          rintro e w23 ⟨rfl, hk⟩
          have hS : Below wc.heap.size wc w23 := (unhide HH).trans (hk.mono (unhide HH).size)
          replace HN9 := hide ((unhide HN9).below hk)
          clear hk
          refine hK.out _ _ hS (fun hHeld => ?_)
          clear hK K HH hS
          have HH := hide hHeld
          clear hHeld
          (try simp only [Act.put, List.setIfInBounds_toArray, List.set_cons_zero, List.set_cons_succ])
          refine wpAnyH_ready (rs := [5]) (by kernel_rfl) (by simp) ?_
          refine consL rfl (fun K hK => ?_) AllReadyH.nil
          go_simp
          have hk : Below w23.heap.size w23 (w23.alloc (.cells #[.int .i64 0, .int .i64 0, .int .i64 0, .int .u8 0, .int .u8 0, .int .u8 0, .int .u8 0, .int .u8 0, .int .u8 0, .int .u8 0, .int .u8 0, .int .u8 0, .int .u8 0, .int .u8 0, .int .u8 0, .int .u8 0, .int .u8 0, .int .u8 0, .int .u8 0] 24)) := (Below.refl _ _).alloc (Nat.le_refl _) _
          have hN : AtB (w23.alloc (.cells #[.int .i64 0, .int .i64 0, .int .i64 0, .int .u8 0, .int .u8 0, .int .u8 0, .int .u8 0, .int .u8 0, .int .u8 0, .int .u8 0, .int .u8 0, .int .u8 0, .int .u8 0, .int .u8 0, .int .u8 0, .int .u8 0, .int .u8 0, .int .u8 0, .int .u8 0] 24)) w23.heap.size #[.int .i64 0, .int .i64 0, .int .i64 0, .int .u8 0, .int .u8 0, .int .u8 0, .int .u8 0, .int .u8 0, .int .u8 0, .int .u8 0, .int .u8 0, .int .u8 0, .int .u8 0, .int .u8 0, .int .u8 0, .int .u8 0, .int .u8 0, .int .u8 0, .int .u8 0] 24 := ⟨World.alloc_heap_new w23 _⟩
          have hb0 : wc.heap.size ≤ w23.heap.size := (unhide HH).size
          have hS : Below wc.heap.size wc (w23.alloc (.cells #[.int .i64 0, .int .i64 0, .int .i64 0, .int .u8 0, .int .u8 0, .int .u8 0, .int .u8 0, .int .u8 0, .int .u8 0, .int .u8 0, .int .u8 0, .int .u8 0, .int .u8 0, .int .u8 0, .int .u8 0, .int .u8 0, .int .u8 0, .int .u8 0, .int .u8 0] 24)) := (unhide HH).trans (hk.mono (unhide HH).size)
          have hltn9 := (unhide HN9).lt
          generalize w23.alloc (.cells #[.int .i64 0, .int .i64 0, .int .i64 0, .int .u8 0, .int .u8 0, .int .u8 0, .int .u8 0, .int .u8 0, .int .u8 0, .int .u8 0, .int .u8 0, .int .u8 0, .int .u8 0, .int .u8 0, .int .u8 0, .int .u8 0, .int .u8 0, .int .u8 0, .int .u8 0] 24) = w24 at hk hN hS ⊢
          replace HN9 := hide ((unhide HN9).below hk)
          obtain ⟨n10, hn10⟩ : ∃ b, w23.heap.size = b := ⟨_, rfl⟩
          have HG10 : Hid (wc.heap.size ≤ n10) := by rw [← hn10]; exact hb0
          rw [hn10] at hN ⊢
          have HN10 := hide hN
          rw [hn10] at hltn9
          have HD10 : Hid (n9 ≠ n10) := by unfold Hid; omega
          clear hltn9
          clear hk hN hb0 hn10
          refine hK.out _ _ hS (fun hHeld => ?_)
          clear hK K HH hS
          have HH := hide hHeld
          clear hHeld
          (try simp only [Act.put, List.setIfInBounds_toArray, List.set_cons_zero, List.set_cons_succ])
          refine wpAnyH_ready (rs := [6]) (by kernel_rfl) (by simp) ?_
          refine consL rfl (fun K hK => ?_) AllReadyH.nil
          refine wp_store_row (P := Try.prog) 24 (.tmp 9) (.tmp 16) (by rfl) n9 (entA (gdK k) (gdLb k l) (gdS k s) (gdD k d)) (by rfl) (by rfl) 24 #[.int .i64 0, .int .i64 0, .int .i64 0, .int .u8 0, .int .u8 0, .int .u8 0, .int .u8 0, .int .u8 0, .int .u8 0, .int .u8 0, .int .u8 0, .int .u8 0, .int .u8 0, .int .u8 0, .int .u8 0, .int .u8 0, .int .u8 0, .int .u8 0, .int .u8 0] (unhide HN9).blk (by rw [sizeTE, entA_size (unhide HGL)]) (by rw [entA_size (unhide HGL)]; rfl) (entA_one _ _ _ _) ?_
          have hS : Below wc.heap.size wc (w24.setRow n9 (entA (gdK k) (gdLb k l) (gdS k s) (gdD k d))) := below_setRow10 (unhide HH) (unhide HG9) _
          have hN : AtB (w24.setRow n9 (entA (gdK k) (gdLb k l) (gdS k s) (gdD k d))) n9 (entA (gdK k) (gdLb k l) (gdS k s) (gdD k d)) 24 := ⟨setRow_heap _ _ _ _ _ _ (unhide HN9).blk⟩
          have ho10 := (unhide HN10).kp (S := [n9]) (w' := w24.setRow n9 (entA (gdK k) (gdLb k l) (gdS k s) (gdD k d))) ⟨rfl, rfl, rfl, by simp, fun k _ h => setRow_other _ _ k _ (by simpa using h)⟩ (by have h1 := unhide HD10; simp; omega)
          generalize w24.setRow n9 (entA (gdK k) (gdLb k l) (gdS k s) (gdD k d)) = w25 at hS hN ho10 ⊢
          replace HN9 := hide hN
          replace HN10 := hide ho10
          clear hN ho10
          refine hK.out _ _ hS (fun hHeld => ?_)
          clear hK K HH hS
          have HH := hide hHeld
          clear hHeld
          (try simp only [Act.put])
          refine wpAnyH_ready (rs := [7]) (by kernel_rfl) (by simp) ?_
          refine consL rfl (fun K hK => ?_) AllReadyH.nil
          refine wp_store_row (P := Try.prog) 24 (.tmp 10) (.tmp 18) (by rfl) n10 (entA (gdK k') (gdLb k' l') (gdS k' s') (gdD k' d')) (by rfl) (by rfl) 24 #[.int .i64 0, .int .i64 0, .int .i64 0, .int .u8 0, .int .u8 0, .int .u8 0, .int .u8 0, .int .u8 0, .int .u8 0, .int .u8 0, .int .u8 0, .int .u8 0, .int .u8 0, .int .u8 0, .int .u8 0, .int .u8 0, .int .u8 0, .int .u8 0, .int .u8 0] (unhide HN10).blk (by rw [sizeTE, entA_size (unhide HGL')]) (by rw [entA_size (unhide HGL')]; rfl) (entA_one _ _ _ _) ?_
          have hS : Below wc.heap.size wc (w25.setRow n10 (entA (gdK k') (gdLb k' l') (gdS k' s') (gdD k' d'))) := below_setRow10 (unhide HH) (unhide HG10) _
          have hN : AtB (w25.setRow n10 (entA (gdK k') (gdLb k' l') (gdS k' s') (gdD k' d'))) n10 (entA (gdK k') (gdLb k' l') (gdS k' s') (gdD k' d')) 24 := ⟨setRow_heap _ _ _ _ _ _ (unhide HN10).blk⟩
          have ho9 := (unhide HN9).kp (S := [n10]) (w' := w25.setRow n10 (entA (gdK k') (gdLb k' l') (gdS k' s') (gdD k' d'))) ⟨rfl, rfl, rfl, by simp, fun k _ h => setRow_other _ _ k _ (by simpa using h)⟩ (by have h1 := unhide HD10; simp; omega)
          generalize w25.setRow n10 (entA (gdK k') (gdLb k' l') (gdS k' s') (gdD k' d')) = w26 at hS hN ho9 ⊢
          replace HN10 := hide hN
          replace HN9 := hide ho9
          clear hN ho9
          refine hK.out _ _ hS (fun hHeld => ?_)
          clear hK K HH hS
          have HH := hide hHeld
          clear hHeld
          (try simp only [Act.put])
          refine wpAnyH_done (by kernel_rfl) ?_ _
          refine NoPanic.normal ?_
          exact ⟨rfl, _, _, rfl, unhide HN9, unhide HN10, (unhide HBP).below (unhide HH), (unhide HBQ).below (unhide HH), (unhide HT).trans ((unhide HH).mono (unhide HT).size)⟩
        focus
          go_simp
          have hk : Below w22.heap.size w22 (w22.alloc (.cells #[.int .i64 0, .int .i64 0, .int .i64 0, .int .u8 0, .int .u8 0, .int .u8 0, .int .u8 0, .int .u8 0, .int .u8 0, .int .u8 0, .int .u8 0, .int .u8 0, .int .u8 0, .int .u8 0, .int .u8 0, .int .u8 0, .int .u8 0, .int .u8 0, .int .u8 0] 24)) := (Below.refl _ _).alloc (Nat.le_refl _) _
          have hN : AtB (w22.alloc (.cells #[.int .i64 0, .int .i64 0, .int .i64 0, .int .u8 0, .int .u8 0, .int .u8 0, .int .u8 0, .int .u8 0, .int .u8 0, .int .u8 0, .int .u8 0, .int .u8 0, .int .u8 0, .int .u8 0, .int .u8 0, .int .u8 0, .int .u8 0, .int .u8 0, .int .u8 0] 24)) w22.heap.size #[.int .i64 0, .int .i64 0, .int .i64 0, .int .u8 0, .int .u8 0, .int .u8 0, .int .u8 0, .int .u8 0, .int .u8 0, .int .u8 0, .int .u8 0, .int .u8 0, .int .u8 0, .int .u8 0, .int .u8 0, .int .u8 0, .int .u8 0, .int .u8 0, .int .u8 0] 24 := ⟨World.alloc_heap_new w22 _⟩
          have hb0 : wc.heap.size ≤ w22.heap.size := (unhide HH).size
          have hS : Below wc.heap.size wc (w22.alloc (.cells #[.int .i64 0, .int .i64 0, .int .i64 0, .int .u8 0, .int .u8 0, .int .u8 0, .int .u8 0, .int .u8 0, .int .u8 0, .int .u8 0, .int .u8 0, .int .u8 0, .int .u8 0, .int .u8 0, .int .u8 0, .int .u8 0, .int .u8 0, .int .u8 0, .int .u8 0] 24)) := (unhide HH).trans (hk.mono (unhide HH).size)
          have hltn9 := (unhide HN9).lt
          generalize w22.alloc (.cells #[.int .i64 0, .int .i64 0, .int .i64 0, .int .u8 0, .int .u8 0, .int .u8 0, .int .u8 0, .int .u8 0, .int .u8 0, .int .u8 0, .int .u8 0, .int .u8 0, .int .u8 0, .int .u8 0, .int .u8 0, .int .u8 0, .int .u8 0, .int .u8 0, .int .u8 0] 24) = w23 at hk hN hS ⊢
          replace HN9 := hide ((unhide HN9).below hk)
          obtain ⟨n10, hn10⟩ : ∃ b, w22.heap.size = b := ⟨_, rfl⟩
          have HG10 : Hid (wc.heap.size ≤ n10) := by rw [← hn10]; exact hb0
          rw [hn10] at hN ⊢
          have HN10 := hide hN
          rw [hn10] at hltn9
          have HD10 : Hid (n9 ≠ n10) := by unfold Hid; omega
          clear hltn9
          clear hk hN hb0 hn10
          refine hK.out _ _ hS (fun hHeld => ?_)
          clear hK K HH hS
          have HH := hide hHeld
          clear hHeld
          (try simp only [Act.put, List.setIfInBounds_toArray, List.set_cons_zero, List.set_cons_succ])
          refine wpAnyH_ready (rs := [3]) (by kernel_rfl) (by simp) ?_
          refine consL rfl (fun K hK => ?_) AllReadyH.nil
          go_simp
          refine (good_any k' l' s' d' hd' _).mono ?_
          rintro e w24 ⟨rfl, hk⟩
          have hS : Below wc.heap.size wc w24 := (unhide HH).trans (hk.mono (unhide HH).size)
          replace HN9 := hide ((unhide HN9).below hk)
          replace HN10 := hide ((unhide HN10).below hk)
          clear hk
          refine hK.out _ _ hS (fun hHeld => ?_)
          clear hK K HH hS
          have HH := hide hHeld
          clear hHeld
          (try simp only [Act.put, List.setIfInBounds_toArray, List.set_cons_zero, List.set_cons_succ])
          refine wpAnyH_ready (rs := [6]) (by kernel_rfl) (by simp) ?_
          refine consL rfl (fun K hK => ?_) AllReadyH.nil
          refine wp_store_row (P := Try.prog) 24 (.tmp 9) (.tmp 16) (by rfl) n9 (entA (gdK k) (gdLb k l) (gdS k s) (gdD k d)) (by rfl) (by rfl) 24 #[.int .i64 0, .int .i64 0, .int .i64 0, .int .u8 0, .int .u8 0, .int .u8 0, .int .u8 0, .int .u8 0, .int .u8 0, .int .u8 0, .int .u8 0, .int .u8 0, .int .u8 0, .int .u8 0, .int .u8 0, .int .u8 0, .int .u8 0, .int .u8 0, .int .u8 0] (unhide HN9).blk (by rw [sizeTE, entA_size (unhide HGL)]) (by rw [entA_size (unhide HGL)]; rfl) (entA_one _ _ _ _) ?_
          have hS : Below wc.heap.size wc (w24.setRow n9 (entA (gdK k) (gdLb k l) (gdS k s) (gdD k d))) := below_setRow10 (unhide HH) (unhide HG9) _
          have hN : AtB (w24.setRow n9 (entA (gdK k) (gdLb k l) (gdS k s) (gdD k d))) n9 (entA (gdK k) (gdLb k l) (gdS k s) (gdD k d)) 24 := ⟨setRow_heap _ _ _ _ _ _ (unhide HN9).blk⟩
          have ho10 := (unhide HN10).kp (S := [n9]) (w' := w24.setRow n9 (entA (gdK k) (gdLb k l) (gdS k s) (gdD k d))) ⟨rfl, rfl, rfl, by simp, fun k _ h => setRow_other _ _ k _ (by simpa using h)⟩ (by have h1 := unhide HD10; simp; omega)
          generalize w24.setRow n9 (entA (gdK k) (gdLb k l) (gdS k s) (gdD k d)) = w25 at hS hN ho10 ⊢
          replace HN9 := hide hN
          replace HN10 := hide ho10
          clear hN ho10
          refine hK.out _ _ hS (fun hHeld => ?_)
          clear hK K HH hS
          have HH := hide hHeld
          clear hHeld
          (try simp only [Act.put])
          refine wpAnyH_ready (rs := [7]) (by kernel_rfl) (by simp) ?_
          refine consL rfl (fun K hK => ?_) AllReadyH.nil
          refine wp_store_row (P := Try.prog) 24 (.tmp 10) (.tmp 18) (by rfl) n10 (entA (gdK k') (gdLb k' l') (gdS k' s') (gdD k' d')) (by rfl) (by rfl) 24 #[.int .i64 0, .int .i64 0, .int .i64 0, .int .u8 0, .int .u8 0, .int .u8 0, .int .u8 0, .int .u8 0, .int .u8 0, .int .u8 0, .int .u8 0, .int .u8 0, .int .u8 0, .int .u8 0, .int .u8 0, .int .u8 0, .int .u8 0, .int .u8 0, .int .u8 0] (unhide HN10).blk (by rw [sizeTE, entA_size (unhide HGL')]) (by rw [entA_size (unhide HGL')]; rfl) (entA_one _ _ _ _) ?_
          have hS : Below wc.heap.size wc (w25.setRow n10 (entA (gdK k') (gdLb k' l') (gdS k' s') (gdD k' d'))) := below_setRow10 (unhide HH) (unhide HG10) _
          have hN : AtB (w25.setRow n10 (entA (gdK k') (gdLb k' l') (gdS k' s') (gdD k' d'))) n10 (entA (gdK k') (gdLb k' l') (gdS k' s') (gdD k' d')) 24 := ⟨setRow_heap _ _ _ _ _ _ (unhide HN10).blk⟩
          have ho9 := (unhide HN9).kp (S := [n10]) (w' := w25.setRow n10 (entA (gdK k') (gdLb k' l') (gdS k' s') (gdD k' d'))) ⟨rfl, rfl, rfl, by simp, fun k _ h => setRow_other _ _ k _ (by simpa using h)⟩ (by have h1 := unhide HD10; simp; omega)
          generalize w25.setRow n10 (entA (gdK k') (gdLb k' l') (gdS k' s') (gdD k' d')) = w26 at hS hN ho9 ⊢
          replace HN10 := hide hN
          replace HN9 := hide ho9
          clear hN ho9
          refine hK.out _ _ hS (fun hHeld => ?_)
          clear hK K HH hS
          have HH := hide hHeld
          clear hHeld
          (try simp only [Act.put])
          refine wpAnyH_done (by kernel_rfl) ?_ _
          refine NoPanic.normal ?_
          exact ⟨rfl, _, _, rfl, unhide HN9, unhide HN10, (unhide HBP).below (unhide HH), (unhide HBQ).below (unhide HH), (unhide HT).trans ((unhide HH).mono (unhide HT).size)⟩
      focus
        go_simp
        have hk : Below w21.heap.size w21 (w21.alloc (.cells #[.int .i64 0, .int .i64 0, .int .i64 0, .int .u8 0, .int .u8 0, .int .u8 0, .int .u8 0, .int .u8 0, .int .u8 0, .int .u8 0, .int .u8 0, .int .u8 0, .int .u8 0, .int .u8 0, .int .u8 0, .int .u8 0, .int .u8 0, .int .u8 0, .int .u8 0] 24)) := (Below.refl _ _).alloc (Nat.le_refl _) _
        have hN : AtB (w21.alloc (.cells #[.int .i64 0, .int .i64 0, .int .i64 0, .int .u8 0, .int .u8 0, .int .u8 0, .int .u8 0, .int .u8 0, .int .u8 0, .int .u8 0, .int .u8 0, .int .u8 0, .int .u8 0, .int .u8 0, .int .u8 0, .int .u8 0, .int .u8 0, .int .u8 0, .int .u8 0] 24)) w21.heap.size #[.int .i64 0, .int .i64 0, .int .i64 0, .int .u8 0, .int .u8 0, .int .u8 0, .int .u8 0, .int .u8 0, .int .u8 0, .int .u8 0, .int .u8 0, .int .u8 0, .int .u8 0, .int .u8 0, .int .u8 0, .int .u8 0, .int .u8 0, .int .u8 0, .int .u8 0] 24 := ⟨World.alloc_heap_new w21 _⟩
        have hb0 : wc.heap.size ≤ w21.heap.size := (unhide HH).size
        have hS : Below wc.heap.size wc (w21.alloc (.cells #[.int .i64 0, .int .i64 0, .int .i64 0, .int .u8 0, .int .u8 0, .int .u8 0, .int .u8 0, .int .u8 0, .int .u8 0, .int .u8 0, .int .u8 0, .int .u8 0, .int .u8 0, .int .u8 0, .int .u8 0, .int .u8 0, .int .u8 0, .int .u8 0, .int .u8 0] 24)) := (unhide HH).trans (hk.mono (unhide HH).size)
        generalize w21.alloc (.cells #[.int .i64 0, .int .i64 0, .int .i64 0, .int .u8 0, .int .u8 0, .int .u8 0, .int .u8 0, .int .u8 0, .int .u8 0, .int .u8 0, .int .u8 0, .int .u8 0, .int .u8 0, .int .u8 0, .int .u8 0, .int .u8 0, .int .u8 0, .int .u8 0, .int .u8 0] 24) = w22 at hk hN hS ⊢
        obtain ⟨n10, hn10⟩ : ∃ b, w21.heap.size = b := ⟨_, rfl⟩
        have HG10 : Hid (wc.heap.size ≤ n10) := by rw [← hn10]; exact hb0
        rw [hn10] at hN ⊢
        have HN10 := hide hN
        clear hk hN hb0 hn10
        refine hK.out _ _ hS (fun hHeld => ?_)
        clear hK K HH hS
        have HH := hide hHeld
        clear hHeld
        (try simp only [Act.put, List.setIfInBounds_toArray, List.set_cons_zero, List.set_cons_succ])
        refine wpAnyH_ready (rs := [3, 4]) (by kernel_rfl) (by simp) ?_
        refine consL rfl (fun K hK => ?_) (consL rfl (fun K hK => ?_) AllReadyH.nil)
        focus
          go_simp
          refine (good_any k' l' s' d' hd' _).mono ?_
          rintro e w23 ⟨rfl, hk⟩
          have hS : Below wc.heap.size wc w23 := (unhide HH).trans (hk.mono (unhide HH).size)
          replace HN10 := hide ((unhide HN10).below hk)
          clear hk
          refine hK.out _ _ hS (fun hHeld => ?_)
          clear hK K HH hS
          have HH := hide hHeld
          clear hHeld
          (try simp only [Act.put, List.setIfInBounds_toArray, List.set_cons_zero, List.set_cons_succ])
          refine wpAnyH_ready (rs := [4]) (by kernel_rfl) (by simp) ?_
          refine consL rfl (fun K hK => ?_) AllReadyH.nil
          go_simp
          have hk : Below w23.heap.size w23 (w23.alloc (.cells #[.int .i64 0, .int .i64 0, .int .i64 0, .int .u8 0, .int .u8 0, .int .u8 0, .int .u8 0, .int .u8 0, .int .u8 0, .int .u8 0, .int .u8 0, .int .u8 0, .int .u8 0, .int .u8 0, .int .u8 0, .int .u8 0, .int .u8 0, .int .u8 0, .int .u8 0] 24)) := (Below.refl _ _).alloc (Nat.le_refl _) _
          have hN : AtB (w23.alloc (.cells #[.int .i64 0, .int .i64 0, .int .i64 0, .int .u8 0, .int .u8 0, .int .u8 0, .int .u8 0, .int .u8 0, .int .u8 0, .int .u8 0, .int .u8 0, .int .u8 0, .int .u8 0, .int .u8 0, .int .u8 0, .int .u8 0, .int .u8 0, .int .u8 0, .int .u8 0] 24)) w23.heap.size #[.int .i64 0, .int .i64 0, .int .i64 0, .int .u8 0, .int .u8 0, .int .u8 0, .int .u8 0, .int .u8 0, .int .u8 0, .int .u8 0, .int .u8 0, .int .u8 0, .int .u8 0, .int .u8 0, .int .u8 0, .int .u8 0, .int .u8 0, .int .u8 0, .int .u8 0] 24 := ⟨World.alloc_heap_new w23 _⟩
          have hb0 : wc.heap.size ≤ w23.heap.size := (unhide HH).size
          have hS : Below wc.heap.size wc (w23.alloc (.cells #[.int .i64 0, .int .i64 0, .int .i64 0, .int .u8 0, .int .u8 0, .int .u8 0, .int .u8 0, .int .u8 0, .int .u8 0, .int .u8 0, .int .u8 0, .int .u8 0, .int .u8 0, .int .u8 0, .int .u8 0, .int .u8 0, .int .u8 0, .int .u8 0, .int .u8 0] 24)) := (unhide HH).trans (hk.mono (unhide HH).size)
          have hltn10 := (unhide HN10).lt
          generalize w23.alloc (.cells #[.int .i64 0, .int .i64 0, .int .i64 0, .int .u8 0, .int .u8 0, .int .u8 0, .int .u8 0, .int .u8 0, .int .u8 0, .int .u8 0, .int .u8 0, .int .u8 0, .int .u8 0, .int .u8 0, .int .u8 0, .int .u8 0, .int .u8 0, .int .u8 0, .int .u8 0] 24) = w24 at hk hN hS ⊢
          replace HN10 := hide ((unhide HN10).below hk)
          obtain ⟨n9, hn9⟩ : ∃ b, w23.heap.size = b := ⟨_, rfl⟩
          have HG9 : Hid (wc.heap.size ≤ n9) := by rw [← hn9]; exact hb0
          rw [hn9] at hN ⊢
          have HN9 := hide hN
          rw [hn9] at hltn10
          have HD9 : Hid (n10 ≠ n9) := by unfold Hid; omega
          clear hltn10
          clear hk hN hb0 hn9
          refine hK.out _ _ hS (fun hHeld => ?_)
          clear hK K HH hS
          have HH := hide hHeld
          clear hHeld
          (try simp only [Act.put, List.setIfInBounds_toArray, List.set_cons_zero, List.set_cons_succ])
          refine wpAnyH_ready (rs := [6]) (by kernel_rfl) (by simp) ?_
          refine consL rfl (fun K hK => ?_) AllReadyH.nil
          refine wp_store_row (P := Try.prog) 24 (.tmp 9) (.tmp 16) (by rfl) n9 (entA (gdK k) (gdLb k l) (gdS k s) (gdD k d)) (by rfl) (by rfl) 24 #[.int .i64 0, .int .i64 0, .int .i64 0, .int .u8 0, .int .u8 0, .int .u8 0, .int .u8 0, .int .u8 0, .int .u8 0, .int .u8 0, .int .u8 0, .int .u8 0, .int .u8 0, .int .u8 0, .int .u8 0, .int .u8 0, .int .u8 0, .int .u8 0, .int .u8 0] (unhide HN9).blk (by rw [sizeTE, entA_size (unhide HGL)]) (by rw [entA_size (unhide HGL)]; rfl) (entA_one _ _ _ _) ?_
          have hS : Below wc.heap.size wc (w24.setRow n9 (entA (gdK k) (gdLb k l) (gdS k s) (gdD k d))) := below_setRow10 (unhide HH) (unhide HG9) _
          have hN : AtB (w24.setRow n9 (entA (gdK k) (gdLb k l) (gdS k s) (gdD k d))) n9 (entA (gdK k) (gdLb k l) (gdS k s) (gdD k d)) 24 := ⟨setRow_heap _ _ _ _ _ _ (unhide HN9).blk⟩
          have ho10 := (unhide HN10).kp (S := [n9]) (w' := w24.setRow n9 (entA (gdK k) (gdLb k l) (gdS k s) (gdD k d))) ⟨rfl, rfl, rfl, by simp, fun k _ h => setRow_other _ _ k _ (by simpa using h)⟩ (by have h1 := unhide HD9; simp; omega)
          generalize w24.setRow n9 (entA (gdK k) (gdLb k l) (gdS k s) (gdD k d)) = w25 at hS hN ho10 ⊢
          replace HN9 := hide hN
          replace HN10 := hide ho10
          clear hN ho10
          refine hK.out _ _ hS (fun hHeld => ?_)
          clear hK K HH hS
          have HH := hide hHeld
          clear hHeld
          (try simp only [Act.put])
          refine wpAnyH_ready (rs := [7]) (by kernel_rfl) (by simp) ?_
          refine consL rfl (fun K hK => ?_) AllReadyH.nil
          refine wp_store_row (P := Try.prog) 24 (.tmp 10) (.tmp 18) (by rfl) n10 (entA (gdK k') (gdLb k' l') (gdS k' s') (gdD k' d')) (by rfl) (by rfl) 24 #[.int .i64 0, .int .i64 0, .int .i64 0, .int .u8 0, .int .u8 0, .int .u8 0, .int .u8 0, .int .u8 0, .int .u8 0, .int .u8 0, .int .u8 0, .int .u8 0, .int .u8 0, .int .u8 0, .int .u8 0, .int .u8 0, .int .u8 0, .int .u8 0, .int .u8 0] (unhide HN10).blk (by rw [sizeTE, entA_size (unhide HGL')]) (by rw [entA_size (unhide HGL')]; rfl) (entA_one _ _ _ _) ?_
          have hS : Below wc.heap.size wc (w25.setRow n10 (entA (gdK k') (gdLb k' l') (gdS k' s') (gdD k' d'))) := below_setRow10 (unhide HH) (unhide HG10) _
          have hN : AtB (w25.setRow n10 (entA (gdK k') (gdLb k' l') (gdS k' s') (gdD k' d'))) n10 (entA (gdK k') (gdLb k' l') (gdS k' s') (gdD k' d')) 24 := ⟨setRow_heap _ _ _ _ _ _ (unhide HN10).blk⟩
          have ho9 := (unhide HN9).kp (S := [n10]) (w' := w25.setRow n10 (entA (gdK k') (gdLb k' l') (gdS k' s') (gdD k' d'))) ⟨rfl, rfl, rfl, by simp, fun k _ h => setRow_other _ _ k _ (by simpa using h)⟩ (by have h1 := unhide HD9; simp; omega)
          generalize w25.setRow n10 (entA (gdK k') (gdLb k' l') (gdS k' s') (gdD k' d')) = w26 at hS hN ho9 ⊢
          replace HN10 := hide hN
          replace HN9 := hide ho9
          clear hN ho9
          refine hK.out _ _ hS (fun hHeld => ?_)
          clear hK K HH hS
          have HH := hide hHeld
          clear hHeld
          (try simp only [Act.put])
          refine wpAnyH_done (by kernel_rfl) ?_ _
          refine NoPanic.normal ?_
          exact ⟨rfl, _, _, rfl, unhide HN9, unhide HN10, (unhide HBP).below (unhide HH), (unhide HBQ).below (unhide HH), (unhide HT).trans ((unhide HH).mono (unhide HT).size)⟩
        focus
          go_simp
          have hk : Below w22.heap.size w22 (w22.alloc (.cells #[.int .i64 0, .int .i64 0, .int .i64 0, .int .u8 0, .int .u8 0, .int .u8 0, .int .u8 0, .int .u8 0, .int .u8 0, .int .u8 0, .int .u8 0, .int .u8 0, .int .u8 0, .int .u8 0, .int .u8 0, .int .u8 0, .int .u8 0, .int .u8 0, .int .u8 0] 24)) := (Below.refl _ _).alloc (Nat.le_refl _) _
          have hN : AtB (w22.alloc (.cells #[.int .i64 0, .int .i64 0, .int .i64 0, .int .u8 0, .int .u8 0, .int .u8 0, .int .u8 0, .int .u8 0, .int .u8 0, .int .u8 0, .int .u8 0, .int .u8 0, .int .u8 0, .int .u8 0, .int .u8 0, .int .u8 0, .int .u8 0, .int .u8 0, .int .u8 0] 24)) w22.heap.size #[.int .i64 0, .int .i64 0, .int .i64 0, .int .u8 0, .int .u8 0, .int .u8 0, .int .u8 0, .int .u8 0, .int .u8 0, .int .u8 0, .int .u8 0, .int .u8 0, .int .u8 0, .int .u8 0, .int .u8 0, .int .u8 0, .int .u8 0, .int .u8 0, .int .u8 0] 24 := ⟨World.alloc_heap_new w22 _⟩
          have hb0 : wc.heap.size ≤ w22.heap.size := (unhide HH).size
          have hS : Below wc.heap.size wc (w22.alloc (.cells #[.int .i64 0, .int .i64 0, .int .i64 0, .int .u8 0, .int .u8 0, .int .u8 0, .int .u8 0, .int .u8 0, .int .u8 0, .int .u8 0, .int .u8 0, .int .u8 0, .int .u8 0, .int .u8 0, .int .u8 0, .int .u8 0, .int .u8 0, .int .u8 0, .int .u8 0] 24)) := (unhide HH).trans (hk.mono (unhide HH).size)
          have hltn10 := (unhide HN10).lt
          generalize w22.alloc (.cells #[.int .i64 0, .int .i64 0, .int .i64 0, .int .u8 0, .int .u8 0, .int .u8 0, .int .u8 0, .int .u8 0, .int .u8 0, .int .u8 0, .int .u8 0, .int .u8 0, .int .u8 0, .int .u8 0, .int .u8 0, .int .u8 0, .int .u8 0, .int .u8 0, .int .u8 0] 24) = w23 at hk hN hS ⊢
          replace HN10 := hide ((unhide HN10).below hk)
          obtain ⟨n9, hn9⟩ : ∃ b, w22.heap.size = b := ⟨_, rfl⟩
          have HG9 : Hid (wc.heap.size ≤ n9) := by rw [← hn9]; exact hb0
          rw [hn9] at hN ⊢
          have HN9 := hide hN
          rw [hn9] at hltn10
          have HD9 : Hid (n10 ≠ n9) := by unfold Hid; omega
          clear hltn10
          clear hk hN hb0 hn9
          refine hK.out _ _ hS (fun hHeld => ?_)
          clear hK K HH hS
          have HH := hide hHeld
          clear hHeld
          (try simp only [Act.put, List.setIfInBounds_toArray, List.set_cons_zero, List.set_cons_succ])
          refine wpAnyH_ready (rs := [3]) (by kernel_rfl) (by simp) ?_
          refine consL rfl (fun K hK => ?_) AllReadyH.nil
          go_simp
          refine (good_any k' l' s' d' hd' _).mono ?_
          rintro e w24 ⟨rfl, hk⟩
          have hS : Below wc.heap.size wc w24 := (unhide HH).trans (hk.mono (unhide HH).size)
          replace HN10 := hide ((unhide HN10).below hk)
          replace HN9 := hide ((unhide HN9).below hk)
          clear hk
          refine hK.out _ _ hS (fun hHeld => ?_)
          clear hK K HH hS
          have HH := hide hHeld
          clear hHeld
          (try simp only [Act.put, List.setIfInBounds_toArray, List.set_cons_zero, List.set_cons_succ])
          refine wpAnyH_ready (rs := [6]) (by kernel_rfl) (by simp) ?_
          refine consL rfl (fun K hK => ?_) AllReadyH.nil
          refine wp_store_row (P := Try.prog) 24 (.tmp 9) (.tmp 16) (by rfl) n9 (entA (gdK k) (gdLb k l) (gdS k s) (gdD k d)) (by rfl) (by rfl) 24 #[.int .i64 0, .int .i64 0, .int .i64 0, .int .u8 0, .int .u8 0, .int .u8 0, .int .u8 0, .int .u8 0, .int .u8 0, .int .u8 0, .int .u8 0, .int .u8 0, .int .u8 0, .int .u8 0, .int .u8 0, .int .u8 0, .int .u8 0, .int .u8 0, .int .u8 0] (unhide HN9).blk (by rw [sizeTE, entA_size (unhide HGL)]) (by rw [entA_size (unhide HGL)]; rfl) (entA_one _ _ _ _) ?_
          have hS : Below wc.heap.size wc (w24.setRow n9 (entA (gdK k) (gdLb k l) (gdS k s) (gdD k d))) := below_setRow10 (unhide HH) (unhide HG9) _
          have hN : AtB (w24.setRow n9 (entA (gdK k) (gdLb k l) (gdS k s) (gdD k d))) n9 (entA (gdK k) (gdLb k l) (gdS k s) (gdD k d)) 24 := ⟨setRow_heap _ _ _ _ _ _ (unhide HN9).blk⟩
          have ho10 := (unhide HN10).kp (S := [n9]) (w' := w24.setRow n9 (entA (gdK k) (gdLb k l) (gdS k s) (gdD k d))) ⟨rfl, rfl, rfl, by simp, fun k _ h => setRow_other _ _ k _ (by simpa using h)⟩ (by have h1 := unhide HD9; simp; omega)
          generalize w24.setRow n9 (entA (gdK k) (gdLb k l) (gdS k s) (gdD k d)) = w25 at hS hN ho10 ⊢
          replace HN9 := hide hN
          replace HN10 := hide ho10
          clear hN ho10
          refine hK.out _ _ hS (fun hHeld => ?_)
          clear hK K HH hS
          have HH := hide hHeld
          clear hHeld
          (try simp only [Act.put])
          refine wpAnyH_ready (rs := [7]) (by kernel_rfl) (by simp) ?_
          refine consL rfl (fun K hK => ?_) AllReadyH.nil
          refine wp_store_row (P := Try.prog) 24 (.tmp 10) (.tmp 18) (by rfl) n10 (entA (gdK k') (gdLb k' l') (gdS k' s') (gdD k' d')) (by rfl) (by rfl) 24 #[.int .i64 0, .int .i64 0, .int .i64 0, .int .u8 0, .int .u8 0, .int .u8 0, .int .u8 0, .int .u8 0, .int .u8 0, .int .u8 0, .int .u8 0, .int .u8 0, .int .u8 0, .int .u8 0, .int .u8 0, .int .u8 0, .int .u8 0, .int .u8 0, .int .u8 0] (unhide HN10).blk (by rw [sizeTE, entA_size (unhide HGL')]) (by rw [entA_size (unhide HGL')]; rfl) (entA_one _ _ _ _) ?_
          have hS : Below wc.heap.size wc (w25.setRow n10 (entA (gdK k') (gdLb k' l') (gdS k' s') (gdD k' d'))) := below_setRow10 (unhide HH) (unhide HG10) _
          have hN : AtB (w25.setRow n10 (entA (gdK k') (gdLb k' l') (gdS k' s') (gdD k' d'))) n10 (entA (gdK k') (gdLb k' l') (gdS k' s') (gdD k' d')) 24 := ⟨setRow_heap _ _ _ _ _ _ (unhide HN10).blk⟩
          have ho9 := (unhide HN9).kp (S := [n10]) (w' := w25.setRow n10 (entA (gdK k') (gdLb k' l') (gdS k' s') (gdD k' d'))) ⟨rfl, rfl, rfl, by simp, fun k _ h => setRow_other _ _ k _ (by simpa using h)⟩ (by have h1 := unhide HD9; simp; omega)
          generalize w25.setRow n10 (entA (gdK k') (gdLb k' l') (gdS k' s') (gdD k' d')) = w26 at hS hN ho9 ⊢
          replace HN10 := hide hN
          replace HN9 := hide ho9
          clear hN ho9
          refine hK.out _ _ hS (fun hHeld => ?_)
          clear hK K HH hS
          have HH := hide hHeld
          clear hHeld
          (try simp only [Act.put])
          refine wpAnyH_done (by kernel_rfl) ?_ _
          refine NoPanic.normal ?_
          exact ⟨rfl, _, _, rfl, unhide HN9, unhide HN10, (unhide HBP).below (unhide HH), (unhide HBQ).below (unhide HH), (unhide HT).trans ((unhide HH).mono (unhide HT).size)⟩
    focus
      go_simp
      have hk : Below wc.heap.size wc (wc.alloc (.cells #[.int .i64 0, .int .i64 0, .int .i64 0, .int .u8 0, .int .u8 0, .int .u8 0, .int .u8 0, .int .u8 0, .int .u8 0, .int .u8 0, .int .u8 0, .int .u8 0, .int .u8 0, .int .u8 0, .int .u8 0, .int .u8 0, .int .u8 0, .int .u8 0, .int .u8 0] 24)) := (Below.refl _ _).alloc (Nat.le_refl _) _
      have hN : AtB (wc.alloc (.cells #[.int .i64 0, .int .i64 0, .int .i64 0, .int .u8 0, .int .u8 0, .int .u8 0, .int .u8 0, .int .u8 0, .int .u8 0, .int .u8 0, .int .u8 0, .int .u8 0, .int .u8 0, .int .u8 0, .int .u8 0, .int .u8 0, .int .u8 0, .int .u8 0, .int .u8 0] 24)) wc.heap.size #[.int .i64 0, .int .i64 0, .int .i64 0, .int .u8 0, .int .u8 0, .int .u8 0, .int .u8 0, .int .u8 0, .int .u8 0, .int .u8 0, .int .u8 0, .int .u8 0, .int .u8 0, .int .u8 0, .int .u8 0, .int .u8 0, .int .u8 0, .int .u8 0, .int .u8 0] 24 := ⟨World.alloc_heap_new wc _⟩
      have hb0 : wc.heap.size ≤ wc.heap.size := (unhide HH).size
      have hS : Below wc.heap.size wc (wc.alloc (.cells #[.int .i64 0, .int .i64 0, .int .i64 0, .int .u8 0, .int .u8 0, .int .u8 0, .int .u8 0, .int .u8 0, .int .u8 0, .int .u8 0, .int .u8 0, .int .u8 0, .int .u8 0, .int .u8 0, .int .u8 0, .int .u8 0, .int .u8 0, .int .u8 0, .int .u8 0] 24)) := (unhide HH).trans (hk.mono (unhide HH).size)
      generalize wc.alloc (.cells #[.int .i64 0, .int .i64 0, .int .i64 0, .int .u8 0, .int .u8 0, .int .u8 0, .int .u8 0, .int .u8 0, .int .u8 0, .int .u8 0, .int .u8 0, .int .u8 0, .int .u8 0, .int .u8 0, .int .u8 0, .int .u8 0, .int .u8 0, .int .u8 0, .int .u8 0] 24) = w21 at hk hN hS ⊢
      obtain ⟨n9, hn9⟩ : ∃ b, wc.heap.size = b := ⟨_, rfl⟩
      have HG9 : Hid (wc.heap.size ≤ n9) := by rw [← hn9]; exact hb0
      rw [hn9] at hN ⊢
      have HN9 := hide hN
      clear hk hN hb0 hn9
      refine hK.out _ _ hS (fun hHeld => ?_)
      clear hK K HH hS
      have HH := hide hHeld
      clear hHeld
      (try simp only [Act.put, List.setIfInBounds_toArray, List.set_cons_zero, List.set_cons_succ])
      refine wpAnyH_ready (rs := [1, 5]) (by kernel_rfl) (by simp) ?_
      refine consL rfl (fun K hK => ?_) (consL rfl (fun K hK => ?_) AllReadyH.nil)
      focus
        go_simp
        refine (good_any k l s d hd _).mono ?_
        rintro e w22 ⟨rfl, hk⟩
        have hS : Below wc.heap.size wc w22 := (unhide HH).trans (hk.mono (unhide HH).size)
        replace HN9 := hide ((unhide HN9).below hk)
        clear hk
        refine hK.out _ _ hS (fun hHeld => ?_)
        clear hK K HH hS
        have HH := hide hHeld
        clear hHeld
        (try simp only [Act.put, List.setIfInBounds_toArray, List.set_cons_zero, List.set_cons_succ])
        refine wpAnyH_ready (rs := [3, 5]) (by kernel_rfl) (by simp) ?_
        refine consL rfl (fun K hK => ?_) (consL rfl (fun K hK => ?_) AllReadyH.nil)
        focus
          go_simp
          refine (good_any k' l' s' d' hd' _).mono ?_
          rintro e w23 ⟨rfl, hk⟩
          have hS : Below wc.heap.size wc w23 := (unhide HH).trans (hk.mono (unhide HH).size)
          replace HN9 := hide ((unhide HN9).below hk)
          clear hk
          refine hK.out _ _ hS (fun hHeld => ?_)
          clear hK K HH hS
          have HH := hide hHeld
          clear hHeld
          (try simp only [Act.put, List.setIfInBounds_toArray, List.set_cons_zero, List.set_cons_succ])
          refine wpAnyH_ready (rs := [5]) (by kernel_rfl) (by simp) ?_
          refine consL rfl (fun K hK => ?_) AllReadyH.nil
          go_simp
          have hk : Below w23.heap.size w23 (w23.alloc (.cells #[.int .i64 0, .int .i64 0, .int .i64 0, .int .u8 0, .int .u8 0, .int .u8 0, .int .u8 0, .int .u8 0, .int .u8 0, .int .u8 0, .int .u8 0, .int .u8 0, .int .u8 0, .int .u8 0, .int .u8 0, .int .u8 0, .int .u8 0, .int .u8 0, .int .u8 0] 24)) := (Below.refl _ _).alloc (Nat.le_refl _) _
          have hN : AtB (w23.alloc (.cells #[.int .i64 0, .int .i64 0, .int .i64 0, .int .u8 0, .int .u8 0, .int .u8 0, .int .u8 0, .int .u8 0, .int .u8 0, .int .u8 0, .int .u8 0, .int .u8 0, .int .u8 0, .int .u8 0, .int .u8 0, .int .u8 0, .int .u8 0, .int .u8 0, .int .u8 0] 24)) w23.heap.size #[.int .i64 0, .int .i64 0, .int .i64 0, .int .u8 0, .int .u8 0, .int .u8 0, .int .u8 0, .int .u8 0, .int .u8 0, .int .u8 0, .int .u8 0, .int .u8 0, .int .u8 0, .int .u8 0, .int .u8 0, .int .u8 0, .int .u8 0, .int .u8 0, .int .u8 0] 24 := ⟨World.alloc_heap_new w23 _⟩
          have hb0 : wc.heap.size ≤ w23.heap.size := (unhide HH).size
          have hS : Below wc.heap.size wc (w23.alloc (.cells #[.int .i64 0, .int .i64 0, .int .i64 0, .int .u8 0, .int .u8 0, .int .u8 0, .int .u8 0, .int .u8 0, .int .u8 0, .int .u8 0, .int .u8 0, .int .u8 0, .int .u8 0, .int .u8 0, .int .u8 0, .int .u8 0, .int .u8 0, .int .u8 0, .int .u8 0] 24)) := (unhide HH).trans (hk.mono (unhide HH).size)
          have hltn9 := (unhide HN9).lt
          generalize w23.alloc (.cells #[.int .i64 0, .int .i64 0, .int .i64 0, .int .u8 0, .int .u8 0, .int .u8 0, .int .u8 0, .int .u8 0, .int .u8 0, .int .u8 0, .int .u8 0, .int .u8 0, .int .u8 0, .int .u8 0, .int .u8 0, .int .u8 0, .int .u8 0, .int .u8 0, .int .u8 0] 24) = w24 at hk hN hS ⊢
          replace HN9 := hide ((unhide HN9).below hk)
          obtain ⟨n10, hn10⟩ : ∃ b, w23.heap.size = b := ⟨_, rfl⟩
          have HG10 : Hid (wc.heap.size ≤ n10) := by rw [← hn10]; exact hb0
          rw [hn10] at hN ⊢
          have HN10 := hide hN
          rw [hn10] at hltn9
          have HD10 : Hid (n9 ≠ n10) := by unfold Hid; omega
          clear hltn9
          clear hk hN hb0 hn10
          refine hK.out _ _ hS (fun hHeld => ?_)
          clear hK K HH hS
          have HH := hide hHeld
          clear hHeld
          (try simp only [Act.put, List.setIfInBounds_toArray, List.set_cons_zero, List.set_cons_succ])
          refine wpAnyH_ready (rs := [6]) (by kernel_rfl) (by simp) ?_
          refine consL rfl (fun K hK => ?_) AllReadyH.nil
          refine wp_store_row (P := Try.prog) 24 (.tmp 9) (.tmp 16) (by rfl) n9 (entA (gdK k) (gdLb k l) (gdS k s) (gdD k d)) (by rfl) (by rfl) 24 #[.int .i64 0, .int .i64 0, .int .i64 0, .int .u8 0, .int .u8 0, .int .u8 0, .int .u8 0, .int .u8 0, .int .u8 0, .int .u8 0, .int .u8 0, .int .u8 0, .int .u8 0, .int .u8 0, .int .u8 0, .int .u8 0, .int .u8 0, .int .u8 0, .int .u8 0] (unhide HN9).blk (by rw [sizeTE, entA_size (unhide HGL)]) (by rw [entA_size (unhide HGL)]; rfl) (entA_one _ _ _ _) ?_
          have hS : Below wc.heap.size wc (w24.setRow n9 (entA (gdK k) (gdLb k l) (gdS k s) (gdD k d))) := below_setRow10 (unhide HH) (unhide HG9) _
          have hN : AtB (w24.setRow n9 (entA (gdK k) (gdLb k l) (gdS k s) (gdD k d))) n9 (entA (gdK k) (gdLb k l) (gdS k s) (gdD k d)) 24 := ⟨setRow_heap _ _ _ _ _ _ (unhide HN9).blk⟩
          have ho10 := (unhide HN10).kp (S := [n9]) (w' := w24.setRow n9 (entA (gdK k) (gdLb k l) (gdS k s) (gdD k d))) ⟨rfl, rfl, rfl, by simp, fun k _ h => setRow_other _ _ k _ (by simpa using h)⟩ (by have h1 := unhide HD10; simp; omega)
          generalize w24.setRow n9 (entA (gdK k) (gdLb k l) (gdS k s) (gdD k d)) = w25 at hS hN ho10 ⊢
          replace HN9 := hide hN
          replace HN10 := hide ho10
          clear hN ho10
          refine hK.out _ _ hS (fun hHeld => ?_)
          clear hK K HH hS
          have HH := hide hHeld
          clear hHeld
          (try simp only [Act.put])
          refine wpAnyH_ready (rs := [7]) (by kernel_rfl) (by simp) ?_
          refine consL rfl (fun K hK => ?_) AllReadyH.nil
          refine wp_store_row (P := Try.prog) 24 (.tmp 10) (.tmp 18) (by rfl) n10 (entA (gdK k') (gdLb k' l') (gdS k' s') (gdD k' d')) (by rfl) (by rfl) 24 #[.int .i64 0, .int .i64 0, .int .i64 0, .int .u8 0, .int .u8 0, .int .u8 0, .int .u8 0, .int .u8 0, .int .u8 0, .int .u8 0, .int .u8 0, .int .u8 0, .int .u8 0, .int .u8 0, .int .u8 0, .int .u8 0, .int .u8 0, .int .u8 0, .int .u8 0] (unhide HN10).blk (by rw [sizeTE, entA_size (unhide HGL')]) (by rw [entA_size (unhide HGL')]; rfl) (entA_one _ _ _ _) ?_
          have hS : Below wc.heap.size wc (w25.setRow n10 (entA (gdK k') (gdLb k' l') (gdS k' s') (gdD k' d'))) := below_setRow10 (unhide HH) (unhide HG10) _
          have hN : AtB (w25.setRow n10 (entA (gdK k') (gdLb k' l') (gdS k' s') (gdD k' d'))) n10 (entA (gdK k') (gdLb k' l') (gdS k' s') (gdD k' d')) 24 := ⟨setRow_heap _ _ _ _ _ _ (unhide HN10).blk⟩
          have ho9 := (unhide HN9).kp (S := [n10]) (w' := w25.setRow n10 (entA (gdK k') (gdLb k' l') (gdS k' s') (gdD k' d'))) ⟨rfl, rfl, rfl, by simp, fun k _ h => setRow_other _ _ k _ (by simpa using h)⟩ (by have h1 := unhide HD10; simp; omega)
          generalize w25.setRow n10 (entA (gdK k') (gdLb k' l') (gdS k' s') (gdD k' d')) = w26 at hS hN ho9 ⊢
          replace HN10 := hide hN
          replace HN9 := hide ho9
          clear hN ho9
          refine hK.out _ _ hS (fun hHeld => ?_)
          clear hK K HH hS
          have HH := hide hHeld
          clear hHeld
          (try simp only [Act.put])
          refine wpAnyH_done (by kernel_rfl) ?_ _
          refine NoPanic.normal ?_
          exact ⟨rfl, _, _, rfl, unhide HN9, unhide HN10, (unhide HBP).below (unhide HH), (unhide HBQ).below (unhide HH), (unhide HT).trans ((unhide HH).mono (unhide HT).size)⟩
        focus
          go_simp
          have hk : Below w22.heap.size w22 (w22.alloc (.cells #[.int .i64 0, .int .i64 0, .int .i64 0, .int .u8 0, .int .u8 0, .int .u8 0, .int .u8 0, .int .u8 0, .int .u8 0, .int .u8 0, .int .u8 0, .int .u8 0, .int .u8 0, .int .u8 0, .int .u8 0, .int .u8 0, .int .u8 0, .int .u8 0, .int .u8 0] 24)) := (Below.refl _ _).alloc (Nat.le_refl _) _
          have hN : AtB (w22.alloc (.cells #[.int .i64 0, .int .i64 0, .int .i64 0, .int .u8 0, .int .u8 0, .int .u8 0, .int .u8 0, .int .u8 0, .int .u8 0, .int .u8 0, .int .u8 0, .int .u8 0, .int .u8 0, .int .u8 0, .int .u8 0, .int .u8 0, .int .u8 0, .int .u8 0, .int .u8 0] 24)) w22.heap.size #[.int .i64 0, .int .i64 0, .int .i64 0, .int .u8 0, .int .u8 0, .int .u8 0, .int .u8 0, .int .u8 0, .int .u8 0, .int .u8 0, .int .u8 0, .int .u8 0, .int .u8 0, .int .u8 0, .int .u8 0, .int .u8 0, .int .u8 0, .int .u8 0, .int .u8 0] 24 := ⟨World.alloc_heap_new w22 _⟩
          have hb0 : wc.heap.size ≤ w22.heap.size := (unhide HH).size
          have hS : Below wc.heap.size wc (w22.alloc (.cells #[.int .i64 0, .int .i64 0, .int .i64 0, .int .u8 0, .int .u8 0, .int .u8 0, .int .u8 0, .int .u8 0, .int .u8 0, .int .u8 0, .int .u8 0, .int .u8 0, .int .u8 0, .int .u8 0, .int .u8 0, .int .u8 0, .int .u8 0, .int .u8 0, .int .u8 0] 24)) := (unhide HH).trans (hk.mono (unhide HH).size)
          have hltn9 := (unhide HN9).lt
          generalize w22.alloc (.cells #[.int .i64 0, .int .i64 0, .int .i64 0, .int .u8 0, .int .u8 0, .int .u8 0, .int .u8 0, .int .u8 0, .int .u8 0, .int .u8 0, .int .u8 0, .int .u8 0, .int .u8 0, .int .u8 0, .int .u8 0, .int .u8 0, .int .u8 0, .int .u8 0, .int .u8 0] 24) = w23 at hk hN hS ⊢
          replace HN9 := hide ((unhide HN9).below hk)
          obtain ⟨n10, hn10⟩ : ∃ b, w22.heap.size = b := ⟨_, rfl⟩
          have HG10 : Hid (wc.heap.size ≤ n10) := by rw [← hn10]; exact hb0
          rw [hn10] at hN ⊢
          have HN10 := hide hN
          rw [hn10] at hltn9
          have HD10 : Hid (n9 ≠ n10) := by unfold Hid; omega
          clear hltn9
          clear hk hN hb0 hn10
          refine hK.out _ _ hS (fun hHeld => ?_)
          clear hK K HH hS
          have HH := hide hHeld
          clear hHeld
          (try simp only [Act.put, List.setIfInBounds_toArray, List.set_cons_zero, List.set_cons_succ])
          refine wpAnyH_ready (rs := [3]) (by kernel_rfl) (by simp) ?_
          refine consL rfl (fun K hK => ?_) AllReadyH.nil
          go_simp
          refine (good_any k' l' s' d' hd' _).mono ?_
          rintro e w24 ⟨rfl, hk⟩
          have hS : Below wc.heap.size wc w24 := (unhide HH).trans (hk.mono (unhide HH).size)
          replace HN9 := hide ((unhide HN9).below hk)
          replace HN10 := hide ((unhide HN10).below hk)
          clear hk
          refine hK.out _ _ hS (fun hHeld => ?_)
          clear hK K HH hS
          have HH := hide hHeld
          clear hHeld
          (try simp only [Act.put, List.setIfInBounds_toArray, List.set_cons_zero, List.set_cons_succ])
          refine wpAnyH_ready (rs := [6]) (by kernel_rfl) (by simp) ?_
          refine consL rfl (fun K hK => ?_) AllReadyH.nil
          refine wp_store_row (P := Try.prog) 24 (.tmp 9) (.tmp 16) (by rfl) n9 (entA (gdK k) (gdLb k l) (gdS k s) (gdD k d)) (by rfl) (by rfl) 24 #[.int .i64 0, .int .i64 0, .int .i64 0, .int .u8 0, .int .u8 0, .int .u8 0, .int .u8 0, .int .u8 0, .int .u8 0, .int .u8 0, .int .u8 0, .int .u8 0, .int .u8 0, .int .u8 0, .int .u8 0, .int .u8 0, .int .u8 0, .int .u8 0, .int .u8 0] (unhide HN9).blk (by rw [sizeTE, entA_size (unhide HGL)]) (by rw [entA_size (unhide HGL)]; rfl) (entA_one _ _ _ _) ?_
          have hS : Below wc.heap.size wc (w24.setRow n9 (entA (gdK k) (gdLb k l) (gdS k s) (gdD k d))) := below_setRow10 (unhide HH) (unhide HG9) _
          have hN : AtB (w24.setRow n9 (entA (gdK k) (gdLb k l) (gdS k s) (gdD k d))) n9 (entA (gdK k) (gdLb k l) (gdS k s) (gdD k d)) 24 := ⟨setRow_heap _ _ _ _ _ _ (unhide HN9).blk⟩
          have ho10 := (unhide HN10).kp (S := [n9]) (w' := w24.setRow n9 (entA (gdK k) (gdLb k l) (gdS k s) (gdD k d))) ⟨rfl, rfl, rfl, by simp, fun k _ h => setRow_other _ _ k _ (by simpa using h)⟩ (by have h1 := unhide HD10; simp; omega)
          generalize w24.setRow n9 (entA (gdK k) (gdLb k l) (gdS k s) (gdD k d)) = w25 at hS hN ho10 ⊢
          replace HN9 := hide hN
          replace HN10 := hide ho10
          clear hN ho10
          refine hK.out _ _ hS (fun hHeld => ?_)
          clear hK K HH hS
          have HH := hide hHeld
          clear hHeld
          (try simp only [Act.put])
          refine wpAnyH_ready (rs := [7]) (by kernel_rfl) (by simp) ?_
          refine consL rfl (fun K hK => ?_) AllReadyH.nil
          refine wp_store_row (P := Try.prog) 24 (.tmp 10) (.tmp 18) (by rfl) n10 (entA (gdK k') (gdLb k' l') (gdS k' s') (gdD k' d')) (by rfl) (by rfl) 24 #[.int .i64 0, .int .i64 0, .int .i64 0, .int .u8 0, .int .u8 0, .int .u8 0, .int .u8 0, .int .u8 0, .int .u8 0, .int .u8 0, .int .u8 0, .int .u8 0, .int .u8 0, .int .u8 0, .int .u8 0, .int .u8 0, .int .u8 0, .int .u8 0, .int .u8 0] (unhide HN10).blk (by rw [sizeTE, entA_size (unhide HGL')]) (by rw [entA_size (unhide HGL')]; rfl) (entA_one _ _ _ _) ?_
          have hS : Below wc.heap.size wc (w25.setRow n10 (entA (gdK k') (gdLb k' l') (gdS k' s') (gdD k' d'))) := below_setRow10 (unhide HH) (unhide HG10) _
          have hN : AtB (w25.setRow n10 (entA (gdK k') (gdLb k' l') (gdS k' s') (gdD k' d'))) n10 (entA (gdK k') (gdLb k' l') (gdS k' s') (gdD k' d')) 24 := ⟨setRow_heap _ _ _ _ _ _ (unhide HN10).blk⟩
          have ho9 := (unhide HN9).kp (S := [n10]) (w' := w25.setRow n10 (entA (gdK k') (gdLb k' l') (gdS k' s') (gdD k' d'))) ⟨rfl, rfl, rfl, by simp, fun k _ h => setRow_other _ _ k _ (by simpa using h)⟩ (by have h1 := unhide HD10; simp; omega)
          generalize w25.setRow n10 (entA (gdK k') (gdLb k' l') (gdS k' s') (gdD k' d')) = w26 at hS hN ho9 ⊢
          replace HN10 := hide hN
          replace HN9 := hide ho9
          clear hN ho9
          refine hK.out _ _ hS (fun hHeld => ?_)
          clear hK K HH hS
          have HH := hide hHeld
          clear hHeld
          (try simp only [Act.put])
          refine wpAnyH_done (by kernel_rfl) ?_ _
          refine NoPanic.normal ?_
          exact ⟨rfl, _, _, rfl, unhide HN9, unhide HN10, (unhide HBP).below (unhide HH), (unhide HBQ).below (unhide HH), (unhide HT).trans ((unhide HH).mono (unhide HT).size)⟩
      focus
        go_simp
        have hk : Below w21.heap.size w21 (w21.alloc (.cells #[.int .i64 0, .int .i64 0, .int .i64 0, .int .u8 0, .int .u8 0, .int .u8 0, .int .u8 0, .int .u8 0, .int .u8 0, .int .u8 0, .int .u8 0, .int .u8 0, .int .u8 0, .int .u8 0, .int .u8 0, .int .u8 0, .int .u8 0, .int .u8 0, .int .u8 0] 24)) := (Below.refl _ _).alloc (Nat.le_refl _) _
        have hN : AtB (w21.alloc (.cells #[.int .i64 0, .int .i64 0, .int .i64 0, .int .u8 0, .int .u8 0, .int .u8 0, .int .u8 0, .int .u8 0, .int .u8 0, .int .u8 0, .int .u8 0, .int .u8 0, .int .u8 0, .int .u8 0, .int .u8 0, .int .u8 0, .int .u8 0, .int .u8 0, .int .u8 0] 24)) w21.heap.size #[.int .i64 0, .int .i64 0, .int .i64 0, .int .u8 0, .int .u8 0, .int .u8 0, .int .u8 0, .int .u8 0, .int .u8 0, .int .u8 0, .int .u8 0, .int .u8 0, .int .u8 0, .int .u8 0, .int .u8 0, .int .u8 0, .int .u8 0, .int .u8 0, .int .u8 0] 24 := ⟨World.alloc_heap_new w21 _⟩
        have hb0 : wc.heap.size ≤ w21.heap.size := (unhide HH).size
        have hS : Below wc.heap.size wc (w21.alloc (.cells #[.int .i64 0, .int .i64 0, .int .i64 0, .int .u8 0, .int .u8 0, .int .u8 0, .int .u8 0, .int .u8 0, .int .u8 0, .int .u8 0, .int .u8 0, .int .u8 0, .int .u8 0, .int .u8 0, .int .u8 0, .int .u8 0, .int .u8 0, .int .u8 0, .int .u8 0] 24)) := (unhide HH).trans (hk.mono (unhide HH).size)
        have hltn9 := (unhide HN9).lt
        generalize w21.alloc (.cells #[.int .i64 0, .int .i64 0, .int .i64 0, .int .u8 0, .int .u8 0, .int .u8 0, .int .u8 0, .int .u8 0, .int .u8 0, .int .u8 0, .int .u8 0, .int .u8 0, .int .u8 0, .int .u8 0, .int .u8 0, .int .u8 0, .int .u8 0, .int .u8 0, .int .u8 0] 24) = w22 at hk hN hS ⊢
        replace HN9 := hide ((unhide HN9).below hk)
        obtain ⟨n10, hn10⟩ : ∃ b, w21.heap.size = b := ⟨_, rfl⟩
        have HG10 : Hid (wc.heap.size ≤ n10) := by rw [← hn10]; exact hb0
        rw [hn10] at hN ⊢
        have HN10 := hide hN
        rw [hn10] at hltn9
        have HD10 : Hid (n9 ≠ n10) := by unfold Hid; omega
        clear hltn9
        clear hk hN hb0 hn10
        refine hK.out _ _ hS (fun hHeld => ?_)
        clear hK K HH hS
        have HH := hide hHeld
        clear hHeld
        (try simp only [Act.put, List.setIfInBounds_toArray, List.set_cons_zero, List.set_cons_succ])
        refine wpAnyH_ready (rs := [1]) (by kernel_rfl) (by simp) ?_
        refine consL rfl (fun K hK => ?_) AllReadyH.nil
        go_simp
        refine (good_any k l s d hd _).mono ?_
        rintro e w23 ⟨rfl, hk⟩
        have hS : Below wc.heap.size wc w23 := (unhide HH).trans (hk.mono (unhide HH).size)
        replace HN9 := hide ((unhide HN9).below hk)
        replace HN10 := hide ((unhide HN10).below hk)
        clear hk
        refine hK.out _ _ hS (fun hHeld => ?_)
        clear hK K HH hS
        have HH := hide hHeld
        clear hHeld
        (try simp only [Act.put, List.setIfInBounds_toArray, List.set_cons_zero, List.set_cons_succ])
        refine wpAnyH_ready (rs := [3]) (by kernel_rfl) (by simp) ?_
        refine consL rfl (fun K hK => ?_) AllReadyH.nil
        go_simp
        refine (good_any k' l' s' d' hd' _).mono ?_
        rintro e w24 ⟨rfl, hk⟩
        have hS : Below wc.heap.size wc w24 := (unhide HH).trans (hk.mono (unhide HH).size)
        replace HN9 := hide ((unhide HN9).below hk)
        replace HN10 := hide ((unhide HN10).below hk)
        clear hk
        refine hK.out _ _ hS (fun hHeld => ?_)
        clear hK K HH hS
        have HH := hide hHeld
        clear hHeld
        (try simp only [Act.put, List.setIfInBounds_toArray, List.set_cons_zero, List.set_cons_succ])
        refine wpAnyH_ready (rs := [6]) (by kernel_rfl) (by simp) ?_
        refine consL rfl (fun K hK => ?_) AllReadyH.nil
        refine wp_store_row (P := Try.prog) 24 (.tmp 9) (.tmp 16) (by rfl) n9 (entA (gdK k) (gdLb k l) (gdS k s) (gdD k d)) (by rfl) (by rfl) 24 #[.int .i64 0, .int .i64 0, .int .i64 0, .int .u8 0, .int .u8 0, .int .u8 0, .int .u8 0, .int .u8 0, .int .u8 0, .int .u8 0, .int .u8 0, .int .u8 0, .int .u8 0, .int .u8 0, .int .u8 0, .int .u8 0, .int .u8 0, .int .u8 0, .int .u8 0] (unhide HN9).blk (by rw [sizeTE, entA_size (unhide HGL)]) (by rw [entA_size (unhide HGL)]; rfl) (entA_one _ _ _ _) ?_
        have hS : Below wc.heap.size wc (w24.setRow n9 (entA (gdK k) (gdLb k l) (gdS k s) (gdD k d))) := below_setRow10 (unhide HH) (unhide HG9) _
        have hN : AtB (w24.setRow n9 (entA (gdK k) (gdLb k l) (gdS k s) (gdD k d))) n9 (entA (gdK k) (gdLb k l) (gdS k s) (gdD k d)) 24 := ⟨setRow_heap _ _ _ _ _ _ (unhide HN9).blk⟩
        have ho10 := (unhide HN10).kp (S := [n9]) (w' := w24.setRow n9 (entA (gdK k) (gdLb k l) (gdS k s) (gdD k d))) ⟨rfl, rfl, rfl, by simp, fun k _ h => setRow_other _ _ k _ (by simpa using h)⟩ (by have h1 := unhide HD10; simp; omega)
        generalize w24.setRow n9 (entA (gdK k) (gdLb k l) (gdS k s) (gdD k d)) = w25 at hS hN ho10 ⊢
        replace HN9 := hide hN
        replace HN10 := hide ho10
        clear hN ho10
        refine hK.out _ _ hS (fun hHeld => ?_)
        clear hK K HH hS
        have HH := hide hHeld
        clear hHeld
        (try simp only [Act.put])
        refine wpAnyH_ready (rs := [7]) (by kernel_rfl) (by simp) ?_
        refine consL rfl (fun K hK => ?_) AllReadyH.nil
        refine wp_store_row (P := Try.prog) 24 (.tmp 10) (.tmp 18) (by rfl) n10 (entA (gdK k') (gdLb k' l') (gdS k' s') (gdD k' d')) (by rfl) (by rfl) 24 #[.int .i64 0, .int .i64 0, .int .i64 0, .int .u8 0, .int .u8 0, .int .u8 0, .int .u8 0, .int .u8 0, .int .u8 0, .int .u8 0, .int .u8 0, .int .u8 0, .int .u8 0, .int .u8 0, .int .u8 0, .int .u8 0, .int .u8 0, .int .u8 0, .int .u8 0] (unhide HN10).blk (by rw [sizeTE, entA_size (unhide HGL')]) (by rw [entA_size (unhide HGL')]; rfl) (entA_one _ _ _ _) ?_
        have hS : Below wc.heap.size wc (w25.setRow n10 (entA (gdK k') (gdLb k' l') (gdS k' s') (gdD k' d'))) := below_setRow10 (unhide HH) (unhide HG10) _
        have hN : AtB (w25.setRow n10 (entA (gdK k') (gdLb k' l') (gdS k' s') (gdD k' d'))) n10 (entA (gdK k') (gdLb k' l') (gdS k' s') (gdD k' d')) 24 := ⟨setRow_heap _ _ _ _ _ _ (unhide HN10).blk⟩
        have ho9 := (unhide HN9).kp (S := [n10]) (w' := w25.setRow n10 (entA (gdK k') (gdLb k' l') (gdS k' s') (gdD k' d'))) ⟨rfl, rfl, rfl, by simp, fun k _ h => setRow_other _ _ k _ (by simpa using h)⟩ (by have h1 := unhide HD10; simp; omega)
        generalize w25.setRow n10 (entA (gdK k') (gdLb k' l') (gdS k' s') (gdD k' d')) = w26 at hS hN ho9 ⊢
        replace HN10 := hide hN
        replace HN9 := hide ho9
        clear hN ho9
        refine hK.out _ _ hS (fun hHeld => ?_)
        clear hK K HH hS
        have HH := hide hHeld
        clear hHeld
        (try simp only [Act.put])
        refine wpAnyH_done (by kernel_rfl) ?_ _
        refine NoPanic.normal ?_
        exact ⟨rfl, _, _, rfl, unhide HN9, unhide HN10, (unhide HBP).below (unhide HH), (unhide HBQ).below (unhide HH), (unhide HT).trans ((unhide HH).mono (unhide HT).size)⟩
    focus
      go_simp
      have hk : Below wc.heap.size wc (wc.alloc (.cells #[.int .i64 0, .int .i64 0, .int .i64 0, .int .u8 0, .int .u8 0, .int .u8 0, .int .u8 0, .int .u8 0, .int .u8 0, .int .u8 0, .int .u8 0, .int .u8 0, .int .u8 0, .int .u8 0, .int .u8 0, .int .u8 0, .int .u8 0, .int .u8 0, .int .u8 0] 24)) := (Below.refl _ _).alloc (Nat.le_refl _) _
      have hN : AtB (wc.alloc (.cells #[.int .i64 0, .int .i64 0, .int .i64 0, .int .u8 0, .int .u8 0, .int .u8 0, .int .u8 0, .int .u8 0, .int .u8 0, .int .u8 0, .int .u8 0, .int .u8 0, .int .u8 0, .int .u8 0, .int .u8 0, .int .u8 0, .int .u8 0, .int .u8 0, .int .u8 0] 24)) wc.heap.size #[.int .i64 0, .int .i64 0, .int .i64 0, .int .u8 0, .int .u8 0, .int .u8 0, .int .u8 0, .int .u8 0, .int .u8 0, .int .u8 0, .int .u8 0, .int .u8 0, .int .u8 0, .int .u8 0, .int .u8 0, .int .u8 0, .int .u8 0, .int .u8 0, .int .u8 0] 24 := ⟨World.alloc_heap_new wc _⟩
      have hb0 : wc.heap.size ≤ wc.heap.size := (unhide HH).size
      have hS : Below wc.heap.size wc (wc.alloc (.cells #[.int .i64 0, .int .i64 0, .int .i64 0, .int .u8 0, .int .u8 0, .int .u8 0, .int .u8 0, .int .u8 0, .int .u8 0, .int .u8 0, .int .u8 0, .int .u8 0, .int .u8 0, .int .u8 0, .int .u8 0, .int .u8 0, .int .u8 0, .int .u8 0, .int .u8 0] 24)) := (unhide HH).trans (hk.mono (unhide HH).size)
      generalize wc.alloc (.cells #[.int .i64 0, .int .i64 0, .int .i64 0, .int .u8 0, .int .u8 0, .int .u8 0, .int .u8 0, .int .u8 0, .int .u8 0, .int .u8 0, .int .u8 0, .int .u8 0, .int .u8 0, .int .u8 0, .int .u8 0, .int .u8 0, .int .u8 0, .int .u8 0, .int .u8 0] 24) = w21 at hk hN hS ⊢
      obtain ⟨n10, hn10⟩ : ∃ b, wc.heap.size = b := ⟨_, rfl⟩
      have HG10 : Hid (wc.heap.size ≤ n10) := by rw [← hn10]; exact hb0
      rw [hn10] at hN ⊢
      have HN10 := hide hN
      clear hk hN hb0 hn10
      refine hK.out _ _ hS (fun hHeld => ?_)
      clear hK K HH hS
      have HH := hide hHeld
      clear hHeld
      (try simp only [Act.put, List.setIfInBounds_toArray, List.set_cons_zero, List.set_cons_succ])
      refine wpAnyH_ready (rs := [1, 4]) (by kernel_rfl) (by simp) ?_
      refine consL rfl (fun K hK => ?_) (consL rfl (fun K hK => ?_) AllReadyH.nil)
      focus
        go_simp
        refine (good_any k l s d hd _).mono ?_
        rintro e w22 ⟨rfl, hk⟩
        have hS : Below wc.heap.size wc w22 := (unhide HH).trans (hk.mono (unhide HH).size)
        replace HN10 := hide ((unhide HN10).below hk)
        clear hk
        refine hK.out _ _ hS (fun hHeld => ?_)
        clear hK K HH hS
        have HH := hide hHeld
        clear hHeld
        (try simp only [Act.put, List.setIfInBounds_toArray, List.set_cons_zero, List.set_cons_succ])
        refine wpAnyH_ready (rs := [3, 4]) (by kernel_rfl) (by simp) ?_
        refine consL rfl (fun K hK => ?_) (consL rfl (fun K hK => ?_) AllReadyH.nil)
        focus
          go_simp
          refine (good_any k' l' s' d' hd' _).mono ?_
          rintro e w23 ⟨rfl, hk⟩
          have hS : Below wc.heap.size wc w23 := (unhide HH).trans (hk.mono (unhide HH).size)
          replace HN10 := hide ((unhide HN10).below hk)
          clear hk
          refine hK.out _ _ hS (fun hHeld => ?_)
          clear hK K HH hS
          have HH := hide hHeld
          clear hHeld
          (try simp only [Act.put, List.setIfInBounds_toArray, List.set_cons_zero, List.set_cons_succ])
          refine wpAnyH_ready (rs := [4]) (by kernel_rfl) (by simp) ?_
          refine consL rfl (fun K hK => ?_) AllReadyH.nil
          go_simp
          have hk : Below w23.heap.size w23 (w23.alloc (.cells #[.int .i64 0, .int .i64 0, .int .i64 0, .int .u8 0, .int .u8 0, .int .u8 0, .int .u8 0, .int .u8 0, .int .u8 0, .int .u8 0, .int .u8 0, .int .u8 0, .int .u8 0, .int .u8 0, .int .u8 0, .int .u8 0, .int .u8 0, .int .u8 0, .int .u8 0] 24)) := (Below.refl _ _).alloc (Nat.le_refl _) _
          have hN : AtB (w23.alloc (.cells #[.int .i64 0, .int .i64 0, .int .i64 0, .int .u8 0, .int .u8 0, .int .u8 0, .int .u8 0, .int .u8 0, .int .u8 0, .int .u8 0, .int .u8 0, .int .u8 0, .int .u8 0, .int .u8 0, .int .u8 0, .int .u8 0, .int .u8 0, .int .u8 0, .int .u8 0] 24)) w23.heap.size #[.int .i64 0, .int .i64 0, .int .i64 0, .int .u8 0, .int .u8 0, .int .u8 0, .int .u8 0, .int .u8 0, .int .u8 0, .int .u8 0, .int .u8 0, .int .u8 0, .int .u8 0, .int .u8 0, .int .u8 0, .int .u8 0, .int .u8 0, .int .u8 0, .int .u8 0] 24 := ⟨World.alloc_heap_new w23 _⟩
          have hb0 : wc.heap.size ≤ w23.heap.size := (unhide HH).size
          have hS : Below wc.heap.size wc (w23.alloc (.cells #[.int .i64 0, .int .i64 0, .int .i64 0, .int .u8 0, .int .u8 0, .int .u8 0, .int .u8 0, .int .u8 0, .int .u8 0, .int .u8 0, .int .u8 0, .int .u8 0, .int .u8 0, .int .u8 0, .int .u8 0, .int .u8 0, .int .u8 0, .int .u8 0, .int .u8 0] 24)) := (unhide HH).trans (hk.mono (unhide HH).size)
          have hltn10 := (unhide HN10).lt
          generalize w23.alloc (.cells #[.int .i64 0, .int .i64 0, .int .i64 0, .int .u8 0, .int .u8 0, .int .u8 0, .int .u8 0, .int .u8 0, .int .u8 0, .int .u8 0, .int .u8 0, .int .u8 0, .int .u8 0, .int .u8 0, .int .u8 0, .int .u8 0, .int .u8 0, .int .u8 0, .int .u8 0] 24) = w24 at hk hN hS ⊢
          replace HN10 := hide ((unhide HN10).below hk)
          obtain ⟨n9, hn9⟩ : ∃ b, w23.heap.size = b := ⟨_, rfl⟩
          have HG9 : Hid (wc.heap.size ≤ n9) := by rw [← hn9]; exact hb0
          rw [hn9] at hN ⊢
          have HN9 := hide hN
          rw [hn9] at hltn10
          have HD9 : Hid (n10 ≠ n9) := by unfold Hid; omega
          clear hltn10
          clear hk hN hb0 hn9
          refine hK.out _ _ hS (fun hHeld => ?_)
          clear hK K HH hS
          have HH := hide hHeld
          clear hHeld
          (try simp only [Act.put, List.setIfInBounds_toArray, List.set_cons_zero, List.set_cons_succ])
          refine wpAnyH_ready (rs := [6]) (by kernel_rfl) (by simp) ?_
          refine consL rfl (fun K hK => ?_) AllReadyH.nil
          refine wp_store_row (P := Try.prog) 24 (.tmp 9) (.tmp 16) (by rfl) n9 (entA (gdK k) (gdLb k l) (gdS k s) (gdD k d)) (by rfl) (by rfl) 24 #[.int .i64 0, .int .i64 0, .int .i64 0, .int .u8 0, .int .u8 0, .int .u8 0, .int .u8 0, .int .u8 0, .int .u8 0, .int .u8 0, .int .u8 0, .int .u8 0, .int .u8 0, .int .u8 0, .int .u8 0, .int .u8 0, .int .u8 0, .int .u8 0, .int .u8 0] (unhide HN9).blk (by rw [sizeTE, entA_size (unhide HGL)]) (by rw [entA_size (unhide HGL)]; rfl) (entA_one _ _ _ _) ?_
          have hS : Below wc.heap.size wc (w24.setRow n9 (entA (gdK k) (gdLb k l) (gdS k s) (gdD k d))) := below_setRow10 (unhide HH) (unhide HG9) _
          have hN : AtB (w24.setRow n9 (entA (gdK k) (gdLb k l) (gdS k s) (gdD k d))) n9 (entA (gdK k) (gdLb k l) (gdS k s) (gdD k d)) 24 := ⟨setRow_heap _ _ _ _ _ _ (unhide HN9).blk⟩
          have ho10 := (unhide HN10).kp (S := [n9]) (w' := w24.setRow n9 (entA (gdK k) (gdLb k l) (gdS k s) (gdD k d))) ⟨rfl, rfl, rfl, by simp, fun k _ h => setRow_other _ _ k _ (by simpa using h)⟩ (by have h1 := unhide HD9; simp; omega)
          generalize w24.setRow n9 (entA (gdK k) (gdLb k l) (gdS k s) (gdD k d)) = w25 at hS hN ho10 ⊢
          replace HN9 := hide hN
          replace HN10 := hide ho10
          clear hN ho10
          refine hK.out _ _ hS (fun hHeld => ?_)
          clear hK K HH hS
          have HH := hide hHeld
          clear hHeld
          (try simp only [Act.put])
          refine wpAnyH_ready (rs := [7]) (by kernel_rfl) (by simp) ?_
          refine consL rfl (fun K hK => ?_) AllReadyH.nil
          refine wp_store_row (P := Try.prog) 24 (.tmp 10) (.tmp 18) (by rfl) n10 (entA (gdK k') (gdLb k' l') (gdS k' s') (gdD k' d')) (by rfl) (by rfl) 24 #[.int .i64 0, .int .i64 0, .int .i64 0, .int .u8 0, .int .u8 0, .int .u8 0, .int .u8 0, .int .u8 0, .int .u8 0, .int .u8 0, .int .u8 0, .int .u8 0, .int .u8 0, .int .u8 0, .int .u8 0, .int .u8 0, .int .u8 0, .int .u8 0, .int .u8 0] (unhide HN10).blk (by rw [sizeTE, entA_size (unhide HGL')]) (by rw [entA_size (unhide HGL')]; rfl) (entA_one _ _ _ _) ?_
          have hS : Below wc.heap.size wc (w25.setRow n10 (entA (gdK k') (gdLb k' l') (gdS k' s') (gdD k' d'))) := below_setRow10 (unhide HH) (unhide HG10) _
          have hN : AtB (w25.setRow n10 (entA (gdK k') (gdLb k' l') (gdS k' s') (gdD k' d'))) n10 (entA (gdK k') (gdLb k' l') (gdS k' s') (gdD k' d')) 24 := ⟨setRow_heap _ _ _ _ _ _ (unhide HN10).blk⟩
          have ho9 := (unhide HN9).kp (S := [n10]) (w' := w25.setRow n10 (entA (gdK k') (gdLb k' l') (gdS k' s') (gdD k' d'))) ⟨rfl, rfl, rfl, by simp, fun k _ h => setRow_other _ _ k _ (by simpa using h)⟩ (by have h1 := unhide HD9; simp; omega)
          generalize w25.setRow n10 (entA (gdK k') (gdLb k' l') (gdS k' s') (gdD k' d')) = w26 at hS hN ho9 ⊢
          replace HN10 := hide hN
          replace HN9 := hide ho9
          clear hN ho9
          refine hK.out _ _ hS (fun hHeld => ?_)
          clear hK K HH hS
          have HH := hide hHeld
          clear hHeld
          (try simp only [Act.put])
          refine wpAnyH_done (by kernel_rfl) ?_ _
          refine NoPanic.normal ?_
          exact ⟨rfl, _, _, rfl, unhide HN9, unhide HN10, (unhide HBP).below (unhide HH), (unhide HBQ).below (unhide HH), (unhide HT).trans ((unhide HH).mono (unhide HT).size)⟩
        focus
          go_simp
          have hk : Below w22.heap.size w22 (w22.alloc (.cells #[.int .i64 0, .int .i64 0, .int .i64 0, .int .u8 0, .int .u8 0, .int .u8 0, .int .u8 0, .int .u8 0, .int .u8 0, .int .u8 0, .int .u8 0, .int .u8 0, .int .u8 0, .int .u8 0, .int .u8 0, .int .u8 0, .int .u8 0, .int .u8 0, .int .u8 0] 24)) := (Below.refl _ _).alloc (Nat.le_refl _) _
          have hN : AtB (w22.alloc (.cells #[.int .i64 0, .int .i64 0, .int .i64 0, .int .u8 0, .int .u8 0, .int .u8 0, .int .u8 0, .int .u8 0, .int .u8 0, .int .u8 0, .int .u8 0, .int .u8 0, .int .u8 0, .int .u8 0, .int .u8 0, .int .u8 0, .int .u8 0, .int .u8 0, .int .u8 0] 24)) w22.heap.size #[.int .i64 0, .int .i64 0, .int .i64 0, .int .u8 0, .int .u8 0, .int .u8 0, .int .u8 0, .int .u8 0, .int .u8 0, .int .u8 0, .int .u8 0, .int .u8 0, .int .u8 0, .int .u8 0, .int .u8 0, .int .u8 0, .int .u8 0, .int .u8 0, .int .u8 0] 24 := ⟨World.alloc_heap_new w22 _⟩
          have hb0 : wc.heap.size ≤ w22.heap.size := (unhide HH).size
          have hS : Below wc.heap.size wc (w22.alloc (.cells #[.int .i64 0, .int .i64 0, .int .i64 0, .int .u8 0, .int .u8 0, .int .u8 0, .int .u8 0, .int .u8 0, .int .u8 0, .int .u8 0, .int .u8 0, .int .u8 0, .int .u8 0, .int .u8 0, .int .u8 0, .int .u8 0, .int .u8 0, .int .u8 0, .int .u8 0] 24)) := (unhide HH).trans (hk.mono (unhide HH).size)
          have hltn10 := (unhide HN10).lt
          generalize w22.alloc (.cells #[.int .i64 0, .int .i64 0, .int .i64 0, .int .u8 0, .int .u8 0, .int .u8 0, .int .u8 0, .int .u8 0, .int .u8 0, .int .u8 0, .int .u8 0, .int .u8 0, .int .u8 0, .int .u8 0, .int .u8 0, .int .u8 0, .int .u8 0, .int .u8 0, .int .u8 0] 24) = w23 at hk hN hS ⊢
          replace HN10 := hide ((unhide HN10).below hk)
          obtain ⟨n9, hn9⟩ : ∃ b, w22.heap.size = b := ⟨_, rfl⟩
          have HG9 : Hid (wc.heap.size ≤ n9) := by rw [← hn9]; exact hb0
          rw [hn9] at hN ⊢
          have HN9 := hide hN
          rw [hn9] at hltn10
          have HD9 : Hid (n10 ≠ n9) := by unfold Hid; omega
          clear hltn10
          clear hk hN hb0 hn9
          refine hK.out _ _ hS (fun hHeld => ?_)
          clear hK K HH hS
          have HH := hide hHeld
          clear hHeld
          (try simp only [Act.put, List.setIfInBounds_toArray, List.set_cons_zero, List.set_cons_succ])
          refine wpAnyH_ready (rs := [3]) (by kernel_rfl) (by simp) ?_
          refine consL rfl (fun K hK => ?_) AllReadyH.nil
          go_simp
          refine (good_any k' l' s' d' hd' _).mono ?_
          rintro e w24 ⟨rfl, hk⟩
          have hS : Below wc.heap.size wc w24 := (unhide HH).trans (hk.mono (unhide HH).size)
          replace HN10 := hide ((unhide HN10).below hk)
          replace HN9 := hide ((unhide HN9).below hk)
          clear hk
          refine hK.out _ _ hS (fun hHeld => ?_)
          clear hK K HH hS
          have HH := hide hHeld
          clear hHeld
          (try simp only [Act.put, List.setIfInBounds_toArray, List.set_cons_zero, List.set_cons_succ])
          refine wpAnyH_ready (rs := [6]) (by kernel_rfl) (by simp) ?_
          refine consL rfl (fun K hK => ?_) AllReadyH.nil
          refine wp_store_row (P := Try.prog) 24 (.tmp 9) (.tmp 16) (by rfl) n9 (entA (gdK k) (gdLb k l) (gdS k s) (gdD k d)) (by rfl) (by rfl) 24 #[.int .i64 0, .int .i64 0, .int .i64 0, .int .u8 0, .int .u8 0, .int .u8 0, .int .u8 0, .int .u8 0, .int .u8 0, .int .u8 0, .int .u8 0, .int .u8 0, .int .u8 0, .int .u8 0, .int .u8 0, .int .u8 0, .int .u8 0, .int .u8 0, .int .u8 0] (unhide HN9).blk (by rw [sizeTE, entA_size (unhide HGL)]) (by rw [entA_size (unhide HGL)]; rfl) (entA_one _ _ _ _) ?_
          have hS : Below wc.heap.size wc (w24.setRow n9 (entA (gdK k) (gdLb k l) (gdS k s) (gdD k d))) := below_setRow10 (unhide HH) (unhide HG9) _
          have hN : AtB (w24.setRow n9 (entA (gdK k) (gdLb k l) (gdS k s) (gdD k d))) n9 (entA (gdK k) (gdLb k l) (gdS k s) (gdD k d)) 24 := ⟨setRow_heap _ _ _ _ _ _ (unhide HN9).blk⟩
          have ho10 := (unhide HN10).kp (S := [n9]) (w' := w24.setRow n9 (entA (gdK k) (gdLb k l) (gdS k s) (gdD k d))) ⟨rfl, rfl, rfl, by simp, fun k _ h => setRow_other _ _ k _ (by simpa using h)⟩ (by have h1 := unhide HD9; simp; omega)
          generalize w24.setRow n9 (entA (gdK k) (gdLb k l) (gdS k s) (gdD k d)) = w25 at hS hN ho10 ⊢
          replace HN9 := hide hN
          replace HN10 := hide ho10
          clear hN ho10
          refine hK.out _ _ hS (fun hHeld => ?_)
          clear hK K HH hS
          have HH := hide hHeld
          clear hHeld
          (try simp only [Act.put])
          refine wpAnyH_ready (rs := [7]) (by kernel_rfl) (by simp) ?_
          refine consL rfl (fun K hK => ?_) AllReadyH.nil
          refine wp_store_row (P := Try.prog) 24 (.tmp 10) (.tmp 18) (by rfl) n10 (entA (gdK k') (gdLb k' l') (gdS k' s') (gdD k' d')) (by rfl) (by rfl) 24 #[.int .i64 0, .int .i64 0, .int .i64 0, .int .u8 0, .int .u8 0, .int .u8 0, .int .u8 0, .int .u8 0, .int .u8 0, .int .u8 0, .int .u8 0, .int .u8 0, .int .u8 0, .int .u8 0, .int .u8 0, .int .u8 0, .int .u8 0, .int .u8 0, .int .u8 0] (unhide HN10).blk (by rw [sizeTE, entA_size (unhide HGL')]) (by rw [entA_size (unhide HGL')]; rfl) (entA_one _ _ _ _) ?_
          have hS : Below wc.heap.size wc (w25.setRow n10 (entA (gdK k') (gdLb k' l') (gdS k' s') (gdD k' d'))) := below_setRow10 (unhide HH) (unhide HG10) _
          have hN : AtB (w25.setRow n10 (entA (gdK k') (gdLb k' l') (gdS k' s') (gdD k' d'))) n10 (entA (gdK k') (gdLb k' l') (gdS k' s') (gdD k' d')) 24 := ⟨setRow_heap _ _ _ _ _ _ (unhide HN10).blk⟩
          have ho9 := (unhide HN9).kp (S := [n10]) (w' := w25.setRow n10 (entA (gdK k') (gdLb k' l') (gdS k' s') (gdD k' d'))) ⟨rfl, rfl, rfl, by simp, fun k _ h => setRow_other _ _ k _ (by simpa using h)⟩ (by have h1 := unhide HD9; simp; omega)
          generalize w25.setRow n10 (entA (gdK k') (gdLb k' l') (gdS k' s') (gdD k' d')) = w26 at hS hN ho9 ⊢
          replace HN10 := hide hN
          replace HN9 := hide ho9
          clear hN ho9
          refine hK.out _ _ hS (fun hHeld => ?_)
          clear hK K HH hS
          have HH := hide hHeld
          clear hHeld
          (try simp only [Act.put])
          refine wpAnyH_done (by kernel_rfl) ?_ _
          refine NoPanic.normal ?_
          exact ⟨rfl, _, _, rfl, unhide HN9, unhide HN10, (unhide HBP).below (unhide HH), (unhide HBQ).below (unhide HH), (unhide HT).trans ((unhide HH).mono (unhide HT).size)⟩
      focus
        go_simp
        have hk : Below w21.heap.size w21 (w21.alloc (.cells #[.int .i64 0, .int .i64 0, .int .i64 0, .int .u8 0, .int .u8 0, .int .u8 0, .int .u8 0, .int .u8 0, .int .u8 0, .int .u8 0, .int .u8 0, .int .u8 0, .int .u8 0, .int .u8 0, .int .u8 0, .int .u8 0, .int .u8 0, .int .u8 0, .int .u8 0] 24)) := (Below.refl _ _).alloc (Nat.le_refl _) _
        have hN : AtB (w21.alloc (.cells #[.int .i64 0, .int .i64 0, .int .i64 0, .int .u8 0, .int .u8 0, .int .u8 0, .int .u8 0, .int .u8 0, .int .u8 0, .int .u8 0, .int .u8 0, .int .u8 0, .int .u8 0, .int .u8 0, .int .u8 0, .int .u8 0, .int .u8 0, .int .u8 0, .int .u8 0] 24)) w21.heap.size #[.int .i64 0, .int .i64 0, .int .i64 0, .int .u8 0, .int .u8 0, .int .u8 0, .int .u8 0, .int .u8 0, .int .u8 0, .int .u8 0, .int .u8 0, .int .u8 0, .int .u8 0, .int .u8 0, .int .u8 0, .int .u8 0, .int .u8 0, .int .u8 0, .int .u8 0] 24 := ⟨World.alloc_heap_new w21 _⟩
        have hb0 : wc.heap.size ≤ w21.heap.size := (unhide HH).size
        have hS : Below wc.heap.size wc (w21.alloc (.cells #[.int .i64 0, .int .i64 0, .int .i64 0, .int .u8 0, .int .u8 0, .int .u8 0, .int .u8 0, .int .u8 0, .int .u8 0, .int .u8 0, .int .u8 0, .int .u8 0, .int .u8 0, .int .u8 0, .int .u8 0, .int .u8 0, .int .u8 0, .int .u8 0, .int .u8 0] 24)) := (unhide HH).trans (hk.mono (unhide HH).size)
        have hltn10 := (unhide HN10).lt
        generalize w21.alloc (.cells #[.int .i64 0, .int .i64 0, .int .i64 0, .int .u8 0, .int .u8 0, .int .u8 0, .int .u8 0, .int .u8 0, .int .u8 0, .int .u8 0, .int .u8 0, .int .u8 0, .int .u8 0, .int .u8 0, .int .u8 0, .int .u8 0, .int .u8 0, .int .u8 0, .int .u8 0] 24) = w22 at hk hN hS ⊢
        replace HN10 := hide ((unhide HN10).below hk)
        obtain ⟨n9, hn9⟩ : ∃ b, w21.heap.size = b := ⟨_, rfl⟩
        have HG9 : Hid (wc.heap.size ≤ n9) := by rw [← hn9]; exact hb0
        rw [hn9] at hN ⊢
        have HN9 := hide hN
        rw [hn9] at hltn10
        have HD9 : Hid (n10 ≠ n9) := by unfold Hid; omega
        clear hltn10
        clear hk hN hb0 hn9
        refine hK.out _ _ hS (fun hHeld => ?_)
        clear hK K HH hS
        have HH := hide hHeld
        clear hHeld
        (try simp only [Act.put, List.setIfInBounds_toArray, List.set_cons_zero, List.set_cons_succ])
        refine wpAnyH_ready (rs := [1]) (by kernel_rfl) (by simp) ?_
        refine consL rfl (fun K hK => ?_) AllReadyH.nil
        go_simp
        refine (good_any k l s d hd _).mono ?_
        rintro e w23 ⟨rfl, hk⟩
        have hS : Below wc.heap.size wc w23 := (unhide HH).trans (hk.mono (unhide HH).size)
        replace HN10 := hide ((unhide HN10).below hk)
        replace HN9 := hide ((unhide HN9).below hk)
        clear hk
        refine hK.out _ _ hS (fun hHeld => ?_)
        clear hK K HH hS
        have HH := hide hHeld
        clear hHeld
        (try simp only [Act.put, List.setIfInBounds_toArray, List.set_cons_zero, List.set_cons_succ])
        refine wpAnyH_ready (rs := [3]) (by kernel_rfl) (by simp) ?_
        refine consL rfl (fun K hK => ?_) AllReadyH.nil
        go_simp
        refine (good_any k' l' s' d' hd' _).mono ?_
        rintro e w24 ⟨rfl, hk⟩
        have hS : Below wc.heap.size wc w24 := (unhide HH).trans (hk.mono (unhide HH).size)
        replace HN10 := hide ((unhide HN10).below hk)
        replace HN9 := hide ((unhide HN9).below hk)
        clear hk
        refine hK.out _ _ hS (fun hHeld => ?_)
        clear hK K HH hS
        have HH := hide hHeld
        clear hHeld
        (try simp only [Act.put, List.setIfInBounds_toArray, List.set_cons_zero, List.set_cons_succ])
        refine wpAnyH_ready (rs := [6]) (by kernel_rfl) (by simp) ?_
        refine consL rfl (fun K hK => ?_) AllReadyH.nil
        refine wp_store_row (P := Try.prog) 24 (.tmp 9) (.tmp 16) (by rfl) n9 (entA (gdK k) (gdLb k l) (gdS k s) (gdD k d)) (by rfl) (by rfl) 24 #[.int .i64 0, .int .i64 0, .int .i64 0, .int .u8 0, .int .u8 0, .int .u8 0, .int .u8 0, .int .u8 0, .int .u8 0, .int .u8 0, .int .u8 0, .int .u8 0, .int .u8 0, .int .u8 0, .int .u8 0, .int .u8 0, .int .u8 0, .int .u8 0, .int .u8 0] (unhide HN9).blk (by rw [sizeTE, entA_size (unhide HGL)]) (by rw [entA_size (unhide HGL)]; rfl) (entA_one _ _ _ _) ?_
        have hS : Below wc.heap.size wc (w24.setRow n9 (entA (gdK k) (gdLb k l) (gdS k s) (gdD k d))) := below_setRow10 (unhide HH) (unhide HG9) _
        have hN : AtB (w24.setRow n9 (entA (gdK k) (gdLb k l) (gdS k s) (gdD k d))) n9 (entA (gdK k) (gdLb k l) (gdS k s) (gdD k d)) 24 := ⟨setRow_heap _ _ _ _ _ _ (unhide HN9).blk⟩
        have ho10 := (unhide HN10).kp (S := [n9]) (w' := w24.setRow n9 (entA (gdK k) (gdLb k l) (gdS k s) (gdD k d))) ⟨rfl, rfl, rfl, by simp, fun k _ h => setRow_other _ _ k _ (by simpa using h)⟩ (by have h1 := unhide HD9; simp; omega)
        generalize w24.setRow n9 (entA (gdK k) (gdLb k l) (gdS k s) (gdD k d)) = w25 at hS hN ho10 ⊢
        replace HN9 := hide hN
        replace HN10 := hide ho10
        clear hN ho10
        refine hK.out _ _ hS (fun hHeld => ?_)
        clear hK K HH hS
        have HH := hide hHeld
        clear hHeld
        (try simp only [Act.put])
        refine wpAnyH_ready (rs := [7]) (by kernel_rfl) (by simp) ?_
        refine consL rfl (fun K hK => ?_) AllReadyH.nil
        refine wp_store_row (P := Try.prog) 24 (.tmp 10) (.tmp 18) (by rfl) n10 (entA (gdK k') (gdLb k' l') (gdS k' s') (gdD k' d')) (by rfl) (by rfl) 24 #[.int .i64 0, .int .i64 0, .int .i64 0, .int .u8 0, .int .u8 0, .int .u8 0, .int .u8 0, .int .u8 0, .int .u8 0, .int .u8 0, .int .u8 0, .int .u8 0, .int .u8 0, .int .u8 0, .int .u8 0, .int .u8 0, .int .u8 0, .int .u8 0, .int .u8 0] (unhide HN10).blk (by rw [sizeTE, entA_size (unhide HGL')]) (by rw [entA_size (unhide HGL')]; rfl) (entA_one _ _ _ _) ?_
        have hS : Below wc.heap.size wc (w25.setRow n10 (entA (gdK k') (gdLb k' l') (gdS k' s') (gdD k' d'))) := below_setRow10 (unhide HH) (unhide HG10) _
        have hN : AtB (w25.setRow n10 (entA (gdK k') (gdLb k' l') (gdS k' s') (gdD k' d'))) n10 (entA (gdK k') (gdLb k' l') (gdS k' s') (gdD k' d')) 24 := ⟨setRow_heap _ _ _ _ _ _ (unhide HN10).blk⟩
        have ho9 := (unhide HN9).kp (S := [n10]) (w' := w25.setRow n10 (entA (gdK k') (gdLb k' l') (gdS k' s') (gdD k' d'))) ⟨rfl, rfl, rfl, by simp, fun k _ h => setRow_other _ _ k _ (by simpa using h)⟩ (by have h1 := unhide HD9; simp; omega)
        generalize w25.setRow n10 (entA (gdK k') (gdLb k' l') (gdS k' s') (gdD k' d')) = w26 at hS hN ho9 ⊢
        replace HN10 := hide hN
        replace HN9 := hide ho9
        clear hN ho9
        refine hK.out _ _ hS (fun hHeld => ?_)
        clear hK K HH hS
        have HH := hide hHeld
        clear hHeld
        (try simp only [Act.put])
        refine wpAnyH_done (by kernel_rfl) ?_ _
        refine NoPanic.normal ?_
        exact ⟨rfl, _, _, rfl, unhide HN9, unhide HN10, (unhide HBP).below (unhide HH), (unhide HBQ).below (unhide HH), (unhide HT).trans ((unhide HH).mono (unhide HT).size)⟩
  rintro e0 a0' W3 ⟨rfl, n9, n10, rfl, hn9, hn10, hbp, hbq, ht⟩
  clear HBA HBB HBP HBQ HT
  have HX := hide hn9
  have HYY := hide hn10
  have HBP := hide hbp
  have HBQ := hide hbq
  have HT := hide ht
  clear hn9 hn10 hbp hbq ht
  go_wp2_with fail
  refine Code.wp_mono (Q := fun e a W => e = .normal ∧ ∃ n11, a = { tmps := #[.agg (entA k l s d), .agg (entA k' l' s' d'), .agg (headA a0 a1 a2 a3), .agg (headA b0 b1 b2 b3), .pointer (some ⟨w.heap.size, 0, none⟩), .pointer (some ⟨w.heap.size + 1, 0, none⟩), .pointer (some ⟨w.heap.size + 1 + 1, 0, none⟩), .pointer (some ⟨w.heap.size + 1 + 1 + 1, 0, none⟩), .bool false, .pointer (some ⟨n9, 0, none⟩), .pointer (some ⟨n10, 0, none⟩), .pointer (some ⟨n11, 0, none⟩), undef, .bool true, .bool false, .agg (entA k l s d), .agg (entA (gdK k) (gdLb k l) (gdS k s) (gdD k d)), .agg (entA k' l' s' d'), .agg (entA (gdK k') (gdLb k' l') (gdS k' s') (gdD k' d')), .pointer (some ⟨w.heap.size + 1 + 1, 0, none⟩), .int .i64 a0, .int .i64 P0, .int .i64 (1 + P0), .pointer (some ⟨w.heap.size + 1 + 1, 1, none⟩), .int .i64 a1, .int .i64 P1, .pointer (some ⟨w.heap.size + 1 + 1, 2, none⟩), .int .i64 a2, .int .i64 P2, .pointer (some ⟨w.heap.size + 1 + 1, 3, none⟩), .int .i64 a3, .int .i64 P3, .agg (headA (1 + P0) P1 P2 P3), undef, undef, undef, undef, undef, undef, undef, undef, undef, undef, undef, undef, undef, undef, undef, undef, undef, undef, undef, undef, undef, undef, undef, undef, undef, undef, undef, undef, undef, undef, undef, undef], defers := [] } ∧ AtB W n11 (headA (1 + P0) P1 P2 P3) 29 ∧ AtB W n9 (entA (gdK k) (gdLb k l) (gdS k s) (gdD k d)) 24 ∧ AtB W n10 (entA (gdK k') (gdLb k' l') (gdS k' s') (gdD k' d')) 24 ∧ AtB W (w.heap.size + 1 + 1 + 1) (headA b0 b1 b2 b3) 29 ∧ Below w.heap.size w W) ?_ ?_
  rotate_left 1
  · replace HT := hide ((unhide HT).drew)
    replace HX := hide ((unhide HX).below (Below.refl _ _).drew)
    replace HYY := hide ((unhide HYY).below (Below.refl _ _).drew)
    replace HBQ := hide ((unhide HBQ).below (Below.refl _ _).drew)
    replace HBP := hide ((unhide HBP).below (Below.refl _ _).drew)
    refine wp_region_noPanic ?_
    refine wp_region_held_drew (S := fun V => Below W3.drew.heap.size W3.drew V) (by kernel_rfl) (Below.refl _ _) (fun hHeld => ?_)
    have HH := hide hHeld
    clear hHeld
    generalize W3.drew = wc4 at HT HX HYY HBQ HBP HH ⊢
    refine takeL (i := 0) (v := ?_) rfl (by kernel_rfl) (by kernel_rfl) (by kernel_rfl) (fun _ _ _ h => h) (Or.inl ⟨by rfl, ?_⟩) (unhide HH) ?_
    rotate_left 1
    · intro W hSW; go_simp; all_goals (with_reducible rfl)
    (try simp only [Act.put, List.setIfInBounds_toArray, List.set_cons_zero, List.set_cons_succ])
    refine takeL (i := 1) (v := .int .i64 a0) rfl (by kernel_rfl) (by kernel_rfl) (by kernel_rfl) (fun _ _ _ h => h) (Or.inl ⟨by rfl, ?_⟩) (unhide HH) ?_
    · intro W hSW; have hcl : W.cell? ⟨w.heap.size + 1 + 1, 0, none⟩ = some (.int .i64 a0) := cell_blk ((unhide HBP).below hSW).blk rfl; clear hSW; go_simp; all_goals (first | (with_reducible rfl) | simp)
    (try simp only [Act.put, List.setIfInBounds_toArray, List.set_cons_zero, List.set_cons_succ])
    refine takeL (i := 4) (v := ?_) rfl (by kernel_rfl) (by kernel_rfl) (by kernel_rfl) (fun _ _ _ h => h) (Or.inl ⟨by rfl, ?_⟩) (unhide HH) ?_
    rotate_left 1
    · intro W hSW; go_simp; all_goals (with_reducible rfl)
    (try simp only [Act.put, List.setIfInBounds_toArray, List.set_cons_zero, List.set_cons_succ])
    refine takeL (i := 5) (v := .int .i64 a1) rfl (by kernel_rfl) (by kernel_rfl) (by kernel_rfl) (fun _ _ _ h => h) (Or.inl ⟨by rfl, ?_⟩) (unhide HH) ?_
    · intro W hSW; have hcl : W.cell? ⟨w.heap.size + 1 + 1, 1, none⟩ = some (.int .i64 a1) := cell_blk ((unhide HBP).below hSW).blk rfl; clear hSW; go_simp; all_goals (first | (with_reducible rfl) | simp)
    (try simp only [Act.put, List.setIfInBounds_toArray, List.set_cons_zero, List.set_cons_succ])
    refine takeL (i := 7) (v := ?_) rfl (by kernel_rfl) (by kernel_rfl) (by kernel_rfl) (fun _ _ _ h => h) (Or.inl ⟨by rfl, ?_⟩) (unhide HH) ?_
    rotate_left 1
    · intro W hSW; go_simp; all_goals (with_reducible rfl)
    (try simp only [Act.put, List.setIfInBounds_toArray, List.set_cons_zero, List.set_cons_succ])
    refine takeL (i := 8) (v := .int .i64 a2) rfl (by kernel_rfl) (by kernel_rfl) (by kernel_rfl) (fun _ _ _ h => h) (Or.inl ⟨by rfl, ?_⟩) (unhide HH) ?_
    · intro W hSW; have hcl : W.cell? ⟨w.heap.size + 1 + 1, 2, none⟩ = some (.int .i64 a2) := cell_blk ((unhide HBP).below hSW).blk rfl; clear hSW; go_simp; all_goals (first | (with_reducible rfl) | simp)
    (try simp only [Act.put, List.setIfInBounds_toArray, List.set_cons_zero, List.set_cons_succ])
    refine takeL (i := 10) (v := ?_) rfl (by kernel_rfl) (by kernel_rfl) (by kernel_rfl) (fun _ _ _ h => h) (Or.inl ⟨by rfl, ?_⟩) (unhide HH) ?_
    rotate_left 1
    · intro W hSW; go_simp; all_goals (with_reducible rfl)
    (try simp only [Act.put, List.setIfInBounds_toArray, List.set_cons_zero, List.set_cons_succ])
    refine takeL (i := 11) (v := .int .i64 a3) rfl (by kernel_rfl) (by kernel_rfl) (by kernel_rfl) (fun _ _ _ h => h) (Or.inl ⟨by rfl, ?_⟩) (unhide HH) ?_
    · intro W hSW; have hcl : W.cell? ⟨w.heap.size + 1 + 1, 3, none⟩ = some (.int .i64 a3) := cell_blk ((unhide HBP).below hSW).blk rfl; clear hSW; go_simp; all_goals (first | (with_reducible rfl) | simp)
    (try simp only [Act.put, List.setIfInBounds_toArray, List.set_cons_zero, List.set_cons_succ])
    refine wpAnyH_ready (rs := [2, 14]) (by kernel_rfl) (by simp) ?_
    refine consL rfl (fun K hK => ?_) (consL rfl (fun K hK => ?_) AllReadyH.nil)
    focus
      go_simp
      refine (within10_any a0 99 _ (by omega) (by omega)).mono ?_
      rintro e wq ⟨rfl, hwq⟩
      rw [unhide HP0, hwq]
      clear hwq wq
      refine hK.out _ _ (unhide HH) (fun hHeld => ?_)
      clear hK K HH
      have HH := hide hHeld
      clear hHeld
      (try simp only [Act.put, List.setIfInBounds_toArray, List.set_cons_zero, List.set_cons_succ])
      refine takeL (i := 3) (v := .int .i64 (1 + P0)) rfl (by kernel_rfl) (by kernel_rfl) (by kernel_rfl) (fun _ _ _ h => h) (Or.inl ⟨by rfl, ?_⟩) (unhide HH) ?_
      · intro W hSW; clear hSW; go_simp; all_goals (first | (rw [IntWalk.i64_in _ ⟨by omega, by omega⟩]) | (with_reducible rfl) | simp)
      (try simp only [Act.put, List.setIfInBounds_toArray, List.set_cons_zero, List.set_cons_succ])
      refine wpAnyH_ready (rs := [6, 14]) (by kernel_rfl) (by simp) ?_
      refine consL rfl (fun K hK => ?_) (consL rfl (fun K hK => ?_) AllReadyH.nil)
      focus
        go_simp
        refine (within10_any a1 256 _ (by omega) (by omega)).mono ?_
        rintro e wq ⟨rfl, hwq⟩
        rw [unhide HP1, hwq]
        clear hwq wq
        refine hK.out _ _ (unhide HH) (fun hHeld => ?_)
        clear hK K HH
        have HH := hide hHeld
        clear hHeld
        (try simp only [Act.put, List.setIfInBounds_toArray, List.set_cons_zero, List.set_cons_succ])
        refine wpAnyH_ready (rs := [9, 14]) (by kernel_rfl) (by simp) ?_
        refine consL rfl (fun K hK => ?_) (consL rfl (fun K hK => ?_) AllReadyH.nil)
        focus
          go_simp
          refine (within10_any a2 256 _ (by omega) (by omega)).mono ?_
          rintro e wq ⟨rfl, hwq⟩
          rw [unhide HP2, hwq]
          clear hwq wq
          refine hK.out _ _ (unhide HH) (fun hHeld => ?_)
          clear hK K HH
          have HH := hide hHeld
          clear hHeld
          (try simp only [Act.put, List.setIfInBounds_toArray, List.set_cons_zero, List.set_cons_succ])
          refine wpAnyH_ready (rs := [12, 14]) (by kernel_rfl) (by simp) ?_
          refine consL rfl (fun K hK => ?_) (consL rfl (fun K hK => ?_) AllReadyH.nil)
          focus
            go_simp
            refine (within10_any a3 256 _ (by omega) (by omega)).mono ?_
            rintro e wq ⟨rfl, hwq⟩
            rw [unhide HP3, hwq]
            clear hwq wq
            refine hK.out _ _ (unhide HH) (fun hHeld => ?_)
            clear hK K HH
            have HH := hide hHeld
            clear hHeld
            (try simp only [Act.put, List.setIfInBounds_toArray, List.set_cons_zero, List.set_cons_succ])
            refine takeL (i := 13) (v := .agg (headA (1 + P0) P1 P2 P3)) rfl (by kernel_rfl) (by kernel_rfl) (by kernel_rfl) (fun _ _ _ h => h) (Or.inl ⟨by rfl, ?_⟩) (unhide HH) ?_
            · intro W hSW; exact run_build9 rfl (by simp only [List.map_toArray, List.map_cons, List.map_nil]; rfl) (build_TH _ _ _ _ W)
            (try simp only [Act.put, List.setIfInBounds_toArray, List.set_cons_zero, List.set_cons_succ])
            refine wpAnyH_ready (rs := [14]) (by kernel_rfl) (by simp) ?_
            refine consL rfl (fun K hK => ?_) AllReadyH.nil
            go_simp
            have hk : Below wc4.heap.size wc4 (wc4.alloc (.cells #[.int .i64 0, .int .i64 0, .int .i64 0, .int .i64 0] 29)) := (Below.refl _ _).alloc (Nat.le_refl _) _
            have hN : AtB (wc4.alloc (.cells #[.int .i64 0, .int .i64 0, .int .i64 0, .int .i64 0] 29)) wc4.heap.size #[.int .i64 0, .int .i64 0, .int .i64 0, .int .i64 0] 29 := ⟨World.alloc_heap_new wc4 _⟩
            have hb0 : wc4.heap.size ≤ wc4.heap.size := (unhide HH).size
            have hS : Below wc4.heap.size wc4 (wc4.alloc (.cells #[.int .i64 0, .int .i64 0, .int .i64 0, .int .i64 0] 29)) := (unhide HH).trans (hk.mono (unhide HH).size)
            generalize wc4.alloc (.cells #[.int .i64 0, .int .i64 0, .int .i64 0, .int .i64 0] 29) = w85 at hk hN hS ⊢
            obtain ⟨n11, hn11⟩ : ∃ b, wc4.heap.size = b := ⟨_, rfl⟩
            have HG11 : Hid (wc4.heap.size ≤ n11) := by rw [← hn11]; exact hb0
            rw [hn11] at hN ⊢
            have HN11 := hide hN
            clear hk hN hb0 hn11
            refine hK.out _ _ hS (fun hHeld => ?_)
            clear hK K HH hS
            have HH := hide hHeld
            clear hHeld
            (try simp only [Act.put, List.setIfInBounds_toArray, List.set_cons_zero, List.set_cons_succ])
            refine wpAnyH_ready (rs := [15]) (by kernel_rfl) (by simp) ?_
            refine consL rfl (fun K hK => ?_) AllReadyH.nil
            refine wp_store_row (P := Try.prog) 29 (.tmp 11) (.tmp 32) (by rfl) n11 (headA (1 + P0) P1 P2 P3) (by rfl) (by rfl) 29 #[.int .i64 0, .int .i64 0, .int .i64 0, .int .i64 0] (unhide HN11).blk (by rw [sizeTH]; rfl) (rfl) (one_head _ _ _ _) ?_
            have hS : Below wc4.heap.size wc4 (w85.setRow n11 (headA (1 + P0) P1 P2 P3)) := below_setRow10 (unhide HH) (unhide HG11) _
            have hN : AtB (w85.setRow n11 (headA (1 + P0) P1 P2 P3)) n11 (headA (1 + P0) P1 P2 P3) 29 := ⟨setRow_heap _ _ _ _ _ _ (unhide HN11).blk⟩
            generalize w85.setRow n11 (headA (1 + P0) P1 P2 P3) = w86 at hS hN  ⊢
            replace HN11 := hide hN
            clear hN 
            refine hK.out _ _ hS (fun hHeld => ?_)
            clear hK K HH hS
            have HH := hide hHeld
            clear hHeld
            (try simp only [Act.put])
            refine wpAnyH_done (by kernel_rfl) ?_ _
            refine NoPanic.normal ?_
            exact ⟨rfl, _, rfl, unhide HN11, (unhide HX).below (unhide HH), (unhide HYY).below (unhide HH), (unhide HBQ).below (unhide HH), (unhide HT).trans ((unhide HH).mono (unhide HT).size)⟩
          focus
            go_simp
            have hk : Below wc4.heap.size wc4 (wc4.alloc (.cells #[.int .i64 0, .int .i64 0, .int .i64 0, .int .i64 0] 29)) := (Below.refl _ _).alloc (Nat.le_refl _) _
            have hN : AtB (wc4.alloc (.cells #[.int .i64 0, .int .i64 0, .int .i64 0, .int .i64 0] 29)) wc4.heap.size #[.int .i64 0, .int .i64 0, .int .i64 0, .int .i64 0] 29 := ⟨World.alloc_heap_new wc4 _⟩
            have hb0 : wc4.heap.size ≤ wc4.heap.size := (unhide HH).size
            have hS : Below wc4.heap.size wc4 (wc4.alloc (.cells #[.int .i64 0, .int .i64 0, .int .i64 0, .int .i64 0] 29)) := (unhide HH).trans (hk.mono (unhide HH).size)
            generalize wc4.alloc (.cells #[.int .i64 0, .int .i64 0, .int .i64 0, .int .i64 0] 29) = w84 at hk hN hS ⊢
            obtain ⟨n11, hn11⟩ : ∃ b, wc4.heap.size = b := ⟨_, rfl⟩
            have HG11 : Hid (wc4.heap.size ≤ n11) := by rw [← hn11]; exact hb0
            rw [hn11] at hN ⊢
            have HN11 := hide hN
            clear hk hN hb0 hn11
            refine hK.out _ _ hS (fun hHeld => ?_)
            clear hK K HH hS
            have HH := hide hHeld
            clear hHeld
            (try simp only [Act.put, List.setIfInBounds_toArray, List.set_cons_zero, List.set_cons_succ])
            refine wpAnyH_ready (rs := [12]) (by kernel_rfl) (by simp) ?_
            refine consL rfl (fun K hK => ?_) AllReadyH.nil
            go_simp
            refine (within10_any a3 256 _ (by omega) (by omega)).mono ?_
            rintro e wq ⟨rfl, hwq⟩
            rw [unhide HP3, hwq]
            clear hwq wq
            refine hK.out _ _ (unhide HH) (fun hHeld => ?_)
            clear hK K HH
            have HH := hide hHeld
            clear hHeld
            (try simp only [Act.put, List.setIfInBounds_toArray, List.set_cons_zero, List.set_cons_succ])
            refine takeL (i := 13) (v := .agg (headA (1 + P0) P1 P2 P3)) rfl (by kernel_rfl) (by kernel_rfl) (by kernel_rfl) (fun _ _ _ h => h) (Or.inl ⟨by rfl, ?_⟩) (unhide HH) ?_
            · intro W hSW; exact run_build9 rfl (by simp only [List.map_toArray, List.map_cons, List.map_nil]; rfl) (build_TH _ _ _ _ W)
            (try simp only [Act.put, List.setIfInBounds_toArray, List.set_cons_zero, List.set_cons_succ])
            refine wpAnyH_ready (rs := [15]) (by kernel_rfl) (by simp) ?_
            refine consL rfl (fun K hK => ?_) AllReadyH.nil
            refine wp_store_row (P := Try.prog) 29 (.tmp 11) (.tmp 32) (by rfl) n11 (headA (1 + P0) P1 P2 P3) (by rfl) (by rfl) 29 #[.int .i64 0, .int .i64 0, .int .i64 0, .int .i64 0] (unhide HN11).blk (by rw [sizeTH]; rfl) (rfl) (one_head _ _ _ _) ?_
            have hS : Below wc4.heap.size wc4 (w84.setRow n11 (headA (1 + P0) P1 P2 P3)) := below_setRow10 (unhide HH) (unhide HG11) _
            have hN : AtB (w84.setRow n11 (headA (1 + P0) P1 P2 P3)) n11 (headA (1 + P0) P1 P2 P3) 29 := ⟨setRow_heap _ _ _ _ _ _ (unhide HN11).blk⟩
            generalize w84.setRow n11 (headA (1 + P0) P1 P2 P3) = w86 at hS hN  ⊢
            replace HN11 := hide hN
            clear hN 
            refine hK.out _ _ hS (fun hHeld => ?_)
            clear hK K HH hS
            have HH := hide hHeld
            clear hHeld
            (try simp only [Act.put])
            refine wpAnyH_done (by kernel_rfl) ?_ _
            refine NoPanic.normal ?_
            exact ⟨rfl, _, rfl, unhide HN11, (unhide HX).below (unhide HH), (unhide HYY).below (unhide HH), (unhide HBQ).below (unhide HH), (unhide HT).trans ((unhide HH).mono (unhide HT).size)⟩
        focus
          go_simp
          have hk : Below wc4.heap.size wc4 (wc4.alloc (.cells #[.int .i64 0, .int .i64 0, .int .i64 0, .int .i64 0] 29)) := (Below.refl _ _).alloc (Nat.le_refl _) _
          have hN : AtB (wc4.alloc (.cells #[.int .i64 0, .int .i64 0, .int .i64 0, .int .i64 0] 29)) wc4.heap.size #[.int .i64 0, .int .i64 0, .int .i64 0, .int .i64 0] 29 := ⟨World.alloc_heap_new wc4 _⟩
          have hb0 : wc4.heap.size ≤ wc4.heap.size := (unhide HH).size
          have hS : Below wc4.heap.size wc4 (wc4.alloc (.cells #[.int .i64 0, .int .i64 0, .int .i64 0, .int .i64 0] 29)) := (unhide HH).trans (hk.mono (unhide HH).size)
          generalize wc4.alloc (.cells #[.int .i64 0, .int .i64 0, .int .i64 0, .int .i64 0] 29) = w83 at hk hN hS ⊢
          obtain ⟨n11, hn11⟩ : ∃ b, wc4.heap.size = b := ⟨_, rfl⟩
          have HG11 : Hid (wc4.heap.size ≤ n11) := by rw [← hn11]; exact hb0
          rw [hn11] at hN ⊢
          have HN11 := hide hN
          clear hk hN hb0 hn11
          refine hK.out _ _ hS (fun hHeld => ?_)
          clear hK K HH hS
          have HH := hide hHeld
          clear hHeld
          (try simp only [Act.put, List.setIfInBounds_toArray, List.set_cons_zero, List.set_cons_succ])
          refine wpAnyH_ready (rs := [9]) (by kernel_rfl) (by simp) ?_
          refine consL rfl (fun K hK => ?_) AllReadyH.nil
          go_simp
          refine (within10_any a2 256 _ (by omega) (by omega)).mono ?_
          rintro e wq ⟨rfl, hwq⟩
          rw [unhide HP2, hwq]
          clear hwq wq
          refine hK.out _ _ (unhide HH) (fun hHeld => ?_)
          clear hK K HH
          have HH := hide hHeld
          clear hHeld
          (try simp only [Act.put, List.setIfInBounds_toArray, List.set_cons_zero, List.set_cons_succ])
          refine wpAnyH_ready (rs := [12]) (by kernel_rfl) (by simp) ?_
          refine consL rfl (fun K hK => ?_) AllReadyH.nil
          go_simp
          refine (within10_any a3 256 _ (by omega) (by omega)).mono ?_
          rintro e wq ⟨rfl, hwq⟩
          rw [unhide HP3, hwq]
          clear hwq wq
          refine hK.out _ _ (unhide HH) (fun hHeld => ?_)
          clear hK K HH
          have HH := hide hHeld
          clear hHeld
          (try simp only [Act.put, List.setIfInBounds_toArray, List.set_cons_zero, List.set_cons_succ])
          refine takeL (i := 13) (v := .agg (headA (1 + P0) P1 P2 P3)) rfl (by kernel_rfl) (by kernel_rfl) (by kernel_rfl) (fun _ _ _ h => h) (Or.inl ⟨by rfl, ?_⟩) (unhide HH) ?_
          · intro W hSW; exact run_build9 rfl (by simp only [List.map_toArray, List.map_cons, List.map_nil]; rfl) (build_TH _ _ _ _ W)
          (try simp only [Act.put, List.setIfInBounds_toArray, List.set_cons_zero, List.set_cons_succ])
          refine wpAnyH_ready (rs := [15]) (by kernel_rfl) (by simp) ?_
          refine consL rfl (fun K hK => ?_) AllReadyH.nil
          refine wp_store_row (P := Try.prog) 29 (.tmp 11) (.tmp 32) (by rfl) n11 (headA (1 + P0) P1 P2 P3) (by rfl) (by rfl) 29 #[.int .i64 0, .int .i64 0, .int .i64 0, .int .i64 0] (unhide HN11).blk (by rw [sizeTH]; rfl) (rfl) (one_head _ _ _ _) ?_
          have hS : Below wc4.heap.size wc4 (w83.setRow n11 (headA (1 + P0) P1 P2 P3)) := below_setRow10 (unhide HH) (unhide HG11) _
          have hN : AtB (w83.setRow n11 (headA (1 + P0) P1 P2 P3)) n11 (headA (1 + P0) P1 P2 P3) 29 := ⟨setRow_heap _ _ _ _ _ _ (unhide HN11).blk⟩
          generalize w83.setRow n11 (headA (1 + P0) P1 P2 P3) = w86 at hS hN  ⊢
          replace HN11 := hide hN
          clear hN 
          refine hK.out _ _ hS (fun hHeld => ?_)
          clear hK K HH hS
          have HH := hide hHeld
          clear hHeld
          (try simp only [Act.put])
          refine wpAnyH_done (by kernel_rfl) ?_ _
          refine NoPanic.normal ?_
          exact ⟨rfl, _, rfl, unhide HN11, (unhide HX).below (unhide HH), (unhide HYY).below (unhide HH), (unhide HBQ).below (unhide HH), (unhide HT).trans ((unhide HH).mono (unhide HT).size)⟩
      focus
        go_simp
        have hk : Below wc4.heap.size wc4 (wc4.alloc (.cells #[.int .i64 0, .int .i64 0, .int .i64 0, .int .i64 0] 29)) := (Below.refl _ _).alloc (Nat.le_refl _) _
        have hN : AtB (wc4.alloc (.cells #[.int .i64 0, .int .i64 0, .int .i64 0, .int .i64 0] 29)) wc4.heap.size #[.int .i64 0, .int .i64 0, .int .i64 0, .int .i64 0] 29 := ⟨World.alloc_heap_new wc4 _⟩
        have hb0 : wc4.heap.size ≤ wc4.heap.size := (unhide HH).size
        have hS : Below wc4.heap.size wc4 (wc4.alloc (.cells #[.int .i64 0, .int .i64 0, .int .i64 0, .int .i64 0] 29)) := (unhide HH).trans (hk.mono (unhide HH).size)
        generalize wc4.alloc (.cells #[.int .i64 0, .int .i64 0, .int .i64 0, .int .i64 0] 29) = w82 at hk hN hS ⊢
        obtain ⟨n11, hn11⟩ : ∃ b, wc4.heap.size = b := ⟨_, rfl⟩
        have HG11 : Hid (wc4.heap.size ≤ n11) := by rw [← hn11]; exact hb0
        rw [hn11] at hN ⊢
        have HN11 := hide hN
        clear hk hN hb0 hn11
        refine hK.out _ _ hS (fun hHeld => ?_)
        clear hK K HH hS
        have HH := hide hHeld
        clear hHeld
        (try simp only [Act.put, List.setIfInBounds_toArray, List.set_cons_zero, List.set_cons_succ])
        refine wpAnyH_ready (rs := [6]) (by kernel_rfl) (by simp) ?_
        refine consL rfl (fun K hK => ?_) AllReadyH.nil
        go_simp
        refine (within10_any a1 256 _ (by omega) (by omega)).mono ?_
        rintro e wq ⟨rfl, hwq⟩
        rw [unhide HP1, hwq]
        clear hwq wq
        refine hK.out _ _ (unhide HH) (fun hHeld => ?_)
        clear hK K HH
        have HH := hide hHeld
        clear hHeld
        (try simp only [Act.put, List.setIfInBounds_toArray, List.set_cons_zero, List.set_cons_succ])
        refine wpAnyH_ready (rs := [9]) (by kernel_rfl) (by simp) ?_
        refine consL rfl (fun K hK => ?_) AllReadyH.nil
        go_simp
        refine (within10_any a2 256 _ (by omega) (by omega)).mono ?_
        rintro e wq ⟨rfl, hwq⟩
        rw [unhide HP2, hwq]
        clear hwq wq
        refine hK.out _ _ (unhide HH) (fun hHeld => ?_)
        clear hK K HH
        have HH := hide hHeld
        clear hHeld
        (try simp only [Act.put, List.setIfInBounds_toArray, List.set_cons_zero, List.set_cons_succ])
        refine wpAnyH_ready (rs := [12]) (by kernel_rfl) (by simp) ?_
        refine consL rfl (fun K hK => ?_) AllReadyH.nil
        go_simp
        refine (within10_any a3 256 _ (by omega) (by omega)).mono ?_
        rintro e wq ⟨rfl, hwq⟩
        rw [unhide HP3, hwq]
        clear hwq wq
        refine hK.out _ _ (unhide HH) (fun hHeld => ?_)
        clear hK K HH
        have HH := hide hHeld
        clear hHeld
        (try simp only [Act.put, List.setIfInBounds_toArray, List.set_cons_zero, List.set_cons_succ])
        refine takeL (i := 13) (v := .agg (headA (1 + P0) P1 P2 P3)) rfl (by kernel_rfl) (by kernel_rfl) (by kernel_rfl) (fun _ _ _ h => h) (Or.inl ⟨by rfl, ?_⟩) (unhide HH) ?_
        · intro W hSW; exact run_build9 rfl (by simp only [List.map_toArray, List.map_cons, List.map_nil]; rfl) (build_TH _ _ _ _ W)
        (try simp only [Act.put, List.setIfInBounds_toArray, List.set_cons_zero, List.set_cons_succ])
        refine wpAnyH_ready (rs := [15]) (by kernel_rfl) (by simp) ?_
        refine consL rfl (fun K hK => ?_) AllReadyH.nil
        refine wp_store_row (P := Try.prog) 29 (.tmp 11) (.tmp 32) (by rfl) n11 (headA (1 + P0) P1 P2 P3) (by rfl) (by rfl) 29 #[.int .i64 0, .int .i64 0, .int .i64 0, .int .i64 0] (unhide HN11).blk (by rw [sizeTH]; rfl) (rfl) (one_head _ _ _ _) ?_
        have hS : Below wc4.heap.size wc4 (w82.setRow n11 (headA (1 + P0) P1 P2 P3)) := below_setRow10 (unhide HH) (unhide HG11) _
        have hN : AtB (w82.setRow n11 (headA (1 + P0) P1 P2 P3)) n11 (headA (1 + P0) P1 P2 P3) 29 := ⟨setRow_heap _ _ _ _ _ _ (unhide HN11).blk⟩
        generalize w82.setRow n11 (headA (1 + P0) P1 P2 P3) = w86 at hS hN  ⊢
        replace HN11 := hide hN
        clear hN 
        refine hK.out _ _ hS (fun hHeld => ?_)
        clear hK K HH hS
        have HH := hide hHeld
        clear hHeld
        (try simp only [Act.put])
        refine wpAnyH_done (by kernel_rfl) ?_ _
        refine NoPanic.normal ?_
        exact ⟨rfl, _, rfl, unhide HN11, (unhide HX).below (unhide HH), (unhide HYY).below (unhide HH), (unhide HBQ).below (unhide HH), (unhide HT).trans ((unhide HH).mono (unhide HT).size)⟩
    focus
      go_simp
      have hk : Below wc4.heap.size wc4 (wc4.alloc (.cells #[.int .i64 0, .int .i64 0, .int .i64 0, .int .i64 0] 29)) := (Below.refl _ _).alloc (Nat.le_refl _) _
      have hN : AtB (wc4.alloc (.cells #[.int .i64 0, .int .i64 0, .int .i64 0, .int .i64 0] 29)) wc4.heap.size #[.int .i64 0, .int .i64 0, .int .i64 0, .int .i64 0] 29 := ⟨World.alloc_heap_new wc4 _⟩
      have hb0 : wc4.heap.size ≤ wc4.heap.size := (unhide HH).size
      have hS : Below wc4.heap.size wc4 (wc4.alloc (.cells #[.int .i64 0, .int .i64 0, .int .i64 0, .int .i64 0] 29)) := (unhide HH).trans (hk.mono (unhide HH).size)
      generalize wc4.alloc (.cells #[.int .i64 0, .int .i64 0, .int .i64 0, .int .i64 0] 29) = w81 at hk hN hS ⊢
      obtain ⟨n11, hn11⟩ : ∃ b, wc4.heap.size = b := ⟨_, rfl⟩
      have HG11 : Hid (wc4.heap.size ≤ n11) := by rw [← hn11]; exact hb0
      rw [hn11] at hN ⊢
      have HN11 := hide hN
      clear hk hN hb0 hn11
      refine hK.out _ _ hS (fun hHeld => ?_)
      clear hK K HH hS
      have HH := hide hHeld
      clear hHeld
      (try simp only [Act.put, List.setIfInBounds_toArray, List.set_cons_zero, List.set_cons_succ])
      refine wpAnyH_ready (rs := [2]) (by kernel_rfl) (by simp) ?_
      refine consL rfl (fun K hK => ?_) AllReadyH.nil
      go_simp
      refine (within10_any a0 99 _ (by omega) (by omega)).mono ?_
      rintro e wq ⟨rfl, hwq⟩
      rw [unhide HP0, hwq]
      clear hwq wq
      refine hK.out _ _ (unhide HH) (fun hHeld => ?_)
      clear hK K HH
      have HH := hide hHeld
      clear hHeld
      (try simp only [Act.put, List.setIfInBounds_toArray, List.set_cons_zero, List.set_cons_succ])
      refine takeL (i := 3) (v := .int .i64 (1 + P0)) rfl (by kernel_rfl) (by kernel_rfl) (by kernel_rfl) (fun _ _ _ h => h) (Or.inl ⟨by rfl, ?_⟩) (unhide HH) ?_
      · intro W hSW; clear hSW; go_simp; all_goals (first | (rw [IntWalk.i64_in _ ⟨by omega, by omega⟩]) | (with_reducible rfl) | simp)
      (try simp only [Act.put, List.setIfInBounds_toArray, List.set_cons_zero, List.set_cons_succ])
      refine wpAnyH_ready (rs := [6]) (by kernel_rfl) (by simp) ?_
      refine consL rfl (fun K hK => ?_) AllReadyH.nil
      go_simp
      refine (within10_any a1 256 _ (by omega) (by omega)).mono ?_
      rintro e wq ⟨rfl, hwq⟩
      rw [unhide HP1, hwq]
      clear hwq wq
      refine hK.out _ _ (unhide HH) (fun hHeld => ?_)
      clear hK K HH
      have HH := hide hHeld
      clear hHeld
      (try simp only [Act.put, List.setIfInBounds_toArray, List.set_cons_zero, List.set_cons_succ])
      refine wpAnyH_ready (rs := [9]) (by kernel_rfl) (by simp) ?_
      refine consL rfl (fun K hK => ?_) AllReadyH.nil
      go_simp
      refine (within10_any a2 256 _ (by omega) (by omega)).mono ?_
      rintro e wq ⟨rfl, hwq⟩
      rw [unhide HP2, hwq]
      clear hwq wq
      refine hK.out _ _ (unhide HH) (fun hHeld => ?_)
      clear hK K HH
      have HH := hide hHeld
      clear hHeld
      (try simp only [Act.put, List.setIfInBounds_toArray, List.set_cons_zero, List.set_cons_succ])
      refine wpAnyH_ready (rs := [12]) (by kernel_rfl) (by simp) ?_
      refine consL rfl (fun K hK => ?_) AllReadyH.nil
      go_simp
      refine (within10_any a3 256 _ (by omega) (by omega)).mono ?_
      rintro e wq ⟨rfl, hwq⟩
      rw [unhide HP3, hwq]
      clear hwq wq
      refine hK.out _ _ (unhide HH) (fun hHeld => ?_)
      clear hK K HH
      have HH := hide hHeld
      clear hHeld
      (try simp only [Act.put, List.setIfInBounds_toArray, List.set_cons_zero, List.set_cons_succ])
      refine takeL (i := 13) (v := .agg (headA (1 + P0) P1 P2 P3)) rfl (by kernel_rfl) (by kernel_rfl) (by kernel_rfl) (fun _ _ _ h => h) (Or.inl ⟨by rfl, ?_⟩) (unhide HH) ?_
      · intro W hSW; exact run_build9 rfl (by simp only [List.map_toArray, List.map_cons, List.map_nil]; rfl) (build_TH _ _ _ _ W)
      (try simp only [Act.put, List.setIfInBounds_toArray, List.set_cons_zero, List.set_cons_succ])
      refine wpAnyH_ready (rs := [15]) (by kernel_rfl) (by simp) ?_
      refine consL rfl (fun K hK => ?_) AllReadyH.nil
      refine wp_store_row (P := Try.prog) 29 (.tmp 11) (.tmp 32) (by rfl) n11 (headA (1 + P0) P1 P2 P3) (by rfl) (by rfl) 29 #[.int .i64 0, .int .i64 0, .int .i64 0, .int .i64 0] (unhide HN11).blk (by rw [sizeTH]; rfl) (rfl) (one_head _ _ _ _) ?_
      have hS : Below wc4.heap.size wc4 (w81.setRow n11 (headA (1 + P0) P1 P2 P3)) := below_setRow10 (unhide HH) (unhide HG11) _
      have hN : AtB (w81.setRow n11 (headA (1 + P0) P1 P2 P3)) n11 (headA (1 + P0) P1 P2 P3) 29 := ⟨setRow_heap _ _ _ _ _ _ (unhide HN11).blk⟩
      generalize w81.setRow n11 (headA (1 + P0) P1 P2 P3) = w86 at hS hN  ⊢
      replace HN11 := hide hN
      clear hN 
      refine hK.out _ _ hS (fun hHeld => ?_)
      clear hK K HH hS
      have HH := hide hHeld
      clear hHeld
      (try simp only [Act.put])
      refine wpAnyH_done (by kernel_rfl) ?_ _
      refine NoPanic.normal ?_
      exact ⟨rfl, _, rfl, unhide HN11, (unhide HX).below (unhide HH), (unhide HYY).below (unhide HH), (unhide HBQ).below (unhide HH), (unhide HT).trans ((unhide HH).mono (unhide HT).size)⟩
  rintro e0 a0' W4 ⟨rfl, n11, rfl, hn11, hn9, hn10, hbq, ht⟩
  clear HX HYY HBP HBQ HT
  have HX := hide hn9
  have HYY := hide hn10
  have HPP := hide hn11
  have HBQ := hide hbq
  have HT := hide ht
  clear hn9 hn10 hn11 hbq ht
  go_wp2_with fail
  refine Code.wp_mono (Q := fun e a W => e = .normal ∧ ∃ n12, a = { tmps := #[.agg (entA k l s d), .agg (entA k' l' s' d'), .agg (headA a0 a1 a2 a3), .agg (headA b0 b1 b2 b3), .pointer (some ⟨w.heap.size, 0, none⟩), .pointer (some ⟨w.heap.size + 1, 0, none⟩), .pointer (some ⟨w.heap.size + 1 + 1, 0, none⟩), .pointer (some ⟨w.heap.size + 1 + 1 + 1, 0, none⟩), .bool false, .pointer (some ⟨n9, 0, none⟩), .pointer (some ⟨n10, 0, none⟩), .pointer (some ⟨n11, 0, none⟩), .pointer (some ⟨n12, 0, none⟩), .bool true, .bool false, .agg (entA k l s d), .agg (entA (gdK k) (gdLb k l) (gdS k s) (gdD k d)), .agg (entA k' l' s' d'), .agg (entA (gdK k') (gdLb k' l') (gdS k' s') (gdD k' d')), .pointer (some ⟨w.heap.size + 1 + 1, 0, none⟩), .int .i64 a0, .int .i64 P0, .int .i64 (1 + P0), .pointer (some ⟨w.heap.size + 1 + 1, 1, none⟩), .int .i64 a1, .int .i64 P1, .pointer (some ⟨w.heap.size + 1 + 1, 2, none⟩), .int .i64 a2, .int .i64 P2, .pointer (some ⟨w.heap.size + 1 + 1, 3, none⟩), .int .i64 a3, .int .i64 P3, .agg (headA (1 + P0) P1 P2 P3), .pointer (some ⟨w.heap.size + 1 + 1 + 1, 0, none⟩), .int .i64 b0, .int .i64 Q0, .int .i64 (1 + Q0), .pointer (some ⟨w.heap.size + 1 + 1 + 1, 1, none⟩), .int .i64 b1, .int .i64 Q1, .pointer (some ⟨w.heap.size + 1 + 1 + 1, 2, none⟩), .int .i64 b2, .int .i64 Q2, .pointer (some ⟨w.heap.size + 1 + 1 + 1, 3, none⟩), .int .i64 b3, .int .i64 Q3, .agg (headA (1 + Q0) Q1 Q2 Q3), undef, undef, undef, undef, undef, undef, undef, undef, undef, undef, undef, undef, undef, undef, undef, undef, undef, undef], defers := [] } ∧ AtB W n12 (headA (1 + Q0) Q1 Q2 Q3) 29 ∧ AtB W n9 (entA (gdK k) (gdLb k l) (gdS k s) (gdD k d)) 24 ∧ AtB W n10 (entA (gdK k') (gdLb k' l') (gdS k' s') (gdD k' d')) 24 ∧ AtB W n11 (headA (1 + P0) P1 P2 P3) 29 ∧ Below w.heap.size w W) ?_ ?_
  rotate_left 1
  · replace HT := hide ((unhide HT).drew)
    replace HX := hide ((unhide HX).below (Below.refl _ _).drew)
    replace HYY := hide ((unhide HYY).below (Below.refl _ _).drew)
    replace HPP := hide ((unhide HPP).below (Below.refl _ _).drew)
    replace HBQ := hide ((unhide HBQ).below (Below.refl _ _).drew)
    refine wp_region_noPanic ?_
    refine wp_region_held_drew (S := fun V => Below W4.drew.heap.size W4.drew V) (by kernel_rfl) (Below.refl _ _) (fun hHeld => ?_)
    have HH := hide hHeld
    clear hHeld
    generalize W4.drew = wc5 at HT HX HYY HPP HBQ HH ⊢
    refine takeL (i := 0) (v := ?_) rfl (by kernel_rfl) (by kernel_rfl) (by kernel_rfl) (fun _ _ _ h => h) (Or.inl ⟨by rfl, ?_⟩) (unhide HH) ?_
    rotate_left 1
    · intro W hSW; go_simp; all_goals (with_reducible rfl)
    (try simp only [Act.put, List.setIfInBounds_toArray, List.set_cons_zero, List.set_cons_succ])
    refine takeL (i := 1) (v := .int .i64 b0) rfl (by kernel_rfl) (by kernel_rfl) (by kernel_rfl) (fun _ _ _ h => h) (Or.inl ⟨by rfl, ?_⟩) (unhide HH) ?_
    · intro W hSW; have hcl : W.cell? ⟨w.heap.size + 1 + 1 + 1, 0, none⟩ = some (.int .i64 b0) := cell_blk ((unhide HBQ).below hSW).blk rfl; clear hSW; go_simp; all_goals (first | (with_reducible rfl) | simp)
    (try simp only [Act.put, List.setIfInBounds_toArray, List.set_cons_zero, List.set_cons_succ])
    refine takeL (i := 4) (v := ?_) rfl (by kernel_rfl) (by kernel_rfl) (by kernel_rfl) (fun _ _ _ h => h) (Or.inl ⟨by rfl, ?_⟩) (unhide HH) ?_
    rotate_left 1
    · intro W hSW; go_simp; all_goals (with_reducible rfl)
    (try simp only [Act.put, List.setIfInBounds_toArray, List.set_cons_zero, List.set_cons_succ])
    refine takeL (i := 5) (v := .int .i64 b1) rfl (by kernel_rfl) (by kernel_rfl) (by kernel_rfl) (fun _ _ _ h => h) (Or.inl ⟨by rfl, ?_⟩) (unhide HH) ?_
    · intro W hSW; have hcl : W.cell? ⟨w.heap.size + 1 + 1 + 1, 1, none⟩ = some (.int .i64 b1) := cell_blk ((unhide HBQ).below hSW).blk rfl; clear hSW; go_simp; all_goals (first | (with_reducible rfl) | simp)
    (try simp only [Act.put, List.setIfInBounds_toArray, List.set_cons_zero, List.set_cons_succ])
    refine takeL (i := 7) (v := ?_) rfl (by kernel_rfl) (by kernel_rfl) (by kernel_rfl) (fun _ _ _ h => h) (Or.inl ⟨by rfl, ?_⟩) (unhide HH) ?_
    rotate_left 1
    · intro W hSW; go_simp; all_goals (with_reducible rfl)
    (try simp only [Act.put, List.setIfInBounds_toArray, List.set_cons_zero, List.set_cons_succ])
    refine takeL (i := 8) (v := .int .i64 b2) rfl (by kernel_rfl) (by kernel_rfl) (by kernel_rfl) (fun _ _ _ h => h) (Or.inl ⟨by rfl, ?_⟩) (unhide HH) ?_
    · intro W hSW; have hcl : W.cell? ⟨w.heap.size + 1 + 1 + 1, 2, none⟩ = some (.int .i64 b2) := cell_blk ((unhide HBQ).below hSW).blk rfl; clear hSW; go_simp; all_goals (first | (with_reducible rfl) | simp)
    (try simp only [Act.put, List.setIfInBounds_toArray, List.set_cons_zero, List.set_cons_succ])
    refine takeL (i := 10) (v := ?_) rfl (by kernel_rfl) (by kernel_rfl) (by kernel_rfl) (fun _ _ _ h => h) (Or.inl ⟨by rfl, ?_⟩) (unhide HH) ?_
    rotate_left 1
    · intro W hSW; go_simp; all_goals (with_reducible rfl)
    (try simp only [Act.put, List.setIfInBounds_toArray, List.set_cons_zero, List.set_cons_succ])
    refine takeL (i := 11) (v := .int .i64 b3) rfl (by kernel_rfl) (by kernel_rfl) (by kernel_rfl) (fun _ _ _ h => h) (Or.inl ⟨by rfl, ?_⟩) (unhide HH) ?_
    · intro W hSW; have hcl : W.cell? ⟨w.heap.size + 1 + 1 + 1, 3, none⟩ = some (.int .i64 b3) := cell_blk ((unhide HBQ).below hSW).blk rfl; clear hSW; go_simp; all_goals (first | (with_reducible rfl) | simp)
    (try simp only [Act.put, List.setIfInBounds_toArray, List.set_cons_zero, List.set_cons_succ])
    refine wpAnyH_ready (rs := [2, 14]) (by kernel_rfl) (by simp) ?_
    refine consL rfl (fun K hK => ?_) (consL rfl (fun K hK => ?_) AllReadyH.nil)
    focus
      go_simp
      refine (within10_any b0 99 _ (by omega) (by omega)).mono ?_
      rintro e wq ⟨rfl, hwq⟩
      rw [unhide HQ0, hwq]
      clear hwq wq
      refine hK.out _ _ (unhide HH) (fun hHeld => ?_)
      clear hK K HH
      have HH := hide hHeld
      clear hHeld
      (try simp only [Act.put, List.setIfInBounds_toArray, List.set_cons_zero, List.set_cons_succ])
      refine takeL (i := 3) (v := .int .i64 (1 + Q0)) rfl (by kernel_rfl) (by kernel_rfl) (by kernel_rfl) (fun _ _ _ h => h) (Or.inl ⟨by rfl, ?_⟩) (unhide HH) ?_
      · intro W hSW; clear hSW; go_simp; all_goals (first | (rw [IntWalk.i64_in _ ⟨by omega, by omega⟩]) | (with_reducible rfl) | simp)
      (try simp only [Act.put, List.setIfInBounds_toArray, List.set_cons_zero, List.set_cons_succ])
      refine wpAnyH_ready (rs := [6, 14]) (by kernel_rfl) (by simp) ?_
      refine consL rfl (fun K hK => ?_) (consL rfl (fun K hK => ?_) AllReadyH.nil)
      focus
        go_simp
        refine (within10_any b1 256 _ (by omega) (by omega)).mono ?_
        rintro e wq ⟨rfl, hwq⟩
        rw [unhide HQ1, hwq]
        clear hwq wq
        refine hK.out _ _ (unhide HH) (fun hHeld => ?_)
        clear hK K HH
        have HH := hide hHeld
        clear hHeld
        (try simp only [Act.put, List.setIfInBounds_toArray, List.set_cons_zero, List.set_cons_succ])
        refine wpAnyH_ready (rs := [9, 14]) (by kernel_rfl) (by simp) ?_
        refine consL rfl (fun K hK => ?_) (consL rfl (fun K hK => ?_) AllReadyH.nil)
        focus
          go_simp
          refine (within10_any b2 256 _ (by omega) (by omega)).mono ?_
          rintro e wq ⟨rfl, hwq⟩
          rw [unhide HQ2, hwq]
          clear hwq wq
          refine hK.out _ _ (unhide HH) (fun hHeld => ?_)
          clear hK K HH
          have HH := hide hHeld
          clear hHeld
          (try simp only [Act.put, List.setIfInBounds_toArray, List.set_cons_zero, List.set_cons_succ])
          refine wpAnyH_ready (rs := [12, 14]) (by kernel_rfl) (by simp) ?_
          refine consL rfl (fun K hK => ?_) (consL rfl (fun K hK => ?_) AllReadyH.nil)
          focus
            go_simp
            refine (within10_any b3 256 _ (by omega) (by omega)).mono ?_
            rintro e wq ⟨rfl, hwq⟩
            rw [unhide HQ3, hwq]
            clear hwq wq
            refine hK.out _ _ (unhide HH) (fun hHeld => ?_)
            clear hK K HH
            have HH := hide hHeld
            clear hHeld
            (try simp only [Act.put, List.setIfInBounds_toArray, List.set_cons_zero, List.set_cons_succ])
            refine takeL (i := 13) (v := .agg (headA (1 + Q0) Q1 Q2 Q3)) rfl (by kernel_rfl) (by kernel_rfl) (by kernel_rfl) (fun _ _ _ h => h) (Or.inl ⟨by rfl, ?_⟩) (unhide HH) ?_
            · intro W hSW; exact run_build9 rfl (by simp only [List.map_toArray, List.map_cons, List.map_nil]; rfl) (build_TH _ _ _ _ W)
            (try simp only [Act.put, List.setIfInBounds_toArray, List.set_cons_zero, List.set_cons_succ])
            refine wpAnyH_ready (rs := [14]) (by kernel_rfl) (by simp) ?_
            refine consL rfl (fun K hK => ?_) AllReadyH.nil
            go_simp
            have hk : Below wc5.heap.size wc5 (wc5.alloc (.cells #[.int .i64 0, .int .i64 0, .int .i64 0, .int .i64 0] 29)) := (Below.refl _ _).alloc (Nat.le_refl _) _
            have hN : AtB (wc5.alloc (.cells #[.int .i64 0, .int .i64 0, .int .i64 0, .int .i64 0] 29)) wc5.heap.size #[.int .i64 0, .int .i64 0, .int .i64 0, .int .i64 0] 29 := ⟨World.alloc_heap_new wc5 _⟩
            have hb0 : wc5.heap.size ≤ wc5.heap.size := (unhide HH).size
            have hS : Below wc5.heap.size wc5 (wc5.alloc (.cells #[.int .i64 0, .int .i64 0, .int .i64 0, .int .i64 0] 29)) := (unhide HH).trans (hk.mono (unhide HH).size)
            generalize wc5.alloc (.cells #[.int .i64 0, .int .i64 0, .int .i64 0, .int .i64 0] 29) = w95 at hk hN hS ⊢
            obtain ⟨n12, hn12⟩ : ∃ b, wc5.heap.size = b := ⟨_, rfl⟩
            have HG12 : Hid (wc5.heap.size ≤ n12) := by rw [← hn12]; exact hb0
            rw [hn12] at hN ⊢
            have HN12 := hide hN
            clear hk hN hb0 hn12
            refine hK.out _ _ hS (fun hHeld => ?_)
            clear hK K HH hS
            have HH := hide hHeld
            clear hHeld
            (try simp only [Act.put, List.setIfInBounds_toArray, List.set_cons_zero, List.set_cons_succ])
            refine wpAnyH_ready (rs := [15]) (by kernel_rfl) (by simp) ?_
            refine consL rfl (fun K hK => ?_) AllReadyH.nil
            refine wp_store_row (P := Try.prog) 29 (.tmp 12) (.tmp 46) (by rfl) n12 (headA (1 + Q0) Q1 Q2 Q3) (by rfl) (by rfl) 29 #[.int .i64 0, .int .i64 0, .int .i64 0, .int .i64 0] (unhide HN12).blk (by rw [sizeTH]; rfl) (rfl) (one_head _ _ _ _) ?_
            have hS : Below wc5.heap.size wc5 (w95.setRow n12 (headA (1 + Q0) Q1 Q2 Q3)) := below_setRow10 (unhide HH) (unhide HG12) _
            have hN : AtB (w95.setRow n12 (headA (1 + Q0) Q1 Q2 Q3)) n12 (headA (1 + Q0) Q1 Q2 Q3) 29 := ⟨setRow_heap _ _ _ _ _ _ (unhide HN12).blk⟩
            generalize w95.setRow n12 (headA (1 + Q0) Q1 Q2 Q3) = w96 at hS hN  ⊢
            replace HN12 := hide hN
            clear hN 
            refine hK.out _ _ hS (fun hHeld => ?_)
            clear hK K HH hS
            have HH := hide hHeld
            clear hHeld
            (try simp only [Act.put])
            refine wpAnyH_done (by kernel_rfl) ?_ _
            refine NoPanic.normal ?_
            exact ⟨rfl, _, rfl, unhide HN12, (unhide HX).below (unhide HH), (unhide HYY).below (unhide HH), (unhide HPP).below (unhide HH), (unhide HT).trans ((unhide HH).mono (unhide HT).size)⟩
          focus
            go_simp
            have hk : Below wc5.heap.size wc5 (wc5.alloc (.cells #[.int .i64 0, .int .i64 0, .int .i64 0, .int .i64 0] 29)) := (Below.refl _ _).alloc (Nat.le_refl _) _
            have hN : AtB (wc5.alloc (.cells #[.int .i64 0, .int .i64 0, .int .i64 0, .int .i64 0] 29)) wc5.heap.size #[.int .i64 0, .int .i64 0, .int .i64 0, .int .i64 0] 29 := ⟨World.alloc_heap_new wc5 _⟩
            have hb0 : wc5.heap.size ≤ wc5.heap.size := (unhide HH).size
            have hS : Below wc5.heap.size wc5 (wc5.alloc (.cells #[.int .i64 0, .int .i64 0, .int .i64 0, .int .i64 0] 29)) := (unhide HH).trans (hk.mono (unhide HH).size)
            generalize wc5.alloc (.cells #[.int .i64 0, .int .i64 0, .int .i64 0, .int .i64 0] 29) = w94 at hk hN hS ⊢
            obtain ⟨n12, hn12⟩ : ∃ b, wc5.heap.size = b := ⟨_, rfl⟩
            have HG12 : Hid (wc5.heap.size ≤ n12) := by rw [← hn12]; exact hb0
            rw [hn12] at hN ⊢
            have HN12 := hide hN
            clear hk hN hb0 hn12
            refine hK.out _ _ hS (fun hHeld => ?_)
            clear hK K HH hS
            have HH := hide hHeld
            clear hHeld
            (try simp only [Act.put, List.setIfInBounds_toArray, List.set_cons_zero, List.set_cons_succ])
            refine wpAnyH_ready (rs := [12]) (by kernel_rfl) (by simp) ?_
            refine consL rfl (fun K hK => ?_) AllReadyH.nil
            go_simp
            refine (within10_any b3 256 _ (by omega) (by omega)).mono ?_
            rintro e wq ⟨rfl, hwq⟩
            rw [unhide HQ3, hwq]
            clear hwq wq
            refine hK.out _ _ (unhide HH) (fun hHeld => ?_)
            clear hK K HH
            have HH := hide hHeld
            clear hHeld
            (try simp only [Act.put, List.setIfInBounds_toArray, List.set_cons_zero, List.set_cons_succ])
            refine takeL (i := 13) (v := .agg (headA (1 + Q0) Q1 Q2 Q3)) rfl (by kernel_rfl) (by kernel_rfl) (by kernel_rfl) (fun _ _ _ h => h) (Or.inl ⟨by rfl, ?_⟩) (unhide HH) ?_
            · intro W hSW; exact run_build9 rfl (by simp only [List.map_toArray, List.map_cons, List.map_nil]; rfl) (build_TH _ _ _ _ W)
            (try simp only [Act.put, List.setIfInBounds_toArray, List.set_cons_zero, List.set_cons_succ])
            refine wpAnyH_ready (rs := [15]) (by kernel_rfl) (by simp) ?_
            refine consL rfl (fun K hK => ?_) AllReadyH.nil
            refine wp_store_row (P := Try.prog) 29 (.tmp 12) (.tmp 46) (by rfl) n12 (headA (1 + Q0) Q1 Q2 Q3) (by rfl) (by rfl) 29 #[.int .i64 0, .int .i64 0, .int .i64 0, .int .i64 0] (unhide HN12).blk (by rw [sizeTH]; rfl) (rfl) (one_head _ _ _ _) ?_
            have hS : Below wc5.heap.size wc5 (w94.setRow n12 (headA (1 + Q0) Q1 Q2 Q3)) := below_setRow10 (unhide HH) (unhide HG12) _
            have hN : AtB (w94.setRow n12 (headA (1 + Q0) Q1 Q2 Q3)) n12 (headA (1 + Q0) Q1 Q2 Q3) 29 := ⟨setRow_heap _ _ _ _ _ _ (unhide HN12).blk⟩
            generalize w94.setRow n12 (headA (1 + Q0) Q1 Q2 Q3) = w96 at hS hN  ⊢
            replace HN12 := hide hN
            clear hN 
            refine hK.out _ _ hS (fun hHeld => ?_)
            clear hK K HH hS
            have HH := hide hHeld
            clear hHeld
            (try simp only [Act.put])
            refine wpAnyH_done (by kernel_rfl) ?_ _
            refine NoPanic.normal ?_
            exact ⟨rfl, _, rfl, unhide HN12, (unhide HX).below (unhide HH), (unhide HYY).below (unhide HH), (unhide HPP).below (unhide HH), (unhide HT).trans ((unhide HH).mono (unhide HT).size)⟩
        focus
          go_simp
          have hk : Below wc5.heap.size wc5 (wc5.alloc (.cells #[.int .i64 0, .int .i64 0, .int .i64 0, .int .i64 0] 29)) := (Below.refl _ _).alloc (Nat.le_refl _) _
          have hN : AtB (wc5.alloc (.cells #[.int .i64 0, .int .i64 0, .int .i64 0, .int .i64 0] 29)) wc5.heap.size #[.int .i64 0, .int .i64 0, .int .i64 0, .int .i64 0] 29 := ⟨World.alloc_heap_new wc5 _⟩
          have hb0 : wc5.heap.size ≤ wc5.heap.size := (unhide HH).size
          have hS : Below wc5.heap.size wc5 (wc5.alloc (.cells #[.int .i64 0, .int .i64 0, .int .i64 0, .int .i64 0] 29)) := (unhide HH).trans (hk.mono (unhide HH).size)
          generalize wc5.alloc (.cells #[.int .i64 0, .int .i64 0, .int .i64 0, .int .i64 0] 29) = w93 at hk hN hS ⊢
          obtain ⟨n12, hn12⟩ : ∃ b, wc5.heap.size = b := ⟨_, rfl⟩
          have HG12 : Hid (wc5.heap.size ≤ n12) := by rw [← hn12]; exact hb0
          rw [hn12] at hN ⊢
          have HN12 := hide hN
          clear hk hN hb0 hn12
          refine hK.out _ _ hS (fun hHeld => ?_)
          clear hK K HH hS
          have HH := hide hHeld
          clear hHeld
          (try simp only [Act.put, List.setIfInBounds_toArray, List.set_cons_zero, List.set_cons_succ])
          refine wpAnyH_ready (rs := [9]) (by kernel_rfl) (by simp) ?_
          refine consL rfl (fun K hK => ?_) AllReadyH.nil
          go_simp
          refine (within10_any b2 256 _ (by omega) (by omega)).mono ?_
          rintro e wq ⟨rfl, hwq⟩
          rw [unhide HQ2, hwq]
          clear hwq wq
          refine hK.out _ _ (unhide HH) (fun hHeld => ?_)
          clear hK K HH
          have HH := hide hHeld
          clear hHeld
          (try simp only [Act.put, List.setIfInBounds_toArray, List.set_cons_zero, List.set_cons_succ])
          refine wpAnyH_ready (rs := [12]) (by kernel_rfl) (by simp) ?_
          refine consL rfl (fun K hK => ?_) AllReadyH.nil
          go_simp
          refine (within10_any b3 256 _ (by omega) (by omega)).mono ?_
          rintro e wq ⟨rfl, hwq⟩
          rw [unhide HQ3, hwq]
          clear hwq wq
          refine hK.out _ _ (unhide HH) (fun hHeld => ?_)
          clear hK K HH
          have HH := hide hHeld
          clear hHeld
          (try simp only [Act.put, List.setIfInBounds_toArray, List.set_cons_zero, List.set_cons_succ])
          refine takeL (i := 13) (v := .agg (headA (1 + Q0) Q1 Q2 Q3)) rfl (by kernel_rfl) (by kernel_rfl) (by kernel_rfl) (fun _ _ _ h => h) (Or.inl ⟨by rfl, ?_⟩) (unhide HH) ?_
          · intro W hSW; exact run_build9 rfl (by simp only [List.map_toArray, List.map_cons, List.map_nil]; rfl) (build_TH _ _ _ _ W)
          (try simp only [Act.put, List.setIfInBounds_toArray, List.set_cons_zero, List.set_cons_succ])
          refine wpAnyH_ready (rs := [15]) (by kernel_rfl) (by simp) ?_
          refine consL rfl (fun K hK => ?_) AllReadyH.nil
          refine wp_store_row (P := Try.prog) 29 (.tmp 12) (.tmp 46) (by rfl) n12 (headA (1 + Q0) Q1 Q2 Q3) (by rfl) (by rfl) 29 #[.int .i64 0, .int .i64 0, .int .i64 0, .int .i64 0] (unhide HN12).blk (by rw [sizeTH]; rfl) (rfl) (one_head _ _ _ _) ?_
          have hS : Below wc5.heap.size wc5 (w93.setRow n12 (headA (1 + Q0) Q1 Q2 Q3)) := below_setRow10 (unhide HH) (unhide HG12) _
          have hN : AtB (w93.setRow n12 (headA (1 + Q0) Q1 Q2 Q3)) n12 (headA (1 + Q0) Q1 Q2 Q3) 29 := ⟨setRow_heap _ _ _ _ _ _ (unhide HN12).blk⟩
          generalize w93.setRow n12 (headA (1 + Q0) Q1 Q2 Q3) = w96 at hS hN  ⊢
          replace HN12 := hide hN
          clear hN 
          refine hK.out _ _ hS (fun hHeld => ?_)
          clear hK K HH hS
          have HH := hide hHeld
          clear hHeld
          (try simp only [Act.put])
          refine wpAnyH_done (by kernel_rfl) ?_ _
          refine NoPanic.normal ?_
          exact ⟨rfl, _, rfl, unhide HN12, (unhide HX).below (unhide HH), (unhide HYY).below (unhide HH), (unhide HPP).below (unhide HH), (unhide HT).trans ((unhide HH).mono (unhide HT).size)⟩
      focus
        go_simp
        have hk : Below wc5.heap.size wc5 (wc5.alloc (.cells #[.int .i64 0, .int .i64 0, .int .i64 0, .int .i64 0] 29)) := (Below.refl _ _).alloc (Nat.le_refl _) _
        have hN : AtB (wc5.alloc (.cells #[.int .i64 0, .int .i64 0, .int .i64 0, .int .i64 0] 29)) wc5.heap.size #[.int .i64 0, .int .i64 0, .int .i64 0, .int .i64 0] 29 := ⟨World.alloc_heap_new wc5 _⟩
        have hb0 : wc5.heap.size ≤ wc5.heap.size := (unhide HH).size
        have hS : Below wc5.heap.size wc5 (wc5.alloc (.cells #[.int .i64 0, .int .i64 0, .int .i64 0, .int .i64 0] 29)) := (unhide HH).trans (hk.mono (unhide HH).size)
        generalize wc5.alloc (.cells #[.int .i64 0, .int .i64 0, .int .i64 0, .int .i64 0] 29) = w92 at hk hN hS ⊢
        obtain ⟨n12, hn12⟩ : ∃ b, wc5.heap.size = b := ⟨_, rfl⟩
        have HG12 : Hid (wc5.heap.size ≤ n12) := by rw [← hn12]; exact hb0
        rw [hn12] at hN ⊢
        have HN12 := hide hN
        clear hk hN hb0 hn12
        refine hK.out _ _ hS (fun hHeld => ?_)
        clear hK K HH hS
        have HH := hide hHeld
        clear hHeld
        (try simp only [Act.put, List.setIfInBounds_toArray, List.set_cons_zero, List.set_cons_succ])
        refine wpAnyH_ready (rs := [6]) (by kernel_rfl) (by simp) ?_
        refine consL rfl (fun K hK => ?_) AllReadyH.nil
        go_simp
        refine (within10_any b1 256 _ (by omega) (by omega)).mono ?_
        rintro e wq ⟨rfl, hwq⟩
        rw [unhide HQ1, hwq]
        clear hwq wq
        refine hK.out _ _ (unhide HH) (fun hHeld => ?_)
        clear hK K HH
        have HH := hide hHeld
        clear hHeld
        (try simp only [Act.put, List.setIfInBounds_toArray, List.set_cons_zero, List.set_cons_succ])
        refine wpAnyH_ready (rs := [9]) (by kernel_rfl) (by simp) ?_
        refine consL rfl (fun K hK => ?_) AllReadyH.nil
        go_simp
        refine (within10_any b2 256 _ (by omega) (by omega)).mono ?_
        rintro e wq ⟨rfl, hwq⟩
        rw [unhide HQ2, hwq]
        clear hwq wq
        refine hK.out _ _ (unhide HH) (fun hHeld => ?_)
        clear hK K HH
        have HH := hide hHeld
        clear hHeld
        (try simp only [Act.put, List.setIfInBounds_toArray, List.set_cons_zero, List.set_cons_succ])
        refine wpAnyH_ready (rs := [12]) (by kernel_rfl) (by simp) ?_
        refine consL rfl (fun K hK => ?_) AllReadyH.nil
        go_simp
        refine (within10_any b3 256 _ (by omega) (by omega)).mono ?_
        rintro e wq ⟨rfl, hwq⟩
        rw [unhide HQ3, hwq]
        clear hwq wq
        refine hK.out _ _ (unhide HH) (fun hHeld => ?_)
        clear hK K HH
        have HH := hide hHeld
        clear hHeld
        (try simp only [Act.put, List.setIfInBounds_toArray, List.set_cons_zero, List.set_cons_succ])
        refine takeL (i := 13) (v := .agg (headA (1 + Q0) Q1 Q2 Q3)) rfl (by kernel_rfl) (by kernel_rfl) (by kernel_rfl) (fun _ _ _ h => h) (Or.inl ⟨by rfl, ?_⟩) (unhide HH) ?_
        · intro W hSW; exact run_build9 rfl (by simp only [List.map_toArray, List.map_cons, List.map_nil]; rfl) (build_TH _ _ _ _ W)
        (try simp only [Act.put, List.setIfInBounds_toArray, List.set_cons_zero, List.set_cons_succ])
        refine wpAnyH_ready (rs := [15]) (by kernel_rfl) (by simp) ?_
        refine consL rfl (fun K hK => ?_) AllReadyH.nil
        refine wp_store_row (P := Try.prog) 29 (.tmp 12) (.tmp 46) (by rfl) n12 (headA (1 + Q0) Q1 Q2 Q3) (by rfl) (by rfl) 29 #[.int .i64 0, .int .i64 0, .int .i64 0, .int .i64 0] (unhide HN12).blk (by rw [sizeTH]; rfl) (rfl) (one_head _ _ _ _) ?_
        have hS : Below wc5.heap.size wc5 (w92.setRow n12 (headA (1 + Q0) Q1 Q2 Q3)) := below_setRow10 (unhide HH) (unhide HG12) _
        have hN : AtB (w92.setRow n12 (headA (1 + Q0) Q1 Q2 Q3)) n12 (headA (1 + Q0) Q1 Q2 Q3) 29 := ⟨setRow_heap _ _ _ _ _ _ (unhide HN12).blk⟩
        generalize w92.setRow n12 (headA (1 + Q0) Q1 Q2 Q3) = w96 at hS hN  ⊢
        replace HN12 := hide hN
        clear hN 
        refine hK.out _ _ hS (fun hHeld => ?_)
        clear hK K HH hS
        have HH := hide hHeld
        clear hHeld
        (try simp only [Act.put])
        refine wpAnyH_done (by kernel_rfl) ?_ _
        refine NoPanic.normal ?_
        exact ⟨rfl, _, rfl, unhide HN12, (unhide HX).below (unhide HH), (unhide HYY).below (unhide HH), (unhide HPP).below (unhide HH), (unhide HT).trans ((unhide HH).mono (unhide HT).size)⟩
    focus
      go_simp
      have hk : Below wc5.heap.size wc5 (wc5.alloc (.cells #[.int .i64 0, .int .i64 0, .int .i64 0, .int .i64 0] 29)) := (Below.refl _ _).alloc (Nat.le_refl _) _
      have hN : AtB (wc5.alloc (.cells #[.int .i64 0, .int .i64 0, .int .i64 0, .int .i64 0] 29)) wc5.heap.size #[.int .i64 0, .int .i64 0, .int .i64 0, .int .i64 0] 29 := ⟨World.alloc_heap_new wc5 _⟩
      have hb0 : wc5.heap.size ≤ wc5.heap.size := (unhide HH).size
      have hS : Below wc5.heap.size wc5 (wc5.alloc (.cells #[.int .i64 0, .int .i64 0, .int .i64 0, .int .i64 0] 29)) := (unhide HH).trans (hk.mono (unhide HH).size)
      generalize wc5.alloc (.cells #[.int .i64 0, .int .i64 0, .int .i64 0, .int .i64 0] 29) = w91 at hk hN hS ⊢
      obtain ⟨n12, hn12⟩ : ∃ b, wc5.heap.size = b := ⟨_, rfl⟩
      have HG12 : Hid (wc5.heap.size ≤ n12) := by rw [← hn12]; exact hb0
      rw [hn12] at hN ⊢
      have HN12 := hide hN
      clear hk hN hb0 hn12
      refine hK.out _ _ hS (fun hHeld => ?_)
      clear hK K HH hS
      have HH := hide hHeld
      clear hHeld
      (try simp only [Act.put, List.setIfInBounds_toArray, List.set_cons_zero, List.set_cons_succ])
      refine wpAnyH_ready (rs := [2]) (by kernel_rfl) (by simp) ?_
      refine consL rfl (fun K hK => ?_) AllReadyH.nil
      go_simp
      refine (within10_any b0 99 _ (by omega) (by omega)).mono ?_
      rintro e wq ⟨rfl, hwq⟩
      rw [unhide HQ0, hwq]
      clear hwq wq
      refine hK.out _ _ (unhide HH) (fun hHeld => ?_)
      clear hK K HH
      have HH := hide hHeld
      clear hHeld
      (try simp only [Act.put, List.setIfInBounds_toArray, List.set_cons_zero, List.set_cons_succ])
      refine takeL (i := 3) (v := .int .i64 (1 + Q0)) rfl (by kernel_rfl) (by kernel_rfl) (by kernel_rfl) (fun _ _ _ h => h) (Or.inl ⟨by rfl, ?_⟩) (unhide HH) ?_
      · intro W hSW; clear hSW; go_simp; all_goals (first | (rw [IntWalk.i64_in _ ⟨by omega, by omega⟩]) | (with_reducible rfl) | simp)
      (try simp only [Act.put, List.setIfInBounds_toArray, List.set_cons_zero, List.set_cons_succ])
      refine wpAnyH_ready (rs := [6]) (by kernel_rfl) (by simp) ?_
      refine consL rfl (fun K hK => ?_) AllReadyH.nil
      go_simp
      refine (within10_any b1 256 _ (by omega) (by omega)).mono ?_
      rintro e wq ⟨rfl, hwq⟩
      rw [unhide HQ1, hwq]
      clear hwq wq
      refine hK.out _ _ (unhide HH) (fun hHeld => ?_)
      clear hK K HH
      have HH := hide hHeld
      clear hHeld
      (try simp only [Act.put, List.setIfInBounds_toArray, List.set_cons_zero, List.set_cons_succ])
      refine wpAnyH_ready (rs := [9]) (by kernel_rfl) (by simp) ?_
      refine consL rfl (fun K hK => ?_) AllReadyH.nil
      go_simp
      refine (within10_any b2 256 _ (by omega) (by omega)).mono ?_
      rintro e wq ⟨rfl, hwq⟩
      rw [unhide HQ2, hwq]
      clear hwq wq
      refine hK.out _ _ (unhide HH) (fun hHeld => ?_)
      clear hK K HH
      have HH := hide hHeld
      clear hHeld
      (try simp only [Act.put, List.setIfInBounds_toArray, List.set_cons_zero, List.set_cons_succ])
      refine wpAnyH_ready (rs := [12]) (by kernel_rfl) (by simp) ?_
      refine consL rfl (fun K hK => ?_) AllReadyH.nil
      go_simp
      refine (within10_any b3 256 _ (by omega) (by omega)).mono ?_
      rintro e wq ⟨rfl, hwq⟩
      rw [unhide HQ3, hwq]
      clear hwq wq
      refine hK.out _ _ (unhide HH) (fun hHeld => ?_)
      clear hK K HH
      have HH := hide hHeld
      clear hHeld
      (try simp only [Act.put, List.setIfInBounds_toArray, List.set_cons_zero, List.set_cons_succ])
      refine takeL (i := 13) (v := .agg (headA (1 + Q0) Q1 Q2 Q3)) rfl (by kernel_rfl) (by kernel_rfl) (by kernel_rfl) (fun _ _ _ h => h) (Or.inl ⟨by rfl, ?_⟩) (unhide HH) ?_
      · intro W hSW; exact run_build9 rfl (by simp only [List.map_toArray, List.map_cons, List.map_nil]; rfl) (build_TH _ _ _ _ W)
      (try simp only [Act.put, List.setIfInBounds_toArray, List.set_cons_zero, List.set_cons_succ])
      refine wpAnyH_ready (rs := [15]) (by kernel_rfl) (by simp) ?_
      refine consL rfl (fun K hK => ?_) AllReadyH.nil
      refine wp_store_row (P := Try.prog) 29 (.tmp 12) (.tmp 46) (by rfl) n12 (headA (1 + Q0) Q1 Q2 Q3) (by rfl) (by rfl) 29 #[.int .i64 0, .int .i64 0, .int .i64 0, .int .i64 0] (unhide HN12).blk (by rw [sizeTH]; rfl) (rfl) (one_head _ _ _ _) ?_
      have hS : Below wc5.heap.size wc5 (w91.setRow n12 (headA (1 + Q0) Q1 Q2 Q3)) := below_setRow10 (unhide HH) (unhide HG12) _
      have hN : AtB (w91.setRow n12 (headA (1 + Q0) Q1 Q2 Q3)) n12 (headA (1 + Q0) Q1 Q2 Q3) 29 := ⟨setRow_heap _ _ _ _ _ _ (unhide HN12).blk⟩
      generalize w91.setRow n12 (headA (1 + Q0) Q1 Q2 Q3) = w96 at hS hN  ⊢
      replace HN12 := hide hN
      clear hN 
      refine hK.out _ _ hS (fun hHeld => ?_)
      clear hK K HH hS
      have HH := hide hHeld
      clear hHeld
      (try simp only [Act.put])
      refine wpAnyH_done (by kernel_rfl) ?_ _
      refine NoPanic.normal ?_
      exact ⟨rfl, _, rfl, unhide HN12, (unhide HX).below (unhide HH), (unhide HYY).below (unhide HH), (unhide HPP).below (unhide HH), (unhide HT).trans ((unhide HH).mono (unhide HT).size)⟩
  rintro e0 a0' W5 ⟨rfl, n12, rfl, hn12, hn9, hn10, hn11, ht⟩
  clear HX HYY HPP HBQ HT
  have HX := hide hn9
  have HYY := hide hn10
  have HPP := hide hn11
  have HQQ := hide hn12
  have HT := hide ht
  clear hn9 hn10 hn11 hn12 ht
  go_wp2_with fail
  have HINJ := hide (fun h => byT_inj (unhide HGL) (unhide HGL') (mem_lt10 (unhide HGB)) (mem_lt10 (unhide HGB')) (unhide HOK) (unhide HOK') (a := 1 + P0) (b := P1) (c := P2) (e := P3) (a' := 1 + Q0) (b' := Q1) (c' := Q2) (e' := Q3) ⟨by omega, by omega⟩ ⟨by omega, by omega⟩ ⟨P1l, P1u⟩ ⟨Q1l, Q1u⟩ ⟨P2l, P2u⟩ ⟨Q2l, Q2u⟩ ⟨P3l, P3u⟩ ⟨Q3l, Q3u⟩ h)
  have HYA : Hid (Byt (byT (1 + P0) P1 P2 P3 (gdK k) (gdLb k l) (gdS k s) (gdD k d))) := byW_byt (mem_lt10 (unhide HGB)) (by simp)
  have HYB : Hid (Byt (byT (1 + Q0) Q1 Q2 Q3 (gdK k') (gdLb k' l') (gdS k' s') (gdD k' d'))) := byW_byt (mem_lt10 (unhide HGB')) (by simp)
  have HLA : Hid ((byT (1 + P0) P1 P2 P3 (gdK k) (gdLb k l) (gdS k s) (gdD k d)).length = 48) := byW_len (unhide HGL) rfl
  have HLB : Hid ((byT (1 + Q0) Q1 Q2 Q3 (gdK k') (gdLb k' l') (gdS k' s') (gdD k' d')).length = 48) := byW_len (unhide HGL') rfl
  by_cases hE : gdK k = gdK k' ∧ gdLb k l = gdLb k' l' ∧ gdS k s = gdS k' s' ∧ gdD k d = gdD k' d'
  · by_cases hH : P0 = Q0 ∧ P1 = Q1 ∧ P2 = Q2 ∧ P3 = Q3
    · obtain ⟨tA, htA⟩ : ∃ t, strOf (byT (1 + P0) P1 P2 P3 (gdK k) (gdLb k l) (gdS k s) (gdD k d)) = t := ⟨_, rfl⟩
      obtain ⟨tB, htB⟩ : ∃ t, strOf (byT (1 + Q0) Q1 Q2 Q3 (gdK k') (gdLb k' l') (gdS k' s') (gdD k' d')) = t := ⟨_, rfl⟩
      have hst : (tA.toList == tB.toList) = true := by rw [← htA, ← htB, hE.1, hE.2.1, hE.2.2.1, hE.2.2.2, hH.1, hH.2.1, hH.2.2.1, hH.2.2.2]; exact beq_self_eq_true _
      have hqE : ∀ W, (binOp .eql 24 (.agg (entA (gdK k) (gdLb k l) (gdS k s) (gdD k d))) (.agg (entA (gdK k') (gdLb k' l') (gdS k' s') (gdD k' d')))).run Try.prog W = .ok (.bool true) W := fun W => eqTE _ _ _ _ _ _ _ _ (unhide HGL) (unhide HGL') true (by simp [hE.1, hE.2.1, hE.2.2.1, hE.2.2.2]) W
      have hqH : ∀ W, (binOp .eql 29 (.agg (headA (1 + P0) P1 P2 P3)) (.agg (headA (1 + Q0) Q1 Q2 Q3))).run Try.prog W = .ok (.bool true) W := fun W => eqTH _ _ _ _ _ _ _ _ true (by simp [hH.1, hH.2.1, hH.2.2.1, hH.2.2.2]) W
      have TA := hide htA
      have TB := hide htB
      clear htA htB hE hH
      replace HT := hide ((unhide HT).drew)
      replace HX := hide ((unhide HX).below (Below.refl _ _).drew)
      replace HYY := hide ((unhide HYY).below (Below.refl _ _).drew)
      replace HPP := hide ((unhide HPP).below (Below.refl _ _).drew)
      replace HQQ := hide ((unhide HQQ).below (Below.refl _ _).drew)
      refine wp_region_noPanic ?_
      refine wp_region_held_drew (S := fun W => Below W5.drew.heap.size W5.drew W) (by kernel_rfl) (Below.refl _ _) (fun hHeld => ?_)
      have HH := hide hHeld
      clear hHeld
      generalize W5.drew = w81 at HT HX HYY HPP HQQ HH ⊢
      refine takeL (i := 0) (v := .agg (headA (1 + P0) P1 P2 P3)) rfl (by kernel_rfl) (by kernel_rfl) (by kernel_rfl) (fun _ _ _ h => h) (Or.inl ⟨by rfl, fun W1 hSW => run_load_agg9 rfl rfl (load_TH ((unhide HPP).below hSW).blk rfl)⟩) (unhide HH) ?_
      (try simp only [Act.put, List.setIfInBounds_toArray, List.set_cons_zero, List.set_cons_succ])
      refine takeL (i := 1) (v := .agg (entA (gdK k) (gdLb k l) (gdS k s) (gdD k d))) rfl (by kernel_rfl) (by kernel_rfl) (by kernel_rfl) (fun _ _ _ h => h) (Or.inl ⟨by rfl, fun W1 hSW => run_load_agg9 rfl rfl (load_TE ((unhide HX).below hSW).blk (entA_size (unhide HGL)))⟩) (unhide HH) ?_
      (try simp only [Act.put, List.setIfInBounds_toArray, List.set_cons_zero, List.set_cons_succ])
      refine takeL (i := 4) (v := .agg (headA (1 + Q0) Q1 Q2 Q3)) rfl (by kernel_rfl) (by kernel_rfl) (by kernel_rfl) (fun _ _ _ h => h) (Or.inl ⟨by rfl, fun W1 hSW => run_load_agg9 rfl rfl (load_TH ((unhide HQQ).below hSW).blk rfl)⟩) (unhide HH) ?_
      (try simp only [Act.put, List.setIfInBounds_toArray, List.set_cons_zero, List.set_cons_succ])
      refine takeL (i := 5) (v := .agg (entA (gdK k') (gdLb k' l') (gdS k' s') (gdD k' d'))) rfl (by kernel_rfl) (by kernel_rfl) (by kernel_rfl) (fun _ _ _ h => h) (Or.inl ⟨by rfl, fun W1 hSW => run_load_agg9 rfl rfl (load_TE ((unhide HYY).below hSW).blk (entA_size (unhide HGL')))⟩) (unhide HH) ?_
      (try simp only [Act.put, List.setIfInBounds_toArray, List.set_cons_zero, List.set_cons_succ])
      refine takeL (i := 9) (v := .agg (entA (gdK k) (gdLb k l) (gdS k s) (gdD k d))) rfl (by kernel_rfl) (by kernel_rfl) (by kernel_rfl) (fun _ _ _ h => h) (Or.inl ⟨by rfl, fun W1 hSW => run_load_agg9 rfl rfl (load_TE ((unhide HX).below hSW).blk (entA_size (unhide HGL)))⟩) (unhide HH) ?_
      (try simp only [Act.put, List.setIfInBounds_toArray, List.set_cons_zero, List.set_cons_succ])
      refine takeL (i := 10) (v := .agg (entA (gdK k') (gdLb k' l') (gdS k' s') (gdD k' d'))) rfl (by kernel_rfl) (by kernel_rfl) (by kernel_rfl) (fun _ _ _ h => h) (Or.inl ⟨by rfl, fun W1 hSW => run_load_agg9 rfl rfl (load_TE ((unhide HYY).below hSW).blk (entA_size (unhide HGL')))⟩) (unhide HH) ?_
      (try simp only [Act.put, List.setIfInBounds_toArray, List.set_cons_zero, List.set_cons_succ])
      refine takeL (i := 11) (v := .bool true) rfl (by kernel_rfl) (by kernel_rfl) (by kernel_rfl) (fun _ _ _ h => h) (Or.inl ⟨by rfl, ?_⟩) (unhide HH) ?_
      · intro W hSW; clear hSW; go_simp; all_goals (first | rfl | simp)
      (try simp only [Act.put, List.setIfInBounds_toArray, List.set_cons_zero, List.set_cons_succ])
      refine wpAnyH_ready (rs := [2]) (by kernel_rfl) (by simp) ?_
      refine consL rfl (fun K hK => ?_) AllReadyH.nil
      go_simp
      refine (bytes_any (1 + P0) P1 P2 P3 (gdK k) (gdLb k l) (gdS k s) (gdD k d) (unhide HGL) (unhide HGB) _).mono ?_
      rintro e w82 ⟨a82, g82, c82, rfl, hrw, hk⟩
      have HRW82 := hide hrw
      clear hrw
      replace HX := hide ((unhide HX).below hk)
      replace HYY := hide ((unhide HYY).below hk)
      replace HPP := hide ((unhide HPP).below hk)
      replace HQQ := hide ((unhide HQQ).below hk)
      replace HT := hide ((unhide HT).trans (hk.mono (unhide HT).size))
      refine hK.out _ _ hk (fun hHeld => ?_)
      clear hK K HH hHeld
      (try simp only [Act.put, List.setIfInBounds_toArray, List.set_cons_zero, List.set_cons_succ])
      refine stronger (S' := fun W => Below w82.heap.size w82 W) (fun W h => hk.trans (h.mono hk.size)) _ _ _ _ ?_
      have HH : Hid (Below w82.heap.size w82 w82) := Below.refl _ _
      clear hk
      refine takeL (i := 3) (v := .string tA) rfl (by kernel_rfl) (by kernel_rfl) (by kernel_rfl) (fun _ _ _ h => h) (Or.inl ⟨by rfl, ?_⟩) (unhide HH) ?_
      · intro W hSW; have hcv : (convert 30 9 (.slice a82 48 c82)).run Try.prog W = .ok (.string tA) W := (by rw [← unhide TA]; exact run_conv _ _ g82 48 _ _ (unhide HLA) ((unhide HRW82).below hSW)); clear hSW; go_simp; all_goals (first | (with_reducible rfl) | simp)
      (try simp only [Act.put, List.setIfInBounds_toArray, List.set_cons_zero, List.set_cons_succ])
      refine wpAnyH_ready (rs := [6]) (by kernel_rfl) (by simp) ?_
      refine consL rfl (fun K hK => ?_) AllReadyH.nil
      go_simp
      refine (bytes_any (1 + Q0) Q1 Q2 Q3 (gdK k') (gdLb k' l') (gdS k' s') (gdD k' d') (unhide HGL') (unhide HGB') _).mono ?_
      rintro e w83 ⟨a83, g83, c83, rfl, hrw, hk⟩
      have HRW83 := hide hrw
      clear hrw
      replace HX := hide ((unhide HX).below hk)
      replace HYY := hide ((unhide HYY).below hk)
      replace HPP := hide ((unhide HPP).below hk)
      replace HQQ := hide ((unhide HQQ).below hk)
      replace HRW82 := hide ((unhide HRW82).below hk)
      replace HT := hide ((unhide HT).trans (hk.mono (unhide HT).size))
      refine hK.out _ _ hk (fun hHeld => ?_)
      clear hK K HH hHeld
      (try simp only [Act.put, List.setIfInBounds_toArray, List.set_cons_zero, List.set_cons_succ])
      refine stronger (S' := fun W => Below w83.heap.size w83 W) (fun W h => hk.trans (h.mono hk.size)) _ _ _ _ ?_
      have HH : Hid (Below w83.heap.size w83 w83) := Below.refl _ _
      clear hk
      refine takeL (i := 7) (v := .string tB) rfl (by kernel_rfl) (by kernel_rfl) (by kernel_rfl) (fun _ _ _ h => h) (Or.inl ⟨by rfl, ?_⟩) (unhide HH) ?_
      · intro W hSW; have hcv : (convert 30 9 (.slice a83 48 c83)).run Try.prog W = .ok (.string tB) W := (by rw [← unhide TB]; exact run_conv _ _ g83 48 _ _ (unhide HLB) ((unhide HRW83).below hSW)); clear hSW; go_simp; all_goals (first | (with_reducible rfl) | simp)
      (try simp only [Act.put, List.setIfInBounds_toArray, List.set_cons_zero, List.set_cons_succ])
      refine takeL (i := 8) (v := .bool true) rfl (by kernel_rfl) (by kernel_rfl) (by kernel_rfl) (fun _ _ _ h => h) (Or.inl ⟨by rfl, ?_⟩) (unhide HH) ?_
      · intro W hSW; clear hSW; go_simp; all_goals (first | rfl | simp)
      (try simp only [Act.put, List.setIfInBounds_toArray, List.set_cons_zero, List.set_cons_succ])
      refine takeL (i := 12) (v := ?_) rfl (by kernel_rfl) (by kernel_rfl) (by kernel_rfl) (fun _ _ _ h => h) (Or.inl ⟨by rfl, ?_⟩) (unhide HH) ?_
      rotate_left 1
      · intro W hSW; go_simp; all_goals (with_reducible rfl)
      (try simp only [Act.put, List.setIfInBounds_toArray, List.set_cons_zero, List.set_cons_succ])
      refine takeL (i := 13) (v := .agg (headA (1 + P0) P1 P2 P3)) rfl (by kernel_rfl) (by kernel_rfl) (by kernel_rfl) (fun _ _ _ h => h) (Or.inl ⟨by rfl, fun W1 hSW => run_load_agg9 rfl rfl (load_TH ((unhide HPP).below hSW).blk rfl)⟩) (unhide HH) ?_
      (try simp only [Act.put, List.setIfInBounds_toArray, List.set_cons_zero, List.set_cons_succ])
      refine takeL (i := 14) (v := .agg (headA (1 + Q0) Q1 Q2 Q3)) rfl (by kernel_rfl) (by kernel_rfl) (by kernel_rfl) (fun _ _ _ h => h) (Or.inl ⟨by rfl, fun W1 hSW => run_load_agg9 rfl rfl (load_TH ((unhide HQQ).below hSW).blk rfl)⟩) (unhide HH) ?_
      (try simp only [Act.put, List.setIfInBounds_toArray, List.set_cons_zero, List.set_cons_succ])
      refine takeL (i := 15) (v := .bool true) rfl (by kernel_rfl) (by kernel_rfl) (by kernel_rfl) (fun _ _ _ h => h) (Or.inl ⟨by rfl, ?_⟩) (unhide HH) ?_
      · intro W hSW; clear hSW; go_simp; all_goals (first | rfl | simp)
      (try simp only [Act.put, List.setIfInBounds_toArray, List.set_cons_zero, List.set_cons_succ])
      refine takeL (i := 16) (v := ?_) rfl (by kernel_rfl) (by kernel_rfl) (by kernel_rfl) (fun _ _ _ h => h) (Or.inl ⟨by rfl, ?_⟩) (unhide HH) ?_
      rotate_left 1
      · intro W hSW; go_simp; all_goals (with_reducible rfl)
      (try simp only [Act.put, List.setIfInBounds_toArray, List.set_cons_zero, List.set_cons_succ])
      refine takeL (i := 17) (v := .bool true) rfl (by kernel_rfl) (by kernel_rfl) (by kernel_rfl) (fun _ _ _ h => h) (Or.inl ⟨by rfl, ?_⟩) (unhide HH) ?_
      · intro W hSW; clear hSW; go_simp; all_goals (first | rfl | simp)
      (try simp only [Act.put, List.setIfInBounds_toArray, List.set_cons_zero, List.set_cons_succ])
      refine takeL (i := 18) (v := ?_) rfl (by kernel_rfl) (by kernel_rfl) (by kernel_rfl) (fun _ _ _ h => h) (Or.inl ⟨by rfl, ?_⟩) (unhide HH) ?_
      rotate_left 1
      · intro W hSW; go_simp; all_goals (with_reducible rfl)
      (try simp only [Act.put, List.setIfInBounds_toArray, List.set_cons_zero, List.set_cons_succ])
      refine wpAnyH_done (by kernel_rfl) ?_ _
      refine NoPanic.normal ?_
      go_wp2_with fail
      go_ret
      exact ⟨rfl, unhide HT⟩
    · obtain ⟨tA, htA⟩ : ∃ t, strOf (byT (1 + P0) P1 P2 P3 (gdK k) (gdLb k l) (gdS k s) (gdD k d)) = t := ⟨_, rfl⟩
      obtain ⟨tB, htB⟩ : ∃ t, strOf (byT (1 + Q0) Q1 Q2 Q3 (gdK k') (gdLb k' l') (gdS k' s') (gdD k' d')) = t := ⟨_, rfl⟩
      have hst : (tA.toList == tB.toList) = false := by rw [← htA, ← htB]; exact str_neZ (unhide HYA) (unhide HYB) (fun h => hH (by have := (unhide HINJ h).2; omega))
      have hqE : ∀ W, (binOp .eql 24 (.agg (entA (gdK k) (gdLb k l) (gdS k s) (gdD k d))) (.agg (entA (gdK k') (gdLb k' l') (gdS k' s') (gdD k' d')))).run Try.prog W = .ok (.bool true) W := fun W => eqTE _ _ _ _ _ _ _ _ (unhide HGL) (unhide HGL') true (by simp [hE.1, hE.2.1, hE.2.2.1, hE.2.2.2]) W
      have hqH : ∀ W, (binOp .eql 29 (.agg (headA (1 + P0) P1 P2 P3)) (.agg (headA (1 + Q0) Q1 Q2 Q3))).run Try.prog W = .ok (.bool false) W := fun W => eqTH _ _ _ _ _ _ _ _ false (by simp only [← Bool.decide_and]; exact decide_eq_false (fun h => hH (by omega))) W
      have TA := hide htA
      have TB := hide htB
      clear htA htB hE hH
      replace HT := hide ((unhide HT).drew)
      replace HX := hide ((unhide HX).below (Below.refl _ _).drew)
      replace HYY := hide ((unhide HYY).below (Below.refl _ _).drew)
      replace HPP := hide ((unhide HPP).below (Below.refl _ _).drew)
      replace HQQ := hide ((unhide HQQ).below (Below.refl _ _).drew)
      refine wp_region_noPanic ?_
      refine wp_region_held_drew (S := fun W => Below W5.drew.heap.size W5.drew W) (by kernel_rfl) (Below.refl _ _) (fun hHeld => ?_)
      have HH := hide hHeld
      clear hHeld
      generalize W5.drew = w81 at HT HX HYY HPP HQQ HH ⊢
      refine takeL (i := 0) (v := .agg (headA (1 + P0) P1 P2 P3)) rfl (by kernel_rfl) (by kernel_rfl) (by kernel_rfl) (fun _ _ _ h => h) (Or.inl ⟨by rfl, fun W1 hSW => run_load_agg9 rfl rfl (load_TH ((unhide HPP).below hSW).blk rfl)⟩) (unhide HH) ?_
      (try simp only [Act.put, List.setIfInBounds_toArray, List.set_cons_zero, List.set_cons_succ])
      refine takeL (i := 1) (v := .agg (entA (gdK k) (gdLb k l) (gdS k s) (gdD k d))) rfl (by kernel_rfl) (by kernel_rfl) (by kernel_rfl) (fun _ _ _ h => h) (Or.inl ⟨by rfl, fun W1 hSW => run_load_agg9 rfl rfl (load_TE ((unhide HX).below hSW).blk (entA_size (unhide HGL)))⟩) (unhide HH) ?_
      (try simp only [Act.put, List.setIfInBounds_toArray, List.set_cons_zero, List.set_cons_succ])
      refine takeL (i := 4) (v := .agg (headA (1 + Q0) Q1 Q2 Q3)) rfl (by kernel_rfl) (by kernel_rfl) (by kernel_rfl) (fun _ _ _ h => h) (Or.inl ⟨by rfl, fun W1 hSW => run_load_agg9 rfl rfl (load_TH ((unhide HQQ).below hSW).blk rfl)⟩) (unhide HH) ?_
      (try simp only [Act.put, List.setIfInBounds_toArray, List.set_cons_zero, List.set_cons_succ])
      refine takeL (i := 5) (v := .agg (entA (gdK k') (gdLb k' l') (gdS k' s') (gdD k' d'))) rfl (by kernel_rfl) (by kernel_rfl) (by kernel_rfl) (fun _ _ _ h => h) (Or.inl ⟨by rfl, fun W1 hSW => run_load_agg9 rfl rfl (load_TE ((unhide HYY).below hSW).blk (entA_size (unhide HGL')))⟩) (unhide HH) ?_
      (try simp only [Act.put, List.setIfInBounds_toArray, List.set_cons_zero, List.set_cons_succ])
      refine takeL (i := 9) (v := .agg (entA (gdK k) (gdLb k l) (gdS k s) (gdD k d))) rfl (by kernel_rfl) (by kernel_rfl) (by kernel_rfl) (fun _ _ _ h => h) (Or.inl ⟨by rfl, fun W1 hSW => run_load_agg9 rfl rfl (load_TE ((unhide HX).below hSW).blk (entA_size (unhide HGL)))⟩) (unhide HH) ?_
      (try simp only [Act.put, List.setIfInBounds_toArray, List.set_cons_zero, List.set_cons_succ])
      refine takeL (i := 10) (v := .agg (entA (gdK k') (gdLb k' l') (gdS k' s') (gdD k' d'))) rfl (by kernel_rfl) (by kernel_rfl) (by kernel_rfl) (fun _ _ _ h => h) (Or.inl ⟨by rfl, fun W1 hSW => run_load_agg9 rfl rfl (load_TE ((unhide HYY).below hSW).blk (entA_size (unhide HGL')))⟩) (unhide HH) ?_
      (try simp only [Act.put, List.setIfInBounds_toArray, List.set_cons_zero, List.set_cons_succ])
      refine takeL (i := 11) (v := .bool true) rfl (by kernel_rfl) (by kernel_rfl) (by kernel_rfl) (fun _ _ _ h => h) (Or.inl ⟨by rfl, ?_⟩) (unhide HH) ?_
      · intro W hSW; clear hSW; go_simp; all_goals (first | rfl | simp)
      (try simp only [Act.put, List.setIfInBounds_toArray, List.set_cons_zero, List.set_cons_succ])
      refine wpAnyH_ready (rs := [2]) (by kernel_rfl) (by simp) ?_
      refine consL rfl (fun K hK => ?_) AllReadyH.nil
      go_simp
      refine (bytes_any (1 + P0) P1 P2 P3 (gdK k) (gdLb k l) (gdS k s) (gdD k d) (unhide HGL) (unhide HGB) _).mono ?_
      rintro e w82 ⟨a82, g82, c82, rfl, hrw, hk⟩
      have HRW82 := hide hrw
      clear hrw
      replace HX := hide ((unhide HX).below hk)
      replace HYY := hide ((unhide HYY).below hk)
      replace HPP := hide ((unhide HPP).below hk)
      replace HQQ := hide ((unhide HQQ).below hk)
      replace HT := hide ((unhide HT).trans (hk.mono (unhide HT).size))
      refine hK.out _ _ hk (fun hHeld => ?_)
      clear hK K HH hHeld
      (try simp only [Act.put, List.setIfInBounds_toArray, List.set_cons_zero, List.set_cons_succ])
      refine stronger (S' := fun W => Below w82.heap.size w82 W) (fun W h => hk.trans (h.mono hk.size)) _ _ _ _ ?_
      have HH : Hid (Below w82.heap.size w82 w82) := Below.refl _ _
      clear hk
      refine takeL (i := 3) (v := .string tA) rfl (by kernel_rfl) (by kernel_rfl) (by kernel_rfl) (fun _ _ _ h => h) (Or.inl ⟨by rfl, ?_⟩) (unhide HH) ?_
      · intro W hSW; have hcv : (convert 30 9 (.slice a82 48 c82)).run Try.prog W = .ok (.string tA) W := (by rw [← unhide TA]; exact run_conv _ _ g82 48 _ _ (unhide HLA) ((unhide HRW82).below hSW)); clear hSW; go_simp; all_goals (first | (with_reducible rfl) | simp)
      (try simp only [Act.put, List.setIfInBounds_toArray, List.set_cons_zero, List.set_cons_succ])
      refine wpAnyH_ready (rs := [6]) (by kernel_rfl) (by simp) ?_
      refine consL rfl (fun K hK => ?_) AllReadyH.nil
      go_simp
      refine (bytes_any (1 + Q0) Q1 Q2 Q3 (gdK k') (gdLb k' l') (gdS k' s') (gdD k' d') (unhide HGL') (unhide HGB') _).mono ?_
      rintro e w83 ⟨a83, g83, c83, rfl, hrw, hk⟩
      have HRW83 := hide hrw
      clear hrw
      replace HX := hide ((unhide HX).below hk)
      replace HYY := hide ((unhide HYY).below hk)
      replace HPP := hide ((unhide HPP).below hk)
      replace HQQ := hide ((unhide HQQ).below hk)
      replace HRW82 := hide ((unhide HRW82).below hk)
      replace HT := hide ((unhide HT).trans (hk.mono (unhide HT).size))
      refine hK.out _ _ hk (fun hHeld => ?_)
      clear hK K HH hHeld
      (try simp only [Act.put, List.setIfInBounds_toArray, List.set_cons_zero, List.set_cons_succ])
      refine stronger (S' := fun W => Below w83.heap.size w83 W) (fun W h => hk.trans (h.mono hk.size)) _ _ _ _ ?_
      have HH : Hid (Below w83.heap.size w83 w83) := Below.refl _ _
      clear hk
      refine takeL (i := 7) (v := .string tB) rfl (by kernel_rfl) (by kernel_rfl) (by kernel_rfl) (fun _ _ _ h => h) (Or.inl ⟨by rfl, ?_⟩) (unhide HH) ?_
      · intro W hSW; have hcv : (convert 30 9 (.slice a83 48 c83)).run Try.prog W = .ok (.string tB) W := (by rw [← unhide TB]; exact run_conv _ _ g83 48 _ _ (unhide HLB) ((unhide HRW83).below hSW)); clear hSW; go_simp; all_goals (first | (with_reducible rfl) | simp)
      (try simp only [Act.put, List.setIfInBounds_toArray, List.set_cons_zero, List.set_cons_succ])
      refine takeL (i := 8) (v := .bool false) rfl (by kernel_rfl) (by kernel_rfl) (by kernel_rfl) (fun _ _ _ h => h) (Or.inl ⟨by rfl, ?_⟩) (unhide HH) ?_
      · intro W hSW; clear hSW; go_simp; all_goals (first | rfl | simp)
      (try simp only [Act.put, List.setIfInBounds_toArray, List.set_cons_zero, List.set_cons_succ])
      refine takeL (i := 12) (v := ?_) rfl (by kernel_rfl) (by kernel_rfl) (by kernel_rfl) (fun _ _ _ h => h) (Or.inl ⟨by rfl, ?_⟩) (unhide HH) ?_
      rotate_left 1
      · intro W hSW; go_simp; all_goals (with_reducible rfl)
      (try simp only [Act.put, List.setIfInBounds_toArray, List.set_cons_zero, List.set_cons_succ])
      refine takeL (i := 13) (v := .agg (headA (1 + P0) P1 P2 P3)) rfl (by kernel_rfl) (by kernel_rfl) (by kernel_rfl) (fun _ _ _ h => h) (Or.inl ⟨by rfl, fun W1 hSW => run_load_agg9 rfl rfl (load_TH ((unhide HPP).below hSW).blk rfl)⟩) (unhide HH) ?_
      (try simp only [Act.put, List.setIfInBounds_toArray, List.set_cons_zero, List.set_cons_succ])
      refine takeL (i := 14) (v := .agg (headA (1 + Q0) Q1 Q2 Q3)) rfl (by kernel_rfl) (by kernel_rfl) (by kernel_rfl) (fun _ _ _ h => h) (Or.inl ⟨by rfl, fun W1 hSW => run_load_agg9 rfl rfl (load_TH ((unhide HQQ).below hSW).blk rfl)⟩) (unhide HH) ?_
      (try simp only [Act.put, List.setIfInBounds_toArray, List.set_cons_zero, List.set_cons_succ])
      refine takeL (i := 15) (v := .bool false) rfl (by kernel_rfl) (by kernel_rfl) (by kernel_rfl) (fun _ _ _ h => h) (Or.inl ⟨by rfl, ?_⟩) (unhide HH) ?_
      · intro W hSW; clear hSW; go_simp; all_goals (first | rfl | simp)
      (try simp only [Act.put, List.setIfInBounds_toArray, List.set_cons_zero, List.set_cons_succ])
      refine takeL (i := 16) (v := ?_) rfl (by kernel_rfl) (by kernel_rfl) (by kernel_rfl) (fun _ _ _ h => h) (Or.inl ⟨by rfl, ?_⟩) (unhide HH) ?_
      rotate_left 1
      · intro W hSW; go_simp; all_goals (with_reducible rfl)
      (try simp only [Act.put, List.setIfInBounds_toArray, List.set_cons_zero, List.set_cons_succ])
      refine takeL (i := 17) (v := .bool true) rfl (by kernel_rfl) (by kernel_rfl) (by kernel_rfl) (fun _ _ _ h => h) (Or.inl ⟨by rfl, ?_⟩) (unhide HH) ?_
      · intro W hSW; clear hSW; go_simp; all_goals (first | rfl | simp)
      (try simp only [Act.put, List.setIfInBounds_toArray, List.set_cons_zero, List.set_cons_succ])
      refine takeL (i := 18) (v := ?_) rfl (by kernel_rfl) (by kernel_rfl) (by kernel_rfl) (fun _ _ _ h => h) (Or.inl ⟨by rfl, ?_⟩) (unhide HH) ?_
      rotate_left 1
      · intro W hSW; go_simp; all_goals (with_reducible rfl)
      (try simp only [Act.put, List.setIfInBounds_toArray, List.set_cons_zero, List.set_cons_succ])
      refine wpAnyH_done (by kernel_rfl) ?_ _
      refine NoPanic.normal ?_
      go_wp2_with fail
      go_ret
      exact ⟨rfl, unhide HT⟩
  · obtain ⟨tA, htA⟩ : ∃ t, strOf (byT (1 + P0) P1 P2 P3 (gdK k) (gdLb k l) (gdS k s) (gdD k d)) = t := ⟨_, rfl⟩
    obtain ⟨tB, htB⟩ : ∃ t, strOf (byT (1 + Q0) Q1 Q2 Q3 (gdK k') (gdLb k' l') (gdS k' s') (gdD k' d')) = t := ⟨_, rfl⟩
    have hst : (tA.toList == tB.toList) = false := by rw [← htA, ← htB]; exact str_neZ (unhide HYA) (unhide HYB) (fun h => hE (unhide HINJ h).1)
    have hqE : ∀ W, (binOp .eql 24 (.agg (entA (gdK k) (gdLb k l) (gdS k s) (gdD k d))) (.agg (entA (gdK k') (gdLb k' l') (gdS k' s') (gdD k' d')))).run Try.prog W = .ok (.bool false) W := fun W => eqTE _ _ _ _ _ _ _ _ (unhide HGL) (unhide HGL') false (by simp only [← Bool.decide_and]; exact decide_eq_false hE) W
    have TA := hide htA
    have TB := hide htB
    clear htA htB hE
    replace HT := hide ((unhide HT).drew)
    replace HX := hide ((unhide HX).below (Below.refl _ _).drew)
    replace HYY := hide ((unhide HYY).below (Below.refl _ _).drew)
    replace HPP := hide ((unhide HPP).below (Below.refl _ _).drew)
    replace HQQ := hide ((unhide HQQ).below (Below.refl _ _).drew)
    refine wp_region_noPanic ?_
    refine wp_region_held_drew (S := fun W => Below W5.drew.heap.size W5.drew W) (by kernel_rfl) (Below.refl _ _) (fun hHeld => ?_)
    have HH := hide hHeld
    clear hHeld
    generalize W5.drew = w81 at HT HX HYY HPP HQQ HH ⊢
    refine takeL (i := 0) (v := .agg (headA (1 + P0) P1 P2 P3)) rfl (by kernel_rfl) (by kernel_rfl) (by kernel_rfl) (fun _ _ _ h => h) (Or.inl ⟨by rfl, fun W1 hSW => run_load_agg9 rfl rfl (load_TH ((unhide HPP).below hSW).blk rfl)⟩) (unhide HH) ?_
    (try simp only [Act.put, List.setIfInBounds_toArray, List.set_cons_zero, List.set_cons_succ])
    refine takeL (i := 1) (v := .agg (entA (gdK k) (gdLb k l) (gdS k s) (gdD k d))) rfl (by kernel_rfl) (by kernel_rfl) (by kernel_rfl) (fun _ _ _ h => h) (Or.inl ⟨by rfl, fun W1 hSW => run_load_agg9 rfl rfl (load_TE ((unhide HX).below hSW).blk (entA_size (unhide HGL)))⟩) (unhide HH) ?_
    (try simp only [Act.put, List.setIfInBounds_toArray, List.set_cons_zero, List.set_cons_succ])
    refine takeL (i := 4) (v := .agg (headA (1 + Q0) Q1 Q2 Q3)) rfl (by kernel_rfl) (by kernel_rfl) (by kernel_rfl) (fun _ _ _ h => h) (Or.inl ⟨by rfl, fun W1 hSW => run_load_agg9 rfl rfl (load_TH ((unhide HQQ).below hSW).blk rfl)⟩) (unhide HH) ?_
    (try simp only [Act.put, List.setIfInBounds_toArray, List.set_cons_zero, List.set_cons_succ])
    refine takeL (i := 5) (v := .agg (entA (gdK k') (gdLb k' l') (gdS k' s') (gdD k' d'))) rfl (by kernel_rfl) (by kernel_rfl) (by kernel_rfl) (fun _ _ _ h => h) (Or.inl ⟨by rfl, fun W1 hSW => run_load_agg9 rfl rfl (load_TE ((unhide HYY).below hSW).blk (entA_size (unhide HGL')))⟩) (unhide HH) ?_
    (try simp only [Act.put, List.setIfInBounds_toArray, List.set_cons_zero, List.set_cons_succ])
    refine takeL (i := 9) (v := .agg (entA (gdK k) (gdLb k l) (gdS k s) (gdD k d))) rfl (by kernel_rfl) (by kernel_rfl) (by kernel_rfl) (fun _ _ _ h => h) (Or.inl ⟨by rfl, fun W1 hSW => run_load_agg9 rfl rfl (load_TE ((unhide HX).below hSW).blk (entA_size (unhide HGL)))⟩) (unhide HH) ?_
    (try simp only [Act.put, List.setIfInBounds_toArray, List.set_cons_zero, List.set_cons_succ])
    refine takeL (i := 10) (v := .agg (entA (gdK k') (gdLb k' l') (gdS k' s') (gdD k' d'))) rfl (by kernel_rfl) (by kernel_rfl) (by kernel_rfl) (fun _ _ _ h => h) (Or.inl ⟨by rfl, fun W1 hSW => run_load_agg9 rfl rfl (load_TE ((unhide HYY).below hSW).blk (entA_size (unhide HGL')))⟩) (unhide HH) ?_
    (try simp only [Act.put, List.setIfInBounds_toArray, List.set_cons_zero, List.set_cons_succ])
    refine takeL (i := 11) (v := .bool false) rfl (by kernel_rfl) (by kernel_rfl) (by kernel_rfl) (fun _ _ _ h => h) (Or.inl ⟨by rfl, ?_⟩) (unhide HH) ?_
    · intro W hSW; clear hSW; go_simp; all_goals (first | rfl | simp)
    (try simp only [Act.put, List.setIfInBounds_toArray, List.set_cons_zero, List.set_cons_succ])
    refine wpAnyH_ready (rs := [2]) (by kernel_rfl) (by simp) ?_
    refine consL rfl (fun K hK => ?_) AllReadyH.nil
    go_simp
    refine (bytes_any (1 + P0) P1 P2 P3 (gdK k) (gdLb k l) (gdS k s) (gdD k d) (unhide HGL) (unhide HGB) _).mono ?_
    rintro e w82 ⟨a82, g82, c82, rfl, hrw, hk⟩
    have HRW82 := hide hrw
    clear hrw
    replace HX := hide ((unhide HX).below hk)
    replace HYY := hide ((unhide HYY).below hk)
    replace HPP := hide ((unhide HPP).below hk)
    replace HQQ := hide ((unhide HQQ).below hk)
    replace HT := hide ((unhide HT).trans (hk.mono (unhide HT).size))
    refine hK.out _ _ hk (fun hHeld => ?_)
    clear hK K HH hHeld
    (try simp only [Act.put, List.setIfInBounds_toArray, List.set_cons_zero, List.set_cons_succ])
    refine stronger (S' := fun W => Below w82.heap.size w82 W) (fun W h => hk.trans (h.mono hk.size)) _ _ _ _ ?_
    have HH : Hid (Below w82.heap.size w82 w82) := Below.refl _ _
    clear hk
    refine takeL (i := 3) (v := .string tA) rfl (by kernel_rfl) (by kernel_rfl) (by kernel_rfl) (fun _ _ _ h => h) (Or.inl ⟨by rfl, ?_⟩) (unhide HH) ?_
    · intro W hSW; have hcv : (convert 30 9 (.slice a82 48 c82)).run Try.prog W = .ok (.string tA) W := (by rw [← unhide TA]; exact run_conv _ _ g82 48 _ _ (unhide HLA) ((unhide HRW82).below hSW)); clear hSW; go_simp; all_goals (first | (with_reducible rfl) | simp)
    (try simp only [Act.put, List.setIfInBounds_toArray, List.set_cons_zero, List.set_cons_succ])
    refine wpAnyH_ready (rs := [6]) (by kernel_rfl) (by simp) ?_
    refine consL rfl (fun K hK => ?_) AllReadyH.nil
    go_simp
    refine (bytes_any (1 + Q0) Q1 Q2 Q3 (gdK k') (gdLb k' l') (gdS k' s') (gdD k' d') (unhide HGL') (unhide HGB') _).mono ?_
    rintro e w83 ⟨a83, g83, c83, rfl, hrw, hk⟩
    have HRW83 := hide hrw
    clear hrw
    replace HX := hide ((unhide HX).below hk)
    replace HYY := hide ((unhide HYY).below hk)
    replace HPP := hide ((unhide HPP).below hk)
    replace HQQ := hide ((unhide HQQ).below hk)
    replace HRW82 := hide ((unhide HRW82).below hk)
    replace HT := hide ((unhide HT).trans (hk.mono (unhide HT).size))
    refine hK.out _ _ hk (fun hHeld => ?_)
    clear hK K HH hHeld
    (try simp only [Act.put, List.setIfInBounds_toArray, List.set_cons_zero, List.set_cons_succ])
    refine stronger (S' := fun W => Below w83.heap.size w83 W) (fun W h => hk.trans (h.mono hk.size)) _ _ _ _ ?_
    have HH : Hid (Below w83.heap.size w83 w83) := Below.refl _ _
    clear hk
    refine takeL (i := 7) (v := .string tB) rfl (by kernel_rfl) (by kernel_rfl) (by kernel_rfl) (fun _ _ _ h => h) (Or.inl ⟨by rfl, ?_⟩) (unhide HH) ?_
    · intro W hSW; have hcv : (convert 30 9 (.slice a83 48 c83)).run Try.prog W = .ok (.string tB) W := (by rw [← unhide TB]; exact run_conv _ _ g83 48 _ _ (unhide HLB) ((unhide HRW83).below hSW)); clear hSW; go_simp; all_goals (first | (with_reducible rfl) | simp)
    (try simp only [Act.put, List.setIfInBounds_toArray, List.set_cons_zero, List.set_cons_succ])
    refine takeL (i := 8) (v := .bool false) rfl (by kernel_rfl) (by kernel_rfl) (by kernel_rfl) (fun _ _ _ h => h) (Or.inl ⟨by rfl, ?_⟩) (unhide HH) ?_
    · intro W hSW; clear hSW; go_simp; all_goals (first | rfl | simp)
    (try simp only [Act.put, List.setIfInBounds_toArray, List.set_cons_zero, List.set_cons_succ])
    refine takeL (i := 12) (v := ?_) rfl (by kernel_rfl) (by kernel_rfl) (by kernel_rfl) (fun _ _ _ h => h) (Or.inl ⟨by rfl, ?_⟩) (unhide HH) ?_
    rotate_left 1
    · intro W hSW; go_simp; all_goals (with_reducible rfl)
    (try simp only [Act.put, List.setIfInBounds_toArray, List.set_cons_zero, List.set_cons_succ])
    refine takeL (i := 13) (v := undef) rfl (by kernel_rfl) (by kernel_rfl) (by kernel_rfl) (fun _ _ _ h => h) (Or.inr ⟨by rfl, rfl⟩) (unhide HH) ?_
    (try simp only [Act.put, List.setIfInBounds_toArray, List.set_cons_zero, List.set_cons_succ])
    refine takeL (i := 14) (v := undef) rfl (by kernel_rfl) (by kernel_rfl) (by kernel_rfl) (fun _ _ _ h => h) (Or.inr ⟨by rfl, rfl⟩) (unhide HH) ?_
    (try simp only [Act.put, List.setIfInBounds_toArray, List.set_cons_zero, List.set_cons_succ])
    refine takeL (i := 15) (v := undef) rfl (by kernel_rfl) (by kernel_rfl) (by kernel_rfl) (fun _ _ _ h => h) (Or.inr ⟨by rfl, rfl⟩) (unhide HH) ?_
    (try simp only [Act.put, List.setIfInBounds_toArray, List.set_cons_zero, List.set_cons_succ])
    refine takeL (i := 16) (v := ?_) rfl (by kernel_rfl) (by kernel_rfl) (by kernel_rfl) (fun _ _ _ h => h) (Or.inl ⟨by rfl, ?_⟩) (unhide HH) ?_
    rotate_left 1
    · intro W hSW; go_simp; all_goals (with_reducible rfl)
    (try simp only [Act.put, List.setIfInBounds_toArray, List.set_cons_zero, List.set_cons_succ])
    refine takeL (i := 17) (v := .bool true) rfl (by kernel_rfl) (by kernel_rfl) (by kernel_rfl) (fun _ _ _ h => h) (Or.inl ⟨by rfl, ?_⟩) (unhide HH) ?_
    · intro W hSW; clear hSW; go_simp; all_goals (first | rfl | simp)
    (try simp only [Act.put, List.setIfInBounds_toArray, List.set_cons_zero, List.set_cons_succ])
    refine takeL (i := 18) (v := ?_) rfl (by kernel_rfl) (by kernel_rfl) (by kernel_rfl) (fun _ _ _ h => h) (Or.inl ⟨by rfl, ?_⟩) (unhide HH) ?_
    rotate_left 1
    · intro W hSW; go_simp; all_goals (with_reducible rfl)
    (try simp only [Act.put, List.setIfInBounds_toArray, List.set_cons_zero, List.set_cons_succ])
    refine wpAnyH_done (by kernel_rfl) ?_ _
    refine NoPanic.normal ?_
    go_wp2_with fail
    go_ret
    exact ⟨rfl, unhide HT⟩
end Go.Proofs.Ytabfaehpopeckaa
