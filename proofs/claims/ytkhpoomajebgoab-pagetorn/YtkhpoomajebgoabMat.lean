/-
  The second telling's Encode (ramekinref4).
-/
import Derived.Test.YtkhpoomajebgoabMas
import Derived.Laws.CopyRow
namespace Go.Proofs.Ytkhpoomajebgoab
open Go.RowKit

theorem sizeE : (Try.prog.info? 5).map (·.size) = some 1 := by kernel_rfl

theorem copy4 (w : World) (q q2 cq c2 : Nat) (s t : List Nat) (hq : Blk w q t) (hs : Blk w q2 s) (ht : t.length = 28) (hsl : s.length = 28) (ty : TypeId) :
    ∃ w', (Builtin.copy_ #[22, 22] ty #[.slice (some ⟨q, 0, none⟩) 28 cq, .slice (some ⟨q2, 0, none⟩) 4 c2]).run Try.prog w = .ok (goInt 4) w' ∧ Blk w' q (s.take 4 ++ t.drop 4) ∧ Kp [q] w w' := by
  obtain ⟨cur, hc, hcur⟩ := hq
  have hsz : 28 ≤ cur.size := by
    have := hcur 27 (by omega)
    have := (Array.getElem?_eq_some_iff.1 this).1
    omega
  have hl : (((ints (s.take 4)).map (Value.int .u8)) : List Value).length = 4 := by rw [List.length_map, ints_len, List.length_take, hsl]; rfl
  have hr := run_copy_row (P := Try.prog) w 22 22 ty 5 q 0 28 cq ⟨q2, 0, none⟩ 4 c2 cur 5 ((ints (s.take 4)).map (Value.int .u8)) Try.underlying22 sizeE hc (by rw [hl]; rfl) (by
    intro j v hv
    have hj : j < 4 := by have := (List.getElem?_eq_some_iff.1 hv).1; omega
    rw [Addr.add_lit, Nat.zero_add, hs.cell (by omega)]
    rw [List.getElem?_map, ints, List.getElem?_map, cf_get (by rw [List.length_take]; omega), cf_take, if_pos hj] at hv
    simpa using hv) (by rw [hl]; omega) (ints_oneCell .u8 _)
  rw [hl] at hr
  refine ⟨_, hr, ⟨_, setRow_heap w q cur _ 5 _ hc, fun j hj => ?_⟩, ⟨rfl, rfl, rfl, by simp [World.setRow], fun k hk hn => ?_⟩⟩
  · have hjl : j < 28 := by rw [List.length_append, List.length_take, List.length_drop, hsl, ht] at hj; simpa using hj
    rw [List.getElem?_toArray, List.take_zero, List.nil_append]
    by_cases h4 : j < 4
    · rw [List.getElem?_append_left (by rw [hl]; exact h4), List.getElem?_map, ints, List.getElem?_map, cf_get (by rw [List.length_take, hsl]; omega), cf_append, if_pos (by rw [List.length_take, hsl]; omega)]
      rfl
    · rw [List.getElem?_append_right (by rw [hl]; omega), hl, List.getElem?_drop, Array.getElem?_toList, show 0 + 4 + (j - 4) = j from by omega, hcur j (by omega), cf_append, if_neg (by rw [List.length_take, hsl]; omega), cf_drop, List.length_take, hsl, show 4 + (j - min 4 28) = j from by omega]
  · exact setRow_other w q k _ (by simpa using hn)

theorem ne_of_len {s : List Nat} {n : Nat} (h : s.length = n + 1) : s ≠ [] := fun e => by rw [e] at h; simp at h

/-- The word while a multiple of the generator is taken away, so many steps of it done. -/
def Step (s u : List Nat) (b i : Nat) : Prop := ∀ j, cf (wb u) j = cf (wb s) j ^^^ (if b ≤ j ∧ j < b + i then cf genP (j - b) else 0)
theorem step_next {s u : List Nat} {b i : Nat} (h : Step s u b i) (hl : b + i < 8 * u.length) : Step s (tog u (b + i) (cf genP i)) b (i + 1) := fun j => by
  rw [wb_tog hl (genP_bin i), h j, Nat.xor_assoc]
  congr 1
  by_cases e : j = b + i
  · subst e
    rw [if_neg (by omega), if_pos rfl, if_pos (by omega), Nat.zero_xor, Nat.add_sub_cancel_left]
  · rw [if_neg e, Nat.xor_zero]
    by_cases e2 : b ≤ j ∧ j < b + i
    · rw [if_pos e2, if_pos (by omega)]
    · rw [if_neg e2, if_neg (by omega)]
theorem step_all {s u : List Nat} {b : Nat} (h : Step s u b 33) (j : Nat) : cf (wb u) j = cf (wb s) j ^^^ cf (sh b genP) j := by
  rw [h j, cf_sh]
  congr 1
  by_cases e : j < b
  · rw [if_neg (by omega), if_pos e]
  · rw [if_neg e]
    by_cases e2 : j < b + 33
    · rw [if_pos (by omega)]
    · rw [if_neg (by omega), cf_ge (by rw [genP_facts.1]; omega)]

/-- What is divided, down to a bit. -/
structure Dv (d s : List Nat) (t : Nat) : Prop where
  len : s.length = 28
  bs : Bs s
  syn : ∀ e, 1 ≤ e → e ≤ 8 → syn s e = syn (List.replicate 4 0 ++ d) e
  top : ∀ i, t + 32 ≤ i → cf (wb s) i = 0
theorem Dv.skip {d s : List Nat} {t : Nat} (h : Dv d s (t + 1)) (h0 : cf (wb s) (t + 32) = 0) : Dv d s t :=
  ⟨h.len, h.bs, h.syn, fun i hi => by
    by_cases e : i = t + 32
    · rw [e]; exact h0
    · exact h.top i (by omega)⟩
theorem Dv.step {d s u : List Nat} {t : Nat} (h : Dv d s (t + 1)) (h1 : cf (wb s) (t + 32) ≠ 0) (hl : u.length = 28) (hb : Bs u) (hu : Step s u t 33) : Dv d u t :=
  ⟨hl, hb, fun e k1 k8 => by rw [syn_gen (step_all hu) k1 k8, h.syn e k1 k8], fun i hi => by
    rw [step_all hu, cf_sh, if_neg (by omega)]
    by_cases e : i = t + 32
    · subst e
      have := wb_bin s (t + 32)
      rw [show cf (wb s) (t + 32) = 1 from by omega, show t + 32 - t = 32 from by omega, genP_facts.2.2.2]
      rfl
    · rw [h.top i (by omega), cf_ge (by rw [genP_facts.1]; omega)]
      rfl⟩
theorem Dv.enc {d s : List Nat} (hd : Bs d) (hl : d.length = 24) (h : Dv d s 0) : s.take 4 ++ (List.replicate 4 0 ++ d).drop 4 = encF d := by
  have e : (List.replicate 4 0 ++ d).drop 4 = d := List.drop_left' List.length_replicate
  rw [e]
  exact (enc_made hd hl h.bs h.len h.syn (fun i hi => h.top i (by omega))).once (encF_is hd hl)

set_option maxRecDepth 100000 in
set_option maxHeartbeats 2000000 in
theorem rencode_not (v : Value) (g : Nat) (d : List Nat) (w : World) (hA : Arg w v g d) (hl : d.length ≠ 24) : Calls Try.prog 12 #[v] w fun e w' => e = .returned (.slice none 0 0) ∧ w' = w := by
  obtain ⟨⟨ao, c, rfl, hc1, hc2, hnil, hr⟩, hbs⟩ := hA
  have h24 : ((d.length : Int) != 24) = true := by rw [bne_iff_ne]; omega
  clear hr hnil
  go_enter Try.func12, Try.ntmps12
  go_wp2
  go_ret
  exact ⟨rfl, rfl⟩

set_option maxRecDepth 100000 in
set_option maxHeartbeats 8000000 in
theorem rencode_any (v : Value) (g : Nat) (d : List Nat) (w : World) (hA : Arg w v g d) (hl : d.length = 24) :
    Calls Try.prog 12 #[v] w fun e w' => ∃ v', e = .returned v' ∧ Fr w.heap.size w' v' (encF d) ∧ Below w.heap.size w w' := by
  obtain ⟨⟨ao, c, rfl, hc1, hc2, hnil, hr⟩, hbs⟩ := hA
  rw [hl]
  have HL := hide hl
  have HR := hide hr
  have HN := hide (fun h => (⟨Nat.le_of_lt_succ (by have := hnil h; omega), hnil h⟩ : d.length ≤ 0 ∧ c = 0))
  have hmk : ∀ w : World, (Instr.makeSlice 22 (.int .i64 4) (.int .i64 4)).run Try.prog w = .ok (.slice (some ⟨w.heap.size, 0, none⟩) 4 4) (w.alloc (.cells (List.replicate 4 (Value.int .u8 0)).toArray 5)) := run_zeros 4 (by omega)
  obtain ⟨i0, hi0, hz0, hz1, hz2⟩ := info_parts infoE
  have HI := hide hi0
  have HO := hide (made_owns 4 (by omega) w)
  have HK1 : Hid (Kp [] w (w.alloc (.cells (List.replicate 4 (Value.int .u8 0)).toArray 5))) := (Kp.refl [] w).alloc _
  clear hr hnil hi0
  obtain ⟨z4, hz4⟩ : ∃ z4, (List.replicate 4 (Value.int .u8 0)).toArray = z4 := ⟨_, rfl⟩
  rw [hz4] at HO HK1
  simp only [hz4] at hmk
  clear hz4
  go_enter Try.func12, Try.ntmps12
  go_wp2_with (at_builtin; refine wpList_append_row _ rfl _ _ 22 rfl w.heap.size 5 i0 Try.underlying22 (unhide HI) hz0 hz1 hz2 (.slice (some ⟨w.heap.size, 0, none⟩) 4 4) 4 _ rfl (unhide HO) ao g 24 c (ints d) rfl (by rw [ints_len]; exact unhide HL) ((unhide HR).keep (unhide HK1) (by simp)) (fun h => by have h0 := unhide HN h; have := unhide HL; omega) (by omega) (by simp) ?_)
  intro v' w1 ho hg _
  have hF := (owns_fr (s := List.replicate 4 0 ++ d) (by rw [show (ints (List.replicate 4 0 ++ d)).map (Value.int .u8) = (ints (List.replicate 4 0)).map (Value.int .u8) ++ (ints d).map (Value.int .u8) from by simp only [ints, List.map_append]]; exact ho)).2
  obtain ⟨q, cq, rfl, hq1, hq2, hB, hq3⟩ := hF.blk (by simp)
  have hlq : (List.replicate 4 0 ++ d).length = 28 := by rw [List.length_append, List.length_replicate, unhide HL]
  rw [hlq] at hq1 ⊢
  have HB := hide hB
  have HK2 := hide ((unhide HK1).grown hg (fun k e => by cases e; exact .inr (Nat.le_refl _)))
  have hql := hB.lt
  clear ho hg hF hB hmk HK1 HO
  have HO2 := hide (empty_owns' w1)
  have HR1 : Hid (Row (w1.alloc (.cells #[] 5)) (some ⟨q, 0, none⟩) q (ints (List.replicate 4 0 ++ d))) := by
    have h := ((unhide HB).of (Below.heap_alloc w1 (.cells #[] 5) q hql)).row (o := 0) (n := 28)
    rwa [List.drop_zero, List.take_of_length_le (by omega)] at h
  go_wp2_with (at_builtin; refine wpList_append_row _ rfl _ _ 22 rfl w1.heap.size 5 i0 Try.underlying22 (unhide HI) hz0 hz1 hz2 (.slice (some ⟨w1.heap.size, 0, none⟩) 0 0) 0 _ rfl (unhide HO2) (some ⟨q, 0, none⟩) q 28 cq (ints (List.replicate 4 0 ++ d)) rfl (by rw [ints_len, hlq]) (unhide HR1) (fun h => by cases h) (by omega) (by simp) ?_)
  intro v2 w2 ho hg _
  have hF := (owns_fr (s := List.replicate 4 0 ++ d) ho).2
  obtain ⟨q2, cq2, rfl, hr1, hr2, hB2, hr3⟩ := hF.blk (by simp)
  rw [hlq] at hr1 ⊢
  have HB2 := hide hB2
  have hk12 : Kp [] w1 w2 := ((Kp.refl [] w1).alloc _).grown hg (fun k e => by cases e; exact .inr (Nat.le_refl _))
  have HB1 := hide ((unhide HB).of (hk12.block q hql (by simp)))
  have HK3 := hide ((unhide HK2).trans hk12 (by simp))
  have hq2l := hB2.lt
  clear ho hg hF hB2 hk12 HB HK2 HR1 HO2
  go_wp2_with fail
  refine (rgen_any w2).mono ?_
  rintro e w3 ⟨v3, rfl, hF, hk⟩
  obtain ⟨gg, cg, rfl, hg1, hg2, hBg, hg3⟩ := hF.blk (ne_of_len genP_facts.1)
  rw [genP_facts.1] at hg1 ⊢
  have HBG := hide hBg
  have HB13 := hide ((unhide HB1).below hk (by have := (unhide HB1).lt; omega))
  have HB23 := hide ((unhide HB2).below hk hq2l)
  have HK4 := hide ((unhide HK3).ofBelow hk)
  have hw13 := (unhide HK3).size
  have hgl := hBg.lt
  have hz23 := hk.size
  clear hF hk hBg HB1 HB2 HK3
  have HDV0 : Hid (Dv d (List.replicate 4 0 ++ d) 192) := ⟨hlq, z4_bs hbs, fun _ _ _ => rfl, fun i hi => cf_ge (by rw [wb_len, hlq]; omega)⟩
  go_wp2_with fail
  go_loopw [6] (fun p wr => ∃ (t : Nat) (s : List Nat), p = .int .i64 ((t : Int) + 31) ∧ t ≤ 192 ∧ Dv d s t ∧ Blk wr q2 s ∧ Kp [] w wr ∧ Kp [q2] w3 wr) (fun p _ => (intOf p).toNat)
  case atStart => exact ⟨192, _, rfl, by omega, unhide HDV0, unhide HB23, unhide HK4, Kp.refl _ _⟩
  case round =>
    obtain ⟨t, s, rfl, ht, hDv, hBs, hK, hK3⟩ := hrel
    have HDV := hide hDv
    have HBs := hide hBs
    have HK := hide hK
    have HK3 := hide hK3
    have hsl := hDv.len
    have hsb := hDv.bs
    clear hDv hBs hK hK3
    by_cases hlt : 0 < t
    · obtain ⟨t, rfl⟩ : ∃ t', t = t' + 1 := ⟨t - 1, by omega⟩
      rw [show ((t + 1 : Nat) : Int) + 31 = (t : Int) + 32 from by omega]
      have hge : (32 : Int) ≤ (t : Int) + 32 := by omega
      have HA4 : Hid (Arg wr (.slice (some ⟨q2, 0, none⟩) 28 cq2) q2 s) := by
        have h := (unhide HBs).arg hsb (c := cq2) (by omega) hr2
        rw [hsl] at h
        exact h
      go_wp2_with fail
      rw [show (t : Int) + 32 = ((t + 32 : Nat) : Int) from by omega]
      refine (rbit_any _ _ s (t + 32) wr (unhide HA4) (by omega) (by omega)).mono ?_
      rintro e w' ⟨rfl, hw'⟩
      subst hw'
      rw [show ((t + 32 : Nat) : Int) = (t : Int) + 32 from by omega]
      obtain ⟨x, hx⟩ : ∃ x, cf (wb s) (t + 32) = x := ⟨_, rfl⟩
      have HX := hide hx
      rw [hx]
      clear hx
      by_cases h0 : x = 0
      · subst h0
        go_wp2_with fail
        go_roundw
        case rel => exact ⟨t, s, by go_num, by omega, (unhide HDV).skip (unhide HX), unhide HBs, unhide HK, unhide HK3⟩
        case measure => simp [intOf]; omega
      · have hx0 : ((x : Int) == 0) = false := by rw [beq_eq_false_iff_ne]; omega
        go_wp2_with fail
        clear hx0
        go_loopw [7] (fun p wr => ∃ (i : Nat) (u : List Nat), p = .int .i64 i ∧ i ≤ 33 ∧ u.length = 28 ∧ Bs u ∧ Step s u t i ∧ Blk wr q2 u ∧ Kp [] w wr ∧ Kp [q2] w3 wr) (fun p _ => 33 - (intOf p).toNat)
        case atStart => exact ⟨0, s, rfl, by omega, hsl, hsb, fun j => by rw [if_neg (by omega), Nat.xor_zero], unhide HBs, unhide HK, unhide HK3⟩
        case round =>
          obtain ⟨i, u, rfl, hi, hul, hub, hst, hBu, hKu, hK3u⟩ := hrel
          have HST := hide hst
          have HBu := hide hBu
          have HKu := hide hKu
          have HK3u := hide hK3u
          clear hst hBu hKu hK3u
          by_cases hi2 : i < 33
          · have hi1 : (i : Int) < 33 := by omega
            have hcg := (unhide HBG).cell (j := i) (by rw [genP_facts.1]; exact hi2)
            have HCG := hide ((unhide HK3u).cell hcg (by simp; omega))
            have hgb := genP_bin i
            clear hcg
            have hnx := step_next (unhide HST) (by omega)
            obtain ⟨A, hA⟩ : ∃ A, t + i = A := ⟨_, rfl⟩
            rw [hA] at hnx
            have hA1 : (t : Int) + (i : Int) = (A : Int) := by omega
            have hA2 : IntKind.i64.wrap ((t : Int) + (i : Int)) = (A : Int) := by rw [IntWalk.i64_in _ ⟨by omega, by omega⟩]; omega
            have hA224 : A < 224 := by omega
            clear hA
            obtain ⟨y, hy⟩ : ∃ y, cf genP i = y := ⟨_, rfl⟩
            rw [hy] at hnx hgb HCG
            clear hy
            obtain ⟨j, hj⟩ : ∃ j, A / 8 = j := ⟨_, rfl⟩
            obtain ⟨m, hm⟩ : ∃ m, A % 8 = m := ⟨_, rfl⟩
            have hj28 : j < 28 := by omega
            have hm8 : m < 8 := by omega
            have hj1 : (j : Int) < 28 := by omega
            have q1 : IntKind.i64.wrap ((A : Int) / 8) = (j : Int) := by rw [IntWalk.i64_in _ ⟨by omega, by omega⟩]; omega
            have q2' : (A : Int).tmod 8 = (m : Int) := by rw [Int.tmod_eq_emod_of_nonneg (by omega)]; omega
            have q2'' : (A : Int) % 8 = (m : Int) := by omega
            have q3 : IntKind.u64.wrap (m : Int) = (m : Int) := IntWalk.u64_in _ ⟨by omega, by omega⟩
            have hpm : 2 ^ m < 256 := by have := pow_lt8 A; rw [hm] at this; exact this
            have htg : tog u A y = u.set j (cf u j ^^^ y * 2 ^ m) := by rw [← hj, ← hm]; rfl
            obtain ⟨p, hp⟩ : ∃ p, y * 2 ^ m = p := ⟨_, rfl⟩
            have hp256 : p < 256 := by
              have : y = 0 ∨ y = 1 := by omega
              rcases this with rfl | rfl
              · omega
              · omega
            rw [hp] at htg
            have q4 : IntKind.u8.wrap ((y : Int) * (2 : Int) ^ m) = (p : Int) := by rw [show (y : Int) * (2 : Int) ^ m = ((y * 2 ^ m : Nat) : Int) from by simp, hp]; exact wraps_u8 _ (by omega) (by omega)
            have HNX : Hid (Step s (u.set j (cf u j ^^^ p)) t (i + 1)) := by rw [← htg]; exact hnx
            have hxor := bits_xor_u8 (hub j) hp256
            clear hj hm hp htg hnx
            go_wp2_with fail
            refine wp_region_noPanic ?_
            refine wp_region_held_drew (S := fun W => Kp [q2] wr W) (by kernel_rfl) ((Kp.refl _ _).drew) (fun hHeld => ?_)
            have HH := hide hHeld
            clear hHeld
            refine takeL (i := 0) (v := ?_) rfl (by kernel_rfl) (by kernel_rfl) (by kernel_rfl) (fun _ _ _ h => h) (Or.inl ⟨by rfl, ?_⟩) (unhide HH) ?_
            rotate_left 1
            · intro W hSW; go_simp; all_goals (with_reducible rfl)
            (try simp only [Act.put, List.setIfInBounds_toArray, List.set_cons_zero, List.set_cons_succ])
            refine takeL (i := 1) (v := ?_) rfl (by kernel_rfl) (by kernel_rfl) (by kernel_rfl) (fun _ _ _ h => h) (Or.inl ⟨by rfl, ?_⟩) (unhide HH) ?_
            rotate_left 1
            · intro W hSW; go_simp; all_goals (with_reducible rfl)
            (try simp only [Act.put, List.setIfInBounds_toArray, List.set_cons_zero, List.set_cons_succ])
            refine takeL (i := 2) (v := ?_) rfl (by kernel_rfl) (by kernel_rfl) (by kernel_rfl) (fun _ _ _ h => h) (Or.inl ⟨by rfl, ?_⟩) (unhide HH) ?_
            rotate_left 1
            · intro W hSW; go_simp; all_goals (with_reducible rfl)
            (try simp only [Act.put, List.setIfInBounds_toArray, List.set_cons_zero, List.set_cons_succ])
            refine takeL (i := 3) (v := ?_) rfl (by kernel_rfl) (by kernel_rfl) (by kernel_rfl) (fun _ _ _ h => h) (Or.inl ⟨by rfl, ?_⟩) (unhide HH) ?_
            rotate_left 1
            · intro W hSW; go_simp; all_goals (with_reducible rfl)
            (try simp only [Act.put, List.setIfInBounds_toArray, List.set_cons_zero, List.set_cons_succ])
            refine takeL (i := 4) (v := ?_) rfl (by kernel_rfl) (by kernel_rfl) (by kernel_rfl) (fun _ _ _ h => h) (Or.inl ⟨by rfl, ?_⟩) (unhide HH) ?_
            rotate_left 1
            · intro W hSW; go_simp; all_goals (with_reducible rfl)
            (try simp only [Act.put, List.setIfInBounds_toArray, List.set_cons_zero, List.set_cons_succ])
            refine takeL (i := 5) (v := ?_) rfl (by kernel_rfl) (by kernel_rfl) (by kernel_rfl) (fun _ _ _ h => h) (Or.inl ⟨by rfl, ?_⟩) (unhide HH) ?_
            rotate_left 1
            · intro W hSW; go_simp; all_goals (with_reducible rfl)
            (try simp only [Act.put, List.setIfInBounds_toArray, List.set_cons_zero, List.set_cons_succ])
            refine takeL (i := 6) (v := ?_) rfl (by kernel_rfl) (by kernel_rfl) (by kernel_rfl) (fun _ _ _ h => h) (Or.inl ⟨by rfl, ?_⟩) (unhide HH) ?_
            rotate_left 1
            · intro W hSW; go_simp; all_goals (with_reducible rfl)
            (try simp only [Act.put, List.setIfInBounds_toArray, List.set_cons_zero, List.set_cons_succ])
            refine takeL (i := 8) (v := ?_) rfl (by kernel_rfl) (by kernel_rfl) (by kernel_rfl) (fun _ _ _ h => h) (Or.inl ⟨by rfl, ?_⟩) (unhide HH) ?_
            rotate_left 1
            · intro W hSW; go_simp; all_goals (with_reducible rfl)
            (try simp only [Act.put, List.setIfInBounds_toArray, List.set_cons_zero, List.set_cons_succ])
            refine takeL (i := 9) (v := ?_) rfl (by kernel_rfl) (by kernel_rfl) (by kernel_rfl) (fun _ _ _ h => h) (Or.inl ⟨by rfl, ?_⟩) (unhide HH) ?_
            rotate_left 1
            · intro W hSW; go_simp; all_goals (with_reducible rfl)
            (try simp only [Act.put, List.setIfInBounds_toArray, List.set_cons_zero, List.set_cons_succ])
            refine takeL (i := 10) (v := ?_) rfl (by kernel_rfl) (by kernel_rfl) (by kernel_rfl) (fun _ _ _ h => h) (Or.inl ⟨by rfl, ?_⟩) (unhide HH) ?_
            rotate_left 1
            · intro W hSW; go_simp; all_goals (with_reducible rfl)
            (try simp only [Act.put, List.setIfInBounds_toArray, List.set_cons_zero, List.set_cons_succ])
            refine takeL (i := 11) (v := ?_) rfl (by kernel_rfl) (by kernel_rfl) (by kernel_rfl) (fun _ _ _ h => h) (Or.inl ⟨by rfl, ?_⟩) (unhide HH) ?_
            rotate_left 1
            · intro W1 hSW; have hc := hSW.cell (unhide HCG) (by simp; omega); clear hSW; go_simp; all_goals (with_reducible rfl)
            (try simp only [Act.put, List.setIfInBounds_toArray, List.set_cons_zero, List.set_cons_succ])
            refine takeL (i := 12) (v := ?_) rfl (by kernel_rfl) (by kernel_rfl) (by kernel_rfl) (fun _ _ _ h => h) (Or.inl ⟨by rfl, ?_⟩) (unhide HH) ?_
            rotate_left 1
            · intro W hSW; go_simp; all_goals (with_reducible rfl)
            (try simp only [Act.put, List.setIfInBounds_toArray, List.set_cons_zero, List.set_cons_succ])
            refine takeL (i := 13) (v := ?_) rfl (by kernel_rfl) (by kernel_rfl) (by kernel_rfl) (fun _ _ _ h => h) (Or.inl ⟨by rfl, ?_⟩) (unhide HH) ?_
            rotate_left 1
            · intro W hSW; go_simp; all_goals (with_reducible rfl)
            (try simp only [Act.put, List.setIfInBounds_toArray, List.set_cons_zero, List.set_cons_succ])
            refine takeL (i := 14) (v := ?_) rfl (by kernel_rfl) (by kernel_rfl) (by kernel_rfl) (fun _ _ _ h => h) (Or.inl ⟨by rfl, ?_⟩) (unhide HH) ?_
            rotate_left 1
            · intro W hSW; go_simp; all_goals (with_reducible rfl)
            (try simp only [Act.put, List.setIfInBounds_toArray, List.set_cons_zero, List.set_cons_succ])
            refine takeL (i := 15) (v := ?_) rfl (by kernel_rfl) (by kernel_rfl) (by kernel_rfl) (fun _ _ _ h => h) (Or.inl ⟨by rfl, ?_⟩) (unhide HH) ?_
            rotate_left 1
            · intro W hSW; go_simp; all_goals (with_reducible rfl)
            (try simp only [Act.put, List.setIfInBounds_toArray, List.set_cons_zero, List.set_cons_succ])
            refine wpAnyH_ready (rs := [7]) (by kernel_rfl) (by simp) ?_
            refine consL rfl (fun K hK => ?_) AllReadyH.nil
            have hc4 := ((unhide HBu).of (w' := wr.drew) rfl).cell (j := j) (by omega)
            go_simp
            refine hK.out _ _ (unhide HH) (fun hHeld => ?_)
            clear hK K HH
            have HH := hide hHeld
            clear hHeld
            (try simp only [Act.put, List.setIfInBounds_toArray, List.set_cons_zero, List.set_cons_succ])
            clear hc4
            refine takeL (i := 16) (v := ?_) rfl (by kernel_rfl) (by kernel_rfl) (by kernel_rfl) (fun _ _ _ h => h) (Or.inl ⟨by rfl, ?_⟩) (unhide HH) ?_
            rotate_left 1
            · intro W hSW; go_simp; all_goals (with_reducible rfl)
            (try simp only [Act.put, List.setIfInBounds_toArray, List.set_cons_zero, List.set_cons_succ])
            refine takeL (i := 17) (v := ?_) rfl (by kernel_rfl) (by kernel_rfl) (by kernel_rfl) (fun _ _ _ h => h) (Or.inl ⟨by rfl, ?_⟩) (unhide HH) ?_
            rotate_left 1
            · intro W hSW; go_simp; all_goals (with_reducible rfl)
            (try simp only [Act.put, List.setIfInBounds_toArray, List.set_cons_zero, List.set_cons_succ])
            refine wpAnyH_ready (rs := [18]) (by kernel_rfl) (by simp) ?_
            refine consL rfl (fun K hK => ?_) AllReadyH.nil
            have hc4 := ((unhide HBu).of (w' := wr.drew) rfl).cell (j := j) (by omega)
            have hf4 := ((unhide HBu).of (w' := wr.drew) rfl).free (j := j)
            have HH2 := HH
            go_simp
            refine hK.out _ _ ((unhide HH2).setCell ⟨q2, j, none⟩ _ (.inl (by simp))) (fun hHeld => ?_)
            clear hHeld hK K hc4 hf4
            (try simp only [Act.put, List.setIfInBounds_toArray, List.set_cons_zero, List.set_cons_succ])
            refine wpAnyH_done (by kernel_rfl) ?_ _
            refine NoPanic.normal ?_
            go_wp2_with fail
            go_roundw
            case rel =>
              refine ⟨i + 1, u.set j (cf u j ^^^ p), by go_num, by omega, by simp [hul], ?_, unhide HNX, ((unhide HBu).set j _ (by omega)).of rfl, ((unhide HKu).setCell ⟨q2, j, none⟩ _ (.inr (show w.heap.size ≤ q2 by omega))).drew, ((unhide HK3u).setCell ⟨q2, j, none⟩ _ (.inl (by simp))).drew⟩
              intro n
              rw [cf_set _ _ _ _ (by omega)]
              split
              · exact xor_lt (hub j) hp256
              · exact hub n
            case measure => simp [intOf]; omega
          · have hi3 : i = 33 := by omega
            subst hi3
            go_wp2_with fail
            go_roundw
            case rel => exact ⟨t, u, by go_num, by omega, (unhide HDV).step (by rw [unhide HX]; exact h0) hul hub (unhide HST), unhide HBu, unhide HKu, unhide HK3u⟩
            case measure => simp [intOf]; omega
    · have ht0 : t = 0 := by omega
      subst ht0
      have hqq : q < w3.heap.size := by have := (unhide HB13).lt; exact this
      obtain ⟨w9, hcp, hB9, hK9⟩ := copy4 wr q q2 cq cq2 s (List.replicate 4 0 ++ d) ((unhide HB13).of ((unhide HK3).block q hqq (by simp; omega))) (unhide HBs) hlq hsl 3
      rw [(unhide HDV).enc hbs (unhide HL)] at hB9
      have HB9 := hide hB9
      have HK9 := hide ((unhide HK).trans hK9 (fun x hx => .inr (by simp at hx; omega)))
      clear hB9 hK9
      go_wp2
      go_ret
      exact ⟨_, rfl, .inr ⟨q, cq, by rw [encF_len (unhide HL)]; rfl, by rw [encF_len (unhide HL)]; exact hq1, hq2, unhide HB9, hq3⟩, (unhide HK9).below⟩

end Go.Proofs.Ytkhpoomajebgoab
