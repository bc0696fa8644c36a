/-
  The walk of NandErase.
-/
import Derived.Test.YtnondiaefpdlpaaCm
import Derived.Test.YtnondiaefpdlpaaI6
import Derived.Test.YtnondiaefpdlpaaF7
import Derived.Test.YtnondiaefpdlpaaR6c
namespace Go.Proofs.Ytnondiaefpdlpaa
open Go.RowKit Go.Shelf

structure Era (s : Nd) (i : Nat) (x : List Nat) : Prop where
  cm : Cm 6 8 5 s
  next : s.next 2 3 = i
  held : ∀ p, s.held 2 3 p = if p < i then x else ones60
  era : s.era 2 3 = 0
theorem Era.step {s : Nd} {i : Nat} {x : List Nat} (h : Era s i x) (ops : Int) : Era { s with ops, held := put3 s.held 2 3 i x, next := put2 s.next 2 3 (i + 1) } (i + 1) x :=
  ⟨h.cm.upd _ _ _ _ _, put2_same s.next 2 3 (i + 1), fun r => by
    show put3 s.held 2 3 i x 2 3 r = _
    by_cases e : r = i
    · rw [e, put3_same, if_pos (by omega)]
    · rw [put3_ne _ _ (fun h => e h.2.2), h.held r]
      by_cases e2 : r < i
      · rw [if_pos e2, if_pos (by omega)]
      · rw [if_neg e2, if_neg (by omega)], h.era⟩
theorem mix_self {a : List Nat} (m : List Nat) (ha : Bs a) : mixL a a m = a := by
  by_cases hm : m = []
  · subst hm; exact mix_none rfl
  · refine bytes_ext (by rw [mixL_len rfl]) (mixL_bs m ha ha) ha (fun k hk => ?_)
    rw [mixL_len rfl] at hk
    rw [mixL, if_pos rfl, bf_mixF hk hm]
    split <;> rfl
/-- Behind an erase that was torn. -/
structure Rip (s : Nd) (n : Nat) (x mask : List Nat) : Prop where
  cm : Cm 6 8 5 s
  next : s.next 2 3 = n
  held : ∀ p, s.held 2 3 p = if p < n then mixL x ones60 mask else ones60
  era : s.era 2 3 = 1
theorem Era.rip {s : Nd} {n : Nat} {x : List Nat} (h : Era s n x) (mask : List Nat) : Rip { ({ s with left := 1, mask } : Nd).erased 2 3 with dead := false, left := 0 } n x mask := by
  refine ⟨⟨h.cm.D, h.cm.B, h.cm.P, h.cm.bad, rfl, rfl, h.cm.noise⟩, ?_, fun p => ?_, ?_⟩
  · show (if (1 : Nat) = 1 then s.next else put2 s.next 2 3 0) 2 3 = n
    rw [if_pos rfl]
    exact h.next
  · show (if (2 : Nat) = 2 ∧ (3 : Nat) = 3 then ({ s with left := 1, mask } : Nd).mixed (s.held 2 3 p) ones60 else s.held 2 3 p) = _
    rw [if_pos ⟨rfl, rfl⟩, Nd.mixed, if_pos rfl, h.held p]
    show mixL _ ones60 mask = _
    by_cases e : p < n
    · rw [if_pos e, if_pos e]
    · rw [if_neg e, if_neg e, mix_self mask ones60_bs]
  · show put2 s.era 2 3 (inc (s.era 2 3)) 2 3 = 1
    rw [put2_same, h.era, inc_in (by omega) (by omega)]
    rfl
theorem era_is (s : Nd) (h1 : s.D = 6) (h2 : s.B = 8) (h3 : s.era 2 3 = 2) : s.eraOf 2 3 = 2 := by
  have hth : s.There 2 3 := ⟨⟨by omega, by omega⟩, by omega, by omega⟩
  rw [Nd.eraOf, if_pos hth]
  exact h3
theorem Rip.ops {s : Nd} {n : Nat} {x mask : List Nat} (h : Rip s n x mask) (ops : Int) : Rip { s with ops } n x mask := ⟨h.cm.upd _ _ _ _ _, h.next, h.held, h.era⟩

set_option maxRecDepth 100000 in
set_option maxHeartbeats 8000000 in
theorem erase_walk (u : Value) (ga : Nat) (b : List Nat) (um : Value) (gm : Nat) (mask : List Nat) (z : Int) (w : World) (hA : Arg w u ga b) (hM : Arg w um gm mask) :
    Calls Try.prog 7 #[u, um, .int .i64 z] w fun e w' => e = .returned (.bool true) ∧ Below w.heap.size w w' := by
  have HA := hide hA
  have HM := hide hM
  have hbs := hA.bs
  have HGM : Hid (mask ≠ [] → gm < w.heap.size) := fun hne => by
    obtain ⟨ao, c, _, _, _, _, h5⟩ := hM.ex
    exact h5.block_lt hne
  obtain ⟨mo, mc, rfl, hmc1, hmc2, hmn, hmr⟩ := hM.ex
  obtain ⟨ml, hml⟩ : ∃ n, mask.length = n := ⟨_, rfl⟩
  have HML := hide hml
  rw [hml] at HM hmc1 ⊢
  have HT : Hid (Below w.heap.size w w) := Below.refl _ _
  clear hA hM hml hmn hmr
  have hml1 : (ml : Int) ≤ 9223372036854775807 := by unfold maxLen at hmc2; omega
  by_cases h60 : 60 < ml
  · have h60' : (60 : Int) < (ml : Int) := by omega
    go_enter Try.func7, Try.ntmps7
    go_wp2_with fail
    refine (known_any _).mono ?_
    rintro e w0 ⟨rfl, hk⟩
    replace HT := hide ((unhide HT).trans (hk.mono (unhide HT).size))
    clear hk
    go_wp2_with fail
    go_ret
    exact ⟨rfl, unhide HT⟩
  have h60' : (ml : Int) ≤ 60 := by omega
  go_enter Try.func7, Try.ntmps7
  go_wp2_with fail
  refine (known_any _).mono ?_
  rintro e w0 ⟨rfl, hk⟩
  replace HT := hide ((unhide HT).trans (hk.mono (unhide HT).size))
  clear hk
  go_wp2_with fail
  refine (new_blank 6 8 5 _ ⟨by omega, by omega, by omega⟩).mono ?_
  rintro e w1 ⟨hk, L, rfl, hN⟩
  have hm0 := (unhide HT).size
  replace HT := hide ((unhide HT).trans (hk.mono (unhide HT).size))
  obtain ⟨m, hmm⟩ : ∃ m, w0.heap.size = m := ⟨_, rfl⟩
  rw [hmm] at hN hm0
  obtain ⟨q, hq⟩ : ∃ q, L.n = q := ⟨_, rfl⟩
  rw [hq]
  have HQ := hide hq
  have HN := hide hN
  clear hk hmm hN hq
  go_wp2_with fail
  refine (within7_any _ 5 _ (by omega) (by omega)).mono ?_
  rintro e w1 ⟨rfl, rfl⟩
  have hp0 : 0 ≤ z % 5 := Int.emod_nonneg _ (by omega)
  have hp1 : z % 5 < 5 := Int.emod_lt_of_pos _ (by omega)
  obtain ⟨k, hk⟩ := Int.eq_ofNat_of_zero_le hp0
  rw [hk] at hp0 hp1 ⊢
  clear hk
  obtain ⟨n, hn⟩ : ∃ n : Nat, (1 : Int) + (k : Int) = (n : Int) := ⟨1 + k, by omega⟩
  have hn1 : 1 ≤ n := by omega
  have hn5 : n ≤ 5 := by omega
  go_wp2_with fail
  clear hn hp0 hp1
  refine (bytes7_any _ _ b _ ((unhide HA).below (unhide HT))).mono ?_
  rintro e w3 ⟨v3, rfl, hF3, hk3⟩
  have HC := hide hF3.low
  replace HN := hide ((unhide HN).below hk3)
  replace HT := hide ((unhide HT).trans (hk3.mono (unhide HT).size))
  obtain ⟨vo, vc, rfl⟩ : ∃ o c, v3 = .slice o 60 c := by
    obtain ⟨o, c, h⟩ := hF3.shape
    exact ⟨o, c, by rw [h, by60_len]⟩
  clear hF3 hk3
  go_wp2_with fail
  go_loopw [10] (fun q10 wr => ∃ (i : Nat) (L : La) (s : Nd), q10 = .int .i64 i ∧ i ≤ n ∧ Hid (L.n = q) ∧ Hid (NA m wr L s) ∧ Hid (Era s i (by60 b)) ∧ Hid (Fr 0 wr (.slice vo 60 vc) (by60 b)) ∧ Hid (Below w.heap.size w wr)) (fun q10 _ => n - (intOf q10).toNat)
  case atStart => exact ⟨0, L, _, rfl, by omega, HQ, HN, ⟨Cm.blank _ _ _, rfl, fun _ => rfl, rfl⟩, HC, HT⟩
  case round =>
    clear HN HC HT HQ
    obtain ⟨i, L, s, rfl, hi, HQ, HN, HS, HC, HT⟩ := hrel
    have hLq := unhide HQ
    subst hLq
    by_cases hlt : i < n
    · have hi1 : (i : Int) < (n : Int) := by omega
      obtain ⟨g5, hA5, hS5⟩ := (unhide HC).safe (m := m) (by60_bs hbs)
      have HA5 := hide hA5
      have HS5 := hide hS5
      clear hA5 hS5
      go_wp2_with fail
      refine (prog_cm (d := 2) (b := 3) (p := i) (unhide HN) (unhide HS).cm (by omega) (by omega) (by omega) (unhide HS).next _ g5 (by60 b) (unhide HA5) (unhide HS5) (by60_len b)).mono ?_
      rintro e w6 ⟨rfl, ⟨L', hL', hN6⟩, hK6⟩
      have HN6 := hide hN6
      have HL6 := hide hL'
      have HC6 := hide ((unhide HC).kn hK6)
      have HT6 := hide ((unhide HT).trans (hK6.below.mono hm0))
      have HO6 := hide ((unhide HS).step (inc s.ops))
      clear hN6 hL' hK6 HA5 HS5 HC HT
      go_wp2_with fail
      go_roundw
      case rel => exact ⟨i + 1, L', _, by go_num, by omega, HL6, HN6, HO6, HC6, HT6⟩
      case measure => simp [intOf]; omega
    · obtain rfl : i = n := by omega
      clear HQ
      go_wp2_with fail
      refine (stop_any (unhide HN) 1 (by omega) _ gm mask ((unhide HM).below (unhide HT)) (fun hne => .inl (Nat.lt_of_lt_of_le (unhide HGM hne) hm0))).mono ?_
      rintro e w2 ⟨⟨vv, rfl⟩, ⟨L', hL', hN2⟩, hK2⟩
      obtain ⟨q, hq⟩ : ∃ q, L.n = q := ⟨_, rfl⟩
      rw [hq] at hL' ⊢
      clear hq
      subst hL'
      have HN2 := hide hN2
      replace HC := hide ((unhide HC).kn hK2)
      replace HT := hide ((unhide HT).trans (hK2.below.mono hm0))
      clear hN2 hK2 HN
      have HS' := hide (unhide HS).cm
      go_wp2_with fail
      refine (erase_good (d := 2) (b := 3) (unhide HN2) (unhide HS').dead (by show 2 < s.D; rw [(unhide HS').D]; omega) (by show 3 < s.B; rw [(unhide HS').B]; omega) ((unhide HS').bad 2 3)).mono ?_
      rintro e w4 ⟨rfl, ⟨L, hL, hN4⟩, hK4⟩
      have herr : ({ s with left := (1 : Int).toNat, mask } : Nd).err = 8 := rfl
      rw [herr]
      obtain ⟨q, hq⟩ : ∃ q, L'.n = q := ⟨_, rfl⟩
      rw [hq] at hL ⊢
      clear hq herr
      subst hL
      have HN4 := hide hN4
      replace HC := hide ((unhide HC).kn hK4)
      replace HT := hide ((unhide HT).trans (hK4.below.mono hm0))
      clear hN4 hK4 HN2
      go_wp2_with fail
      refine (power_any (unhide HN4)).mono ?_
      rintro e w5 ⟨⟨vv, rfl⟩, ⟨L', hL', hN5⟩, hK5⟩
      obtain ⟨q, hq⟩ : ∃ q, L.n = q := ⟨_, rfl⟩
      rw [hq] at hL' ⊢
      clear hq
      subst hL'
      have HN5 := hide hN5
      have HS5 : Hid (Rip { ({ s with left := (1 : Int).toNat, mask } : Nd).erased 2 3 with dead := false, left := 0 } i (by60 b) mask) := (unhide HS).rip mask
      replace HC := hide ((unhide HC).kn hK5)
      replace HT := hide ((unhide HT).trans (hK5.below.mono hm0))
      clear hN5 hK5 HN4 HS HS'
      generalize ({ ({ s with left := (1 : Int).toNat, mask } : Nd).erased 2 3 with dead := false, left := 0 } : Nd) = s5 at HN5 HS5
      have hal : Below w5.heap.size w5 (w5.alloc (.cells #[.int .u8 255] 5)) := (Below.refl _ _).alloc (Nat.le_refl _) _
      have HAO := hide (arg_one7 w5 255 (by omega))
      have HN6 := hide ((unhide HN5).below hal)
      replace HC := hide ((unhide HC).below hal (Nat.le_refl _))
      replace HT := hide ((unhide HT).trans (hal.mono (unhide HT).size))
      clear hal HN5
      go_wp2_with fail
      refine (bytes7_any _ _ [255] _ (unhide HAO)).mono ?_
      rintro e w7 ⟨v7, rfl, hF7, hk7⟩
      rw [by60_one] at hF7
      have HO := hide hF7.low
      have HN7 := hide ((unhide HN6).below hk7)
      replace HC := hide ((unhide HC).below hk7 (Nat.le_refl _))
      replace HT := hide ((unhide HT).trans (hk7.mono (unhide HT).size))
      obtain ⟨oo, oc, rfl⟩ : ∃ o c, v7 = .slice o 60 c := by
        obtain ⟨o, c, h⟩ := hF7.shape
        exact ⟨o, c, by rw [h, List.length_replicate]⟩
      clear hF7 hk7 HN6 HAO
      go_wp2_with fail
      obtain ⟨n, hnn⟩ : ∃ n, i = n := ⟨_, rfl⟩
      subst hnn
      go_loopw [12] (fun q12 wr => ∃ (j : Nat) (s : Nd), q12 = .int .i64 j ∧ j ≤ 5 ∧ Hid (NA m wr L' s) ∧ Hid (Rip s i (by60 b) mask) ∧ Hid (Fr 0 wr (.slice vo 60 vc) (by60 b)) ∧ Hid (Fr 0 wr (.slice oo 60 oc) (List.replicate 60 255)) ∧ Hid (Below w.heap.size w wr)) (fun q12 _ => 5 - (intOf q12).toNat)
      case atStart => exact ⟨0, s5, rfl, by omega, HN7, HS5, HC, HO, HT⟩
      case round =>
        clear HN7 HS5 HC HO HT
        obtain ⟨j, s, rfl, hj, HN, HS, HC, HO, HT⟩ := hrel
        by_cases hj5 : j < 5
        · have hj1 : (j : Int) < 5 := by omega
          go_wp2_with fail
          refine (read_cm (d := 2) (b := 3) (p := j) (unhide HN) (unhide HS).cm (by omega) (by omega) hj5).mono ?_
          rintro e w8 ⟨v8, rfl, hF8, hN8, hK8⟩
          have HN8 := hide hN8
          have HS8 := hide ((unhide HS).ops (inc s.ops))
          have HC8 := hide ((unhide HC).kn hK8)
          have HO8 := hide ((unhide HO).kn hK8)
          have HT8 := hide ((unhide HT).trans (hK8.below.mono hm0))
          rw [(unhide HS).held j] at hF8
          clear hN8 hK8 HN HC HO HT HS
          by_cases hji : j < i
          · have hji1 : (j : Int) < (i : Int) := by omega
            rw [if_pos hji] at hF8
            have hxl : (mixL (by60 b) ones60 mask).length = 60 := by rw [mixL_len (by rw [ones60_len, by60_len]), by60_len]
            have hxb : Bs (mixL (by60 b) ones60 mask) := mixL_bs _ (by60_bs hbs) ones60_bs
            obtain ⟨o8, c8, rfl⟩ : ∃ o c, v8 = .slice o 60 c := by
              obtain ⟨o, c, h⟩ := hF8.shape
              exact ⟨o, c, by rw [h, hxl]⟩
            have HF8 := hide hF8
            obtain ⟨g1, hA1, _⟩ := (unhide HC8).arg (by60_bs hbs)
            obtain ⟨g2, hA2, _⟩ := (unhide HO8).arg ones60_bs
            have HA1 := hide hA1
            have HA2 := hide hA2
            have HXL := hide hxl
            clear hF8 hA1 hA2 hxl
            go_wp2_with fail
            refine (rmix_any _ _ _ g1 g2 gm (by60 b) (List.replicate 60 255) mask _ (unhide HA1) (unhide HA2) ((unhide HM).below (unhide HT8)) (fun _ => by rw [by60_len]; omega)).mono ?_
            rintro e w9 ⟨v9, rfl, hF9, hk9⟩
            have hF9' : Fr w8.heap.size w9 v9 (mixL (by60 b) ones60 mask) := hF9
            obtain ⟨o9, c9, rfl⟩ : ∃ o c, v9 = .slice o 60 c := by
              obtain ⟨o, c, h⟩ := hF9'.shape
              exact ⟨o, c, by rw [h, unhide HXL]⟩
            obtain ⟨g3, hA3, _⟩ := hF9'.arg hxb
            obtain ⟨g4, hA4, _⟩ := ((unhide HF8).below hk9 (Nat.le_refl _)).arg hxb
            have hcv1 := conv_arg hA3
            have hcv2 := conv_arg hA4
            replace HN8 := hide ((unhide HN8).below hk9)
            replace HC8 := hide ((unhide HC8).below hk9 (Nat.le_refl _))
            replace HO8 := hide ((unhide HO8).below hk9 (Nat.le_refl _))
            replace HT8 := hide ((unhide HT8).trans (hk9.mono (unhide HT8).size))
            clear hF9 hF9' hk9 hA3 hA4 HA1 HA2 HF8
            obtain ⟨st, hst⟩ : ∃ st, strOf (ints (mixL (by60 b) ones60 mask)) = st := ⟨_, rfl⟩
            rw [hst] at hcv1 hcv2
            clear hst
            go_wp2_with fail
            go_roundw
            case rel => exact ⟨j + 1, _, by go_num, by omega, HN8, HS8, HC8, HO8, HT8⟩
            case measure => simp [intOf]; omega
          · have hji1 : (i : Int) ≤ (j : Int) := by omega
            rw [if_neg hji] at hF8
            obtain ⟨o8, c8, rfl⟩ : ∃ o c, v8 = .slice o 60 c := by
              obtain ⟨o, c, h⟩ := hF8.shape
              exact ⟨o, c, by rw [h, ones60_len]⟩
            obtain ⟨g3, hA3, _⟩ := hF8.arg ones60_bs
            obtain ⟨g4, hA4, _⟩ := (unhide HO8).arg ones60_bs
            have hcv1 := conv_arg hA3
            have hcv2 : (convert 38 9 (.slice oo 60 oc)).run Try.prog w8 = .ok (.string (strOf (ints ones60))) w8 := conv_arg hA4
            obtain ⟨st, hst⟩ : ∃ st, strOf (ints ones60) = st := ⟨_, rfl⟩
            rw [hst] at hcv1 hcv2
            clear hst hA3 hA4 hF8
            go_wp2_with fail
            go_roundw
            case rel => exact ⟨j + 1, _, by go_num, by omega, HN8, HS8, HC8, HO8, HT8⟩
            case measure => simp [intOf]; omega
        · obtain rfl : j = 5 := by omega
          obtain ⟨g5, hA5, hS5⟩ := (unhide HC).safe (m := m) (by60_bs hbs)
          have HA5 := hide hA5
          have HS5 := hide hS5
          clear hA5 hS5 HO
          go_wp2_with fail
          refine (prog_bad (unhide HN) (unhide HS).cm.dead 2 3 0 _ _ _ (fun h => by
            have h2 : (s.next 2 3 : Int) = 0 := h.2.1
            rw [(unhide HS).next] at h2
            omega)).mono ?_
          rintro e w8 ⟨rfl, hN8, hK8⟩
          have HN8 := hide hN8
          have HA8 := hide ((unhide HA5).safe (unhide HS5) hK8)
          have HS8 := hide ((unhide HS5).kn hK8)
          replace HT := hide ((unhide HT).trans (hK8.below.mono hm0))
          have HCM : Hid (Cm 6 8 5 { s with wrong := inc s.wrong }) := (unhide HS).cm.upd _ _ _ _ _
          have HER := hide (unhide HS).era
          clear hN8 hK8 HN HA5 HS5 HC
          go_wp2_with fail
          refine (erase_cm (d := 2) (b := 3) (unhide HN8) (unhide HCM) (by omega) (by omega)).mono ?_
          rintro e w9 ⟨rfl, ⟨L, hL, hN9⟩, hK9⟩
          obtain ⟨q, hq⟩ : ∃ q, L'.n = q := ⟨_, rfl⟩
          rw [hq] at hL ⊢
          clear hq
          subst hL
          have HN9 := hide hN9
          have HA9 := hide ((unhide HA8).safe (unhide HS8) hK9)
          have HS9 := hide ((unhide HS8).kn hK9)
          replace HT := hide ((unhide HT).trans (hK9.below.mono hm0))
          clear hN9 hK9 HN8 HA8 HS8
          go_wp2_with fail
          refine (erases_any (unhide HN9) 2 3).mono ?_
          rintro e w9 ⟨rfl, rfl⟩
          have her : put2 s.era 2 3 (inc (s.era 2 3)) 2 3 = 2 := by rw [put2_same, unhide HER, inc_in (by omega) (by omega)]; rfl
          rw [era_is _ (by exact (unhide HCM).D) (by exact (unhide HCM).B) (by exact her)]
          go_wp2_with fail
          refine (prog_cm (d := 2) (b := 3) (p := 0) (unhide HN9) ((unhide HCM).upd _ _ _ _ _) (by omega) (by omega) (by omega) (put2_same s.next 2 3 0) _ g5 (by60 b) (unhide HA9) (unhide HS9) (by60_len b)).mono ?_
          rintro e w10 ⟨rfl, ⟨L'', hL'', hN10⟩, hK10⟩
          replace HT := hide ((unhide HT).trans (hK10.below.mono hm0))
          clear hN10 hK10 hL''
          go_wp2_with fail
          go_ret
          exact ⟨rfl, unhide HT⟩

end Go.Proofs.Ytnondiaefpdlpaa
