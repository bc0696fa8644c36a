/-
  The walk of NandNoise.
-/
import Derived.Test.YtnondiaefpdlpabCm
import Derived.Test.YtnondiaefpdlpabI6
import Derived.Test.YtnondiaefpdlpabI7
import Derived.Test.YtnondiaefpdlpabF7
import Derived.Test.YtnondiaefpdlpabR6b
namespace Go.Proofs.Ytnondiaefpdlpab
open Go.RowKit Go.Shelf

/-- Flash with noise of one page. -/
structure Noi (s : Nd) (pg : Nat) (zs : List Int) (i : Nat) (x : List Nat) : Prop where
  D : s.D = 6
  B : s.B = 8
  P : s.P = 4
  bad : ∀ d b, s.bad d b = false
  dead : s.dead = false
  left : s.left = 0
  noise : ∀ p, s.noise 1 1 p = if p = pg then zs else []
  next : s.next 1 1 = i
  held : ∀ p, s.held 1 1 p = if p < i then x else ones60
theorem Noi.step {s : Nd} {pg i : Nat} {zs : List Int} {x : List Nat} (h : Noi s pg zs i x) : Noi (s.progd 1 1 i x) pg zs (i + 1) x := by
  refine ⟨h.D, h.B, h.P, h.bad, ?_, ?_, h.noise, put2_same s.next 1 1 (i + 1), fun r => ?_⟩
  · show (s.dead || decide (s.left = 1)) = false
    rw [h.dead, h.left]; rfl
  · show s.left - 1 = 0
    rw [h.left]
  · show put3 s.held 1 1 i (s.mixed ones60 x) 1 1 r = _
    rw [Nd.mixed, if_neg (by rw [h.left]; omega)]
    by_cases e : r = i
    · rw [e, put3_same, if_pos (by omega)]
    · rw [put3_ne _ _ (fun h => e h.2.2), h.held r]
      by_cases e2 : r < i
      · rw [if_pos e2, if_pos (by omega)]
      · rw [if_neg e2, if_neg (by omega)]
theorem Noi.err {s : Nd} {pg i : Nat} {zs : List Int} {x : List Nat} (h : Noi s pg zs i x) : s.err = 0 := by rw [Nd.err, h.left]; rfl
theorem Noi.ops {s : Nd} {pg i : Nat} {zs : List Int} {x : List Nat} (h : Noi s pg zs i x) (ops : Int) : Noi { s with ops } pg zs i x := ⟨h.D, h.B, h.P, h.bad, h.dead, h.left, h.noise, h.next, h.held⟩
theorem Noi.set {s : Nd} {pg i : Nat} {zs : List Int} {x : List Nat} (h : Noi s pg zs i x) (ys : List Int) : Noi { s with noise := put3 s.noise 1 1 pg ys } pg ys i x :=
  ⟨h.D, h.B, h.P, h.bad, h.dead, h.left, fun p => by
    show put3 s.noise 1 1 pg ys 1 1 p = _
    by_cases e : p = pg
    · rw [e, put3_same, if_pos rfl]
    · rw [put3_ne _ _ (fun h => e h.2.2), h.noise, if_neg e, if_neg e], h.next, h.held⟩
theorem read_noi {m : Nat} {w : World} {L : La} {s : Nd} {pg i : Nat} {zs : List Int} {x : List Nat} (h : NA m w L s) (hc : Noi s pg zs i x) {p : Nat} (hp : p < 4) (hpi : p < i) :
    Calls Try.prog 13 #[.pointer (some ⟨L.n, 0, none⟩), .int .i64 1, .int .i64 1, .int .i64 (p : Int)] w fun e w' => ∃ v, e = .returned (.tuple #[v, .int .i64 0]) ∧ Fr w.heap.size w' v (if p = pg then flipZ x zs else x) ∧ NA m w' L { s with ops := inc s.ops } ∧ Kn m w w' := by
  refine (read_good (d := 1) (b := 1) h hc.dead (by rw [hc.D]; omega) (by rw [hc.B]; omega) (hc.bad 1 1) (by rw [hc.P]; exact hp)).mono ?_
  rintro e w1 ⟨v, h1, h2, h3, h4⟩
  rw [hc.held, if_pos hpi, hc.noise] at h2
  refine ⟨v, h1, ?_, h3, h4⟩
  by_cases e : p = pg
  · rw [if_pos e] at h2 ⊢; exact h2
  · rw [if_neg e] at h2 ⊢; exact h2

set_option maxRecDepth 100000 in
set_option maxHeartbeats 8000000 in
theorem noise_walk (u : Value) (ga : Nat) (b : List Nat) (lo : Option Addr) (ll lc gl : Nat) (zs : List Int) (mo : Option Addr) (ml mc gm : Nat) (ms : List Int) (z : Int) (w : World) (hA : Arg w u ga b) (hL : ZArg w (.slice lo ll lc) gl zs) (hM : ZArg w (.slice mo ml mc) gm ms) (hll : (ll : Int) ≤ 9223372036854775807) (hml : (ml : Int) ≤ 9223372036854775807) :
    Calls Try.prog 3 #[u, .slice lo ll lc, .slice mo ml mc, .int .i64 z] w fun e w' => e = .returned (.bool true) ∧ Below w.heap.size w w' := by
  have HA := hide hA
  have HLZ := hide hL
  have HMZ := hide hM
  have hbs := hA.bs
  have HT : Hid (Below w.heap.size w w) := Below.refl _ _
  clear hA hL hM
  by_cases h20 : 20 < ll
  · have h20' : (20 : Int) < (ll : Int) := by omega
    go_enter Try.func3, Try.ntmps3
    go_wp2_with fail
    refine (known_any _).mono ?_
    rintro e w0 ⟨rfl, hk⟩
    replace HT := hide ((unhide HT).trans (hk.mono (unhide HT).size))
    clear hk
    go_wp2_with fail
    go_ret
    exact ⟨rfl, unhide HT⟩
  have h20' : (ll : Int) ≤ 20 := by omega
  by_cases h21 : 20 < ml
  · have h21' : (20 : Int) < (ml : Int) := by omega
    go_enter Try.func3, Try.ntmps3
    go_wp2_with fail
    refine (known_any _).mono ?_
    rintro e w0 ⟨rfl, hk⟩
    replace HT := hide ((unhide HT).trans (hk.mono (unhide HT).size))
    clear hk
    go_wp2_with fail
    go_ret
    exact ⟨rfl, unhide HT⟩
  have h21' : (ml : Int) ≤ 20 := by omega
  go_enter Try.func3, Try.ntmps3
  go_wp2_with fail
  refine (known_any _).mono ?_
  rintro e w0 ⟨rfl, hk⟩
  replace HT := hide ((unhide HT).trans (hk.mono (unhide HT).size))
  clear hk
  go_wp2_with fail
  refine (new_blank 6 8 4 _ ⟨by omega, by omega, by omega⟩).mono ?_
  rintro e w1 ⟨hk, L, rfl, hN⟩
  have hm0 := (unhide HT).size
  replace HT := hide ((unhide HT).trans (hk.mono (unhide HT).size))
  obtain ⟨m, hmm⟩ : ∃ m, w0.heap.size = m := ⟨_, rfl⟩
  rw [hmm] at hN hm0
  obtain ⟨q, hq⟩ : ∃ q, L.n = q := ⟨_, rfl⟩
  rw [hq]
  have HQ := hide hq
  have HN := hide hN
  clear hk hmm hN hq
  go_wp2_with fail
  refine (within7_any _ 4 _ (by omega) (by omega)).mono ?_
  rintro e w1 ⟨rfl, rfl⟩
  obtain ⟨pg, hpg⟩ := Int.eq_ofNat_of_zero_le (Int.emod_nonneg z (show (4 : Int) ≠ 0 by omega))
  have hp4 : pg < 4 := by have := Int.emod_lt_of_pos z (show (0 : Int) < 4 by omega); omega
  rw [hpg]
  clear hpg
  go_wp2_with fail
  refine (bytes7_any _ _ b _ ((unhide HA).below (unhide HT))).mono ?_
  rintro e w3 ⟨v3, rfl, hF3, hk3⟩
  have HC := hide hF3.low
  replace HN := hide ((unhide HN).below hk3)
  replace HT := hide ((unhide HT).trans (hk3.mono (unhide HT).size))
  obtain ⟨vo, vc, rfl⟩ : ∃ o c, v3 = .slice o 60 c := by
    obtain ⟨o, c, h⟩ := hF3.shape
    exact ⟨o, c, by rw [h, by60_len]⟩
  clear hF3 hk3
  have hLq := unhide HQ
  subst hLq
  clear HQ
  go_wp2_with fail
  refine (noise_good (d := 1) (b := 1) (p := pg) (unhide HN) (by show 1 < 6; omega) (by show 1 < 8; omega) (by show pg < 4; omega) _ gl zs ((unhide HLZ).below (unhide HT))).mono ?_
  rintro e w4 ⟨rfl, ⟨L', hL', hN4⟩, hK4⟩
  obtain ⟨q, hq⟩ : ∃ q, L.n = q := ⟨_, rfl⟩
  rw [hq] at hL' ⊢
  clear hq
  subst hL'
  have HN4 := hide hN4
  have HS4 : Hid (Noi { blank 6 8 4 (fun _ _ => false) with noise := put3 (blank 6 8 4 (fun _ _ => false)).noise 1 1 pg zs } pg zs 0 (by60 b)) :=
    (⟨rfl, rfl, rfl, fun _ _ => rfl, rfl, rfl, fun p => by simp [blank], rfl, fun _ => rfl⟩ : Noi (blank 6 8 4 (fun _ _ => false)) pg [] 0 (by60 b)).set zs
  replace HC := hide ((unhide HC).kn hK4)
  replace HT := hide ((unhide HT).trans (hK4.below.mono hm0))
  clear hN4 hK4 HN
  go_wp2_with fail
  refine (noise_bad (unhide HN4) 6 0 0 _ (fun h => by have h1 : (6 : Int) < ((6 : Nat) : Int) := h.1.1.2; omega)).mono ?_
  rintro e w4 ⟨rfl, rfl⟩
  go_wp2_with fail
  refine (noise_bad (unhide HN4) 0 8 0 _ (fun h => by have h1 : (8 : Int) < ((8 : Nat) : Int) := h.1.2.2; omega)).mono ?_
  rintro e w4 ⟨rfl, rfl⟩
  go_wp2_with fail
  refine (noise_bad (unhide HN4) 0 0 4 _ (fun h => by have h1 : (4 : Int) < ((4 : Nat) : Int) := h.2.2; omega)).mono ?_
  rintro e w4 ⟨rfl, rfl⟩
  go_wp2_with fail
  refine (noise_bad (unhide HN4) 0 0 (-1) _ (fun h => by have h1 : (0 : Int) ≤ -1 := h.2.1; omega)).mono ?_
  rintro e w4 ⟨rfl, rfl⟩
  go_wp2_with fail
  refine (Wrong_any (unhide HN4)).mono ?_
  rintro e w4 ⟨rfl, rfl⟩
  simp only [show (blank 6 8 4 (fun _ _ => false)).wrong = 0 from rfl]
  go_wp2_with fail
  refine (Ops_any (unhide HN4)).mono ?_
  rintro e w4 ⟨rfl, rfl⟩
  simp only [show (blank 6 8 4 (fun _ _ => false)).ops = 0 from rfl]
  obtain ⟨q, hq⟩ : ∃ q, L'.n = q := ⟨_, rfl⟩
  rw [hq]
  have HQ := hide hq
  clear hq
  go_wp2_with fail
  go_loopw [12] (fun q12 wr => ∃ (i : Nat) (L : La) (s : Nd), q12 = .int .i64 i ∧ i ≤ 4 ∧ Hid (L.n = q) ∧ Hid (NA m wr L s) ∧ Hid (Noi s pg zs i (by60 b)) ∧ Hid (Fr 0 wr (.slice vo 60 vc) (by60 b)) ∧ Hid (Below w.heap.size w wr)) (fun q12 _ => 4 - (intOf q12).toNat)
  case atStart => exact ⟨0, L', _, rfl, by omega, HQ, HN4, HS4, HC, HT⟩
  case round =>
    clear HN4 HC HT HQ HS4
    obtain ⟨i, L, s, rfl, hi, HQ, HN, HS, HC, HT⟩ := hrel
    have hLq := unhide HQ
    subst hLq
    by_cases hlt : i < 4
    · have hi1 : (i : Int) < 4 := by omega
      obtain ⟨g5, hA5, hS5⟩ := (unhide HC).safe (m := m) (by60_bs hbs)
      have HA5 := hide hA5
      have HS5 := hide hS5
      clear hA5 hS5
      go_wp2_with fail
      refine (prog_good (d := 1) (b := 1) (p := i) (unhide HN) (unhide HS).dead (by rw [(unhide HS).D]; omega) (by rw [(unhide HS).B]; omega) ((unhide HS).bad 1 1) (by rw [(unhide HS).P]; omega) (unhide HS).next _ g5 (by60 b) (unhide HA5) (unhide HS5) (by60_len b)).mono ?_
      rintro e w6 ⟨rfl, ⟨L', hL', hN6⟩, hK6⟩
      rw [(unhide HS).err]
      have HN6 := hide hN6
      have HL6 := hide hL'
      have HC6 := hide ((unhide HC).kn hK6)
      have HT6 := hide ((unhide HT).trans (hK6.below.mono hm0))
      have HO6 := hide (unhide HS).step
      clear hN6 hL' hK6 HA5 HS5 HC HT
      go_wp2_with fail
      go_roundw
      case rel => exact ⟨i + 1, L', _, by go_num, by omega, HL6, HN6, HO6, HC6, HT6⟩
      case measure => simp [intOf]; omega
    · obtain rfl : i = 4 := by omega
      clear HQ
      rw [show ((4 : Nat) : Int) = 4 from rfl]
      go_wp2_with fail
      go_loopw [13] (fun q13 wr => ∃ (j : Nat) (s : Nd), q13 = .int .i64 j ∧ j ≤ 4 ∧ Hid (NA m wr L s) ∧ Hid (Noi s pg zs 4 (by60 b)) ∧ Hid (Fr 0 wr (.slice vo 60 vc) (by60 b)) ∧ Hid (Below w.heap.size w wr)) (fun q13 _ => 4 - (intOf q13).toNat)
      case atStart => exact ⟨0, s, rfl, by omega, HN, HS, HC, HT⟩
      case round =>
        clear HN HS HC HT
        obtain ⟨j, s, rfl, hj, HN, HS, HC, HT⟩ := hrel
        by_cases hj4 : j < 4
        · have hj1 : (j : Int) < 4 := by omega
          go_wp2_with fail
          refine (read_noi (p := j) (unhide HN) (unhide HS) hj4 hj4).mono ?_
          rintro e w8 ⟨v8, rfl, hF8, hN8, hK8⟩
          have HN8 := hide hN8
          have HS8 := hide ((unhide HS).ops (inc s.ops))
          have HC8 := hide ((unhide HC).kn hK8)
          have HT8 := hide ((unhide HT).trans (hK8.below.mono hm0))
          clear hN8 hK8 HN HC HT HS
          by_cases hji : j = pg
          · rw [if_pos hji] at hF8
            have hji1 : ((j : Int) == (pg : Int)) = true := by rw [beq_iff_eq]; omega
            have hxl : (flipZ (by60 b) zs).length = 60 := by rw [flipZ_len, by60_len]
            have hxb : Bs (flipZ (by60 b) zs) := flipZ_bs (by60_bs hbs) zs
            obtain ⟨o8, c8, rfl⟩ : ∃ o c, v8 = .slice o 60 c := by
              obtain ⟨o, c, h⟩ := hF8.shape
              exact ⟨o, c, by rw [h, hxl]⟩
            have HF8 := hide hF8
            obtain ⟨g1, hA1, _⟩ := (unhide HC8).arg (by60_bs hbs)
            have HA1 := hide hA1
            have HXL := hide hxl
            clear hF8 hA1 hxl
            go_wp2_with fail
            refine (rflip_any _ _ g1 gl (by60 b) zs _ (unhide HA1) ((unhide HLZ).below (unhide HT8)) (by rw [by60_len]; omega)).mono ?_
            rintro e w9 ⟨v9, rfl, hF9, hk9⟩
            obtain ⟨o9, c9, rfl⟩ : ∃ o c, v9 = .slice o 60 c := by
              obtain ⟨o, c, h⟩ := hF9.shape
              exact ⟨o, c, by rw [h, unhide HXL]⟩
            obtain ⟨g3, hA3, _⟩ := hF9.arg hxb
            obtain ⟨g4, hA4, _⟩ := ((unhide HF8).below hk9 (Nat.le_refl _)).arg hxb
            have hcv1 := conv_arg hA3
            have hcv2 := conv_arg hA4
            replace HN8 := hide ((unhide HN8).below hk9)
            replace HC8 := hide ((unhide HC8).below hk9 (Nat.le_refl _))
            replace HT8 := hide ((unhide HT8).trans (hk9.mono (unhide HT8).size))
            clear hF9 hk9 hA3 hA4 HA1 HF8
            obtain ⟨st, hst⟩ : ∃ st, strOf (ints (flipZ (by60 b) zs)) = st := ⟨_, rfl⟩
            rw [hst] at hcv1 hcv2
            clear hst
            go_wp2_with fail
            go_roundw
            case rel => exact ⟨j + 1, _, by go_num, by omega, HN8, HS8, HC8, HT8⟩
            case measure => simp [intOf]; omega
          · rw [if_neg hji] at hF8
            have hji1 : ((j : Int) == (pg : Int)) = false := by rw [beq_eq_false_iff_ne]; omega
            obtain ⟨o8, c8, rfl⟩ : ∃ o c, v8 = .slice o 60 c := by
              obtain ⟨o, c, h⟩ := hF8.shape
              exact ⟨o, c, by rw [h, by60_len]⟩
            obtain ⟨g3, hA3, _⟩ := hF8.arg (by60_bs hbs)
            obtain ⟨g4, hA4, _⟩ := (unhide HC8).arg (by60_bs hbs)
            have hcv1 := conv_arg hA3
            have hcv2 := conv_arg hA4
            obtain ⟨st, hst⟩ : ∃ st, strOf (ints (by60 b)) = st := ⟨_, rfl⟩
            rw [hst] at hcv1 hcv2
            clear hst hA3 hA4 hF8
            go_wp2_with fail
            go_roundw
            case rel => exact ⟨j + 1, _, by go_num, by omega, HN8, HS8, HC8, HT8⟩
            case measure => simp [intOf]; omega
        · obtain rfl : j = 4 := by omega
          go_wp2_with fail
          refine (noise_good (d := 1) (b := 1) (p := pg) (unhide HN) (by rw [(unhide HS).D]; omega) (by rw [(unhide HS).B]; omega) (by rw [(unhide HS).P]; omega) _ gm ms ((unhide HMZ).below (unhide HT))).mono ?_
          rintro e w4 ⟨rfl, ⟨L', hL', hN4⟩, hK4⟩
          obtain ⟨q, hq⟩ : ∃ q, L.n = q := ⟨_, rfl⟩
          rw [hq] at hL' ⊢
          clear hq
          subst hL'
          have HN4 := hide hN4
          have HS4 := hide ((unhide HS).set ms)
          replace HC := hide ((unhide HC).kn hK4)
          replace HT := hide ((unhide HT).trans (hK4.below.mono hm0))
          clear hN4 hK4 HN HS
          go_wp2_with fail
          refine (read_noi (p := pg) (unhide HN4) (unhide HS4) hp4 hp4).mono ?_
          rintro e w5 ⟨v5, rfl, hF5, hN5, hK5⟩
          rw [if_pos rfl] at hF5
          have HF5 := hide hF5
          have HN5 := hide hN5
          have HS5 := hide ((unhide HS4).ops (inc s.ops))
          replace HC := hide ((unhide HC).kn hK5)
          replace HT := hide ((unhide HT).trans (hK5.below.mono hm0))
          obtain ⟨o5, c5, rfl⟩ : ∃ o c, v5 = .slice o 60 c := by
            obtain ⟨o, c, h⟩ := hF5.shape
            exact ⟨o, c, by rw [h, flipZ_len, by60_len]⟩
          have HZN : Hid (∀ W : World, ZArg W (.slice none 0 0) 0 []) := fun W => ⟨⟨none, 0, rfl, by simp, by simp, fun _ => rfl, .inl rfl⟩, by simp⟩
          clear hF5 hN5 hK5 HN4 HS4
          go_wp2_with fail
          refine (noise_good (d := 1) (b := 1) (p := pg) (unhide HN5) (by rw [(unhide HS5).D]; omega) (by rw [(unhide HS5).B]; omega) (by rw [(unhide HS5).P]; omega) _ 0 [] (unhide HZN _)).mono ?_
          rintro e w6 ⟨rfl, ⟨L, hL, hN6⟩, hK6⟩
          obtain ⟨q, hq⟩ : ∃ q, L'.n = q := ⟨_, rfl⟩
          rw [hq] at hL ⊢
          clear hq
          subst hL
          have HN6 := hide hN6
          have HS6 := hide ((unhide HS5).set [])
          replace HC := hide ((unhide HC).kn hK6)
          replace HF5 := hide ((unhide HF5).kn hK6)
          replace HT := hide ((unhide HT).trans (hK6.below.mono hm0))
          clear hN6 hK6 HN5 HS5
          go_wp2_with fail
          refine (read_noi (p := pg) (unhide HN6) (unhide HS6) hp4 hp4).mono ?_
          rintro e w9 ⟨v7, rfl, hF7, hN7, hK7⟩
          rw [if_pos rfl] at hF7
          have hF7' : Fr w6.heap.size w9 v7 (by60 b) := hF7
          obtain ⟨o7, c7, rfl⟩ : ∃ o c, v7 = .slice o 60 c := by
            obtain ⟨o, c, h⟩ := hF7'.shape
            exact ⟨o, c, by rw [h, by60_len]⟩
          obtain ⟨g7, hA7, _⟩ := hF7'.arg (by60_bs hbs)
          obtain ⟨g8, hA8, _⟩ := ((unhide HF5).kn hK7).arg (flipZ_bs (by60_bs hbs) ms)
          obtain ⟨g9, hA9, _⟩ := ((unhide HC).kn hK7).arg (by60_bs hbs)
          have H17 := hide hA8
          have H19 := hide hA7
          have H11 := hide hA9
          replace HT := hide ((unhide HT).trans (hK7.below.mono hm0))
          replace HMZ := hide ((unhide HMZ).below (unhide HT))
          clear hF7 hF7' hN7 hK7 HN6 HS6 HF5 HC hA7 hA8 hA9 HZN
          go_wp2_with fail
          replace HT := hide ((unhide HT).drew)
          replace H17 := hide ((unhide H17).below (Below.refl _ _).drew)
          replace H19 := hide ((unhide H19).below (Below.refl _ _).drew)
          replace H11 := hide ((unhide H11).below (Below.refl _ _).drew)
          replace HMZ := hide ((unhide HMZ).below (Below.refl _ _).drew)
          refine wp_region_noPanic ?_
          refine wp_region_held_drew (S := fun W => Below w9.drew.heap.size w9.drew W) (by kernel_rfl) (Below.refl _ _) (fun hHeld => ?_)
          have HH := hide hHeld
          clear hHeld
          generalize w9.drew = w31 at HT H17 H19 H11 HMZ HH ⊢
          refine takeL (i := 0) (v := ?_) rfl (by kernel_rfl) (by kernel_rfl) (by kernel_rfl) (fun _ _ _ h => h) (Or.inl ⟨by rfl, ?_⟩) (unhide HH) ?_
          rotate_left 1
          · intro W hSW; go_simp; all_goals (with_reducible rfl)
          (try simp only [Act.put, List.setIfInBounds_toArray, List.set_cons_zero, List.set_cons_succ])
          refine takeL (i := 1) (v := ?_) rfl (by kernel_rfl) (by kernel_rfl) (by kernel_rfl) (fun _ _ _ h => h) (Or.inl ⟨by rfl, ?_⟩) (unhide HH) ?_
          rotate_left 1
          · intro W hSW; go_simp; all_goals (with_reducible rfl)
          (try simp only [Act.put, List.setIfInBounds_toArray, List.set_cons_zero, List.set_cons_succ])
          refine takeL (i := 2) (v := ?_) rfl (by kernel_rfl) (by kernel_rfl) (by kernel_rfl) (fun _ _ _ h => h) (Or.inl ⟨by rfl, ?_⟩) (unhide HH) ?_
          rotate_left 1
          · intro W hSW; go_simp; all_goals (with_reducible rfl)
          (try simp only [Act.put, List.setIfInBounds_toArray, List.set_cons_zero, List.set_cons_succ])
          refine takeL (i := 3) (v := ?_) rfl (by kernel_rfl) (by kernel_rfl) (by kernel_rfl) (fun _ _ _ h => h) (Or.inl ⟨by rfl, ?_⟩) (unhide HH) ?_
          rotate_left 1
          · intro W hSW; go_simp; all_goals (with_reducible rfl)
          (try simp only [Act.put, List.setIfInBounds_toArray, List.set_cons_zero, List.set_cons_succ])
          refine takeL (i := 4) (v := ?_) rfl (by kernel_rfl) (by kernel_rfl) (by kernel_rfl) (fun _ _ _ h => h) (Or.inl ⟨by rfl, ?_⟩) (unhide HH) ?_
          rotate_left 1
          · intro W hSW; go_simp; all_goals (with_reducible rfl)
          (try simp only [Act.put, List.setIfInBounds_toArray, List.set_cons_zero, List.set_cons_succ])
          refine takeL (i := 5) (v := ?_) rfl (by kernel_rfl) (by kernel_rfl) (by kernel_rfl) (fun _ _ _ h => h) (Or.inl ⟨by rfl, ?_⟩) (unhide HH) ?_
          rotate_left 1
          · intro W hSW; go_simp; all_goals (with_reducible rfl)
          (try simp only [Act.put, List.setIfInBounds_toArray, List.set_cons_zero, List.set_cons_succ])
          refine takeL (i := 6) (v := ?_) rfl (by kernel_rfl) (by kernel_rfl) (by kernel_rfl) (fun _ _ _ h => h) (Or.inl ⟨by rfl, ?_⟩) (unhide HH) ?_
          rotate_left 1
          · intro W hSW; go_simp; all_goals (with_reducible rfl)
          (try simp only [Act.put, List.setIfInBounds_toArray, List.set_cons_zero, List.set_cons_succ])
          refine takeL (i := 7) (v := ?_) rfl (by kernel_rfl) (by kernel_rfl) (by kernel_rfl) (fun _ _ _ h => h) (Or.inl ⟨by rfl, ?_⟩) (unhide HH) ?_
          rotate_left 1
          · intro W hSW; go_simp; all_goals (with_reducible rfl)
          (try simp only [Act.put, List.setIfInBounds_toArray, List.set_cons_zero, List.set_cons_succ])
          refine takeL (i := 8) (v := ?_) rfl (by kernel_rfl) (by kernel_rfl) (by kernel_rfl) (fun _ _ _ h => h) (Or.inl ⟨by rfl, ?_⟩) (unhide HH) ?_
          rotate_left 1
          · intro W1 hSW; have hcv := conv_arg ((unhide H17).below hSW); clear hSW; go_simp; all_goals (with_reducible rfl)
          (try simp only [Act.put, List.setIfInBounds_toArray, List.set_cons_zero, List.set_cons_succ])
          refine takeL (i := 9) (v := ?_) rfl (by kernel_rfl) (by kernel_rfl) (by kernel_rfl) (fun _ _ _ h => h) (Or.inl ⟨by rfl, ?_⟩) (unhide HH) ?_
          rotate_left 1
          · intro W hSW; go_simp; all_goals (with_reducible rfl)
          (try simp only [Act.put, List.setIfInBounds_toArray, List.set_cons_zero, List.set_cons_succ])
          refine takeL (i := 10) (v := ?_) rfl (by kernel_rfl) (by kernel_rfl) (by kernel_rfl) (fun _ _ _ h => h) (Or.inl ⟨by rfl, ?_⟩) (unhide HH) ?_
          rotate_left 1
          · intro W hSW; go_simp; all_goals (with_reducible rfl)
          (try simp only [Act.put, List.setIfInBounds_toArray, List.set_cons_zero, List.set_cons_succ])
          refine wpAnyH_ready (rs := [11]) (by kernel_rfl) (by simp) ?_
          refine consL rfl (fun K hK => ?_) AllReadyH.nil
          go_simp
          refine (rflip_any _ _ _ _ (by60 b) (ms) _ (unhide H11) (unhide HMZ) (by rw [by60_len]; omega)).mono ?_
          rintro e w32 ⟨v32, rfl, hF, hk⟩
          replace H17 := hide ((unhide H17).below hk)
          replace H19 := hide ((unhide H19).below hk)
          replace H11 := hide ((unhide H11).below hk)
          replace HMZ := hide ((unhide HMZ).below hk)
          replace HT := hide ((unhide HT).trans (hk.mono (unhide HT).size))
          obtain ⟨g32, hA, hge⟩ := hF.arg (flipZ_bs (by60_bs hbs) ms)
          obtain ⟨⟨ao32, c32, rfl, h1, h2, h3, h4⟩, _⟩ := hA
          have HA32 : Hid (Arg w32 (.slice ao32 60 c32) g32 (flipZ (by60 b) (ms))) := ⟨⟨ao32, c32, by rw [((flipZ_len (by60 b) ms).trans (by60_len b))], h1, h2, h3, h4⟩, (flipZ_bs (by60_bs hbs) ms)⟩
          rw [show (flipZ (by60 b) (ms)).length = 60 from ((flipZ_len (by60 b) ms).trans (by60_len b))]
          clear h1 h2 h3 h4 hF hge
          go_wp2_with fail
          refine hK.out _ _ hk (fun hHeld => ?_)
          clear hK K HH hHeld
          (try simp only [Act.put, List.setIfInBounds_toArray, List.set_cons_zero, List.set_cons_succ])
          refine stronger (S' := fun W => Below w32.heap.size w32 W) (fun W h => hk.trans (h.mono hk.size)) _ _ _ _ ?_
          have HH : Hid (Below w32.heap.size w32 w32) := Below.refl _ _
          clear hk
          refine takeL (i := 12) (v := ?_) rfl (by kernel_rfl) (by kernel_rfl) (by kernel_rfl) (fun _ _ _ h => h) (Or.inl ⟨by rfl, ?_⟩) (unhide HH) ?_
          rotate_left 1
          · intro W1 hSW; have hcv := conv_arg ((unhide HA32).below hSW); clear hSW; go_simp; all_goals (with_reducible rfl)
          (try simp only [Act.put, List.setIfInBounds_toArray, List.set_cons_zero, List.set_cons_succ])
          refine takeL (i := 13) (v := ?_) rfl (by kernel_rfl) (by kernel_rfl) (by kernel_rfl) (fun _ _ _ h => h) (Or.inl ⟨by rfl, ?_⟩) (unhide HH) ?_
          rotate_left 1
          · intro W hSW; go_simp; all_goals (with_reducible rfl)
          (try simp only [Act.put, List.setIfInBounds_toArray, List.set_cons_zero, List.set_cons_succ])
          refine takeL (i := 14) (v := ?_) rfl (by kernel_rfl) (by kernel_rfl) (by kernel_rfl) (fun _ _ _ h => h) (Or.inl ⟨by rfl, ?_⟩) (unhide HH) ?_
          rotate_left 1
          · intro W hSW; go_simp; all_goals (with_reducible rfl)
          (try simp only [Act.put, List.setIfInBounds_toArray, List.set_cons_zero, List.set_cons_succ])
          refine takeL (i := 15) (v := ?_) rfl (by kernel_rfl) (by kernel_rfl) (by kernel_rfl) (fun _ _ _ h => h) (Or.inl ⟨by rfl, ?_⟩) (unhide HH) ?_
          rotate_left 1
          · intro W hSW; go_simp; all_goals (with_reducible rfl)
          (try simp only [Act.put, List.setIfInBounds_toArray, List.set_cons_zero, List.set_cons_succ])
          refine takeL (i := 16) (v := ?_) rfl (by kernel_rfl) (by kernel_rfl) (by kernel_rfl) (fun _ _ _ h => h) (Or.inl ⟨by rfl, ?_⟩) (unhide HH) ?_
          rotate_left 1
          · intro W hSW; go_simp; all_goals (with_reducible rfl)
          (try simp only [Act.put, List.setIfInBounds_toArray, List.set_cons_zero, List.set_cons_succ])
          refine takeL (i := 17) (v := ?_) rfl (by kernel_rfl) (by kernel_rfl) (by kernel_rfl) (fun _ _ _ h => h) (Or.inl ⟨by rfl, ?_⟩) (unhide HH) ?_
          rotate_left 1
          · intro W1 hSW; have hcv := conv_arg ((unhide H19).below hSW); clear hSW; go_simp; all_goals (with_reducible rfl)
          (try simp only [Act.put, List.setIfInBounds_toArray, List.set_cons_zero, List.set_cons_succ])
          refine takeL (i := 18) (v := ?_) rfl (by kernel_rfl) (by kernel_rfl) (by kernel_rfl) (fun _ _ _ h => h) (Or.inl ⟨by rfl, ?_⟩) (unhide HH) ?_
          rotate_left 1
          · intro W hSW; go_simp; all_goals (with_reducible rfl)
          (try simp only [Act.put, List.setIfInBounds_toArray, List.set_cons_zero, List.set_cons_succ])
          refine takeL (i := 19) (v := ?_) rfl (by kernel_rfl) (by kernel_rfl) (by kernel_rfl) (fun _ _ _ h => h) (Or.inl ⟨by rfl, ?_⟩) (unhide HH) ?_
          rotate_left 1
          · intro W1 hSW; have hcv := conv_arg ((unhide H11).below hSW); clear hSW; go_simp; all_goals (with_reducible rfl)
          (try simp only [Act.put, List.setIfInBounds_toArray, List.set_cons_zero, List.set_cons_succ])
          refine takeL (i := 20) (v := ?_) rfl (by kernel_rfl) (by kernel_rfl) (by kernel_rfl) (fun _ _ _ h => h) (Or.inl ⟨by rfl, ?_⟩) (unhide HH) ?_
          rotate_left 1
          · intro W hSW; go_simp; all_goals (with_reducible rfl)
          (try simp only [Act.put, List.setIfInBounds_toArray, List.set_cons_zero, List.set_cons_succ])
          refine takeL (i := 21) (v := ?_) rfl (by kernel_rfl) (by kernel_rfl) (by kernel_rfl) (fun _ _ _ h => h) (Or.inl ⟨by rfl, ?_⟩) (unhide HH) ?_
          rotate_left 1
          · intro W hSW; go_simp; all_goals (with_reducible rfl)
          (try simp only [Act.put, List.setIfInBounds_toArray, List.set_cons_zero, List.set_cons_succ])
          refine takeL (i := 22) (v := ?_) rfl (by kernel_rfl) (by kernel_rfl) (by kernel_rfl) (fun _ _ _ h => h) (Or.inl ⟨by rfl, ?_⟩) (unhide HH) ?_
          rotate_left 1
          · intro W hSW; go_simp; all_goals (with_reducible rfl)
          (try simp only [Act.put, List.setIfInBounds_toArray, List.set_cons_zero, List.set_cons_succ])
          refine wpAnyH_done (by kernel_rfl) ?_ _
          refine NoPanic.normal ?_
          go_wp2
          go_ret
          exact ⟨rfl, unhide HT⟩

end Go.Proofs.Ytnondiaefpdlpab
