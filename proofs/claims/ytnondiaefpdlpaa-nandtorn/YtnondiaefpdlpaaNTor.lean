/-
  The walk of NandTorn.
-/
import Derived.Test.YtnondiaefpdlpaaCm
import Derived.Test.YtnondiaefpdlpaaI6
import Derived.Test.YtnondiaefpdlpaaF7
namespace Go.Proofs.Ytnondiaefpdlpaa
open Go.RowKit Go.Shelf

/-- Flash in which pages of one block are programmed, till the power goes. -/
structure Tor (s : Nd) (K i : Nat) (x mask : List Nat) : Prop where
  D : s.D = 6
  B : s.B = 8
  P : s.P = 8
  bad : ∀ d b, s.bad d b = false
  noise : ∀ d b p, s.noise d b p = []
  next : s.next 0 0 = i
  live : i < K → s.dead = false ∧ s.left = K - i ∧ s.mask = mask
  gone : i = K → s.dead = true ∧ s.held 0 0 (K - 1) = mixL ones60 x mask
theorem Tor.step {s : Nd} {K i : Nat} {x mask : List Nat} (h : Tor s K i x mask) (hi : i < K) : Tor (s.progd 0 0 i x) K (i + 1) x mask := by
  obtain ⟨h1, h2, h3⟩ := h.live hi
  refine ⟨h.D, h.B, h.P, h.bad, h.noise, put2_same s.next 0 0 (i + 1), fun hlt => ⟨?_, ?_, h3⟩, fun he => ⟨?_, ?_⟩⟩
  · show (s.dead || decide (s.left = 1)) = false
    rw [h1, h2, decide_eq_false (by omega)]; rfl
  · show s.left - 1 = K - (i + 1)
    omega
  · show (s.dead || decide (s.left = 1)) = true
    rw [h2, decide_eq_true (by omega), Bool.or_true]
  · show put3 s.held 0 0 i (s.mixed ones60 x) 0 0 (K - 1) = _
    rw [show K - 1 = i from by omega, put3_same, Nd.mixed, if_pos (by omega), h3]
/-- The power is there again. -/
theorem mx_all_zero (x y : Nat) : mx 0 x y = x := by simp [mx]
theorem cf_torn {x mask : List Nat} (hx : x.length = 60) {i : Nat} (hi : i < 60) : cf (mixL ones60 x mask) i = mx (if mask = [] then 0 else cf mask (i % mask.length)) 255 (cf x i) := by
  have hl : ones60.length = x.length := by rw [ones60_len, hx]
  rw [mixL, if_pos hl]
  have h255 : cf ones60 i = 255 := cf_rep 255 hi
  by_cases hm : mask = []
  · rw [if_pos hm, mixF, if_pos hm, mx_all_zero, h255]
  · rw [if_neg hm, cf_mixF (by rw [ones60_len]; exact hi) hm, h255]; rfl

set_option maxRecDepth 100000 in
set_option maxHeartbeats 8000000 in
theorem torn_walk (u : Value) (ga : Nat) (b : List Nat) (um : Value) (gm : Nat) (mask : List Nat) (z : Int) (w : World) (hA : Arg w u ga b) (hM : Arg w um gm mask) :
    Calls Try.prog 6 #[u, um, .int .i64 z] w fun e w' => e = .returned (.bool true) ∧ Below w.heap.size w w' := by
  have HA := hide hA
  have HM := hide hM
  have hbs := hA.bs
  have hbm := hM.bs
  have HGM : Hid (mask ≠ [] → gm < w.heap.size) := fun hne => by
    obtain ⟨ao, c, _, _, _, _, h5⟩ := hM.ex
    exact h5.block_lt hne
  obtain ⟨mo, mc, rfl, hmc1, hmc2, hmn, hmr⟩ := hM.ex
  have HMR := hide hmr
  obtain ⟨ml, hml⟩ : ∃ n, mask.length = n := ⟨_, rfl⟩
  have HML := hide hml
  rw [hml] at HM hmc1 ⊢
  have HT : Hid (Below w.heap.size w w) := Below.refl _ _
  clear hA hM hml hmn hmr
  have hml1 : (ml : Int) ≤ 9223372036854775807 := by unfold maxLen at hmc2; omega
  by_cases h60 : 60 < ml
  · have h60' : (60 : Int) < (ml : Int) := by omega
    go_enter Try.func6, Try.ntmps6
    go_wp2_with fail
    refine (known_any _).mono ?_
    rintro e w0 ⟨rfl, hk⟩
    replace HT := hide ((unhide HT).trans (hk.mono (unhide HT).size))
    clear hk
    go_wp2_with fail
    go_ret
    exact ⟨rfl, unhide HT⟩
  have h60' : (ml : Int) ≤ 60 := by omega
  go_enter Try.func6, Try.ntmps6
  go_wp2_with fail
  refine (known_any _).mono ?_
  rintro e w0 ⟨rfl, hk⟩
  replace HT := hide ((unhide HT).trans (hk.mono (unhide HT).size))
  clear hk
  go_wp2_with fail
  refine (new_blank 6 8 8 _ ⟨by omega, by omega, by omega⟩).mono ?_
  rintro e w1 ⟨hk, L, rfl, hN⟩
  have hm0 := (unhide HT).size
  replace HT := hide ((unhide HT).trans (hk.mono (unhide HT).size))
  obtain ⟨m, hmm⟩ : ∃ m, w0.heap.size = m := ⟨_, rfl⟩
  rw [hmm] at hN hm0
  obtain ⟨q, hq⟩ : ∃ q, L.n = q := ⟨_, rfl⟩
  rw [hq]
  have HQ := hide hq
  have HN := hide hN
  clear hk hmm hN hq
  go_wp2_with fail
  refine (within7_any _ 8 _ (by omega) (by omega)).mono ?_
  rintro e w1 ⟨rfl, rfl⟩
  have hp0 : 0 ≤ z % 8 := Int.emod_nonneg _ (by omega)
  have hp1 : z % 8 < 8 := Int.emod_lt_of_pos _ (by omega)
  obtain ⟨k, hk⟩ := Int.eq_ofNat_of_zero_le hp0
  rw [hk] at hp0 hp1 ⊢
  clear hk
  obtain ⟨K, hK⟩ : ∃ K : Nat, (1 : Int) + (k : Int) = (K : Int) := ⟨1 + k, by omega⟩
  have hK1 : 1 ≤ K := by omega
  have hK8 : K ≤ 8 := by omega
  go_wp2_with fail
  clear hK hp0 hp1
  have hLq := unhide HQ
  subst hLq
  refine (stop_any (unhide HN) (K : Int) (by omega) _ gm mask ((unhide HM).below (unhide HT)) (fun hne => .inl (Nat.lt_of_lt_of_le (unhide HGM hne) hm0))).mono ?_
  rintro e w2 ⟨⟨vv, rfl⟩, ⟨L', hL', hN2⟩, hK2⟩
  obtain ⟨q, hq⟩ : ∃ q, L.n = q := ⟨_, rfl⟩
  rw [hq] at hL' ⊢
  have HL := hide hL'
  have HN2 := hide hN2
  replace HT := hide ((unhide HT).trans (hK2.below.mono hm0))
  have HS2 : Hid (Tor { blank 6 8 8 (fun _ _ => false) with left := ((K : Int)).toNat, mask } K 0 (by60 b) mask) :=
    ⟨rfl, rfl, rfl, fun _ _ => rfl, fun _ _ _ => rfl, rfl, fun _ => ⟨rfl, by simp, rfl⟩, fun h => by omega⟩
  clear hL' hN2 hK2 hq HN HQ
  go_wp2_with fail
  refine (bytes7_any _ _ b _ ((unhide HA).below (unhide HT))).mono ?_
  rintro e w3 ⟨v3, rfl, hF3, hk3⟩
  have HC := hide hF3.low
  replace HN2 := hide ((unhide HN2).below hk3)
  replace HT := hide ((unhide HT).trans (hk3.mono (unhide HT).size))
  obtain ⟨vo, vc, rfl⟩ : ∃ o c, v3 = .slice o 60 c := by
    obtain ⟨o, c, h⟩ := hF3.shape
    exact ⟨o, c, by rw [h, by60_len]⟩
  clear hF3 hk3
  go_wp2_with fail
  go_loopw [10] (fun q10 wr => ∃ (i : Nat) (L : La) (s : Nd), q10 = .int .i64 i ∧ i ≤ K ∧ Hid (L.n = q) ∧ Hid (NA m wr L s) ∧ Hid (Tor s K i (by60 b) mask) ∧ Hid (Fr 0 wr (.slice vo 60 vc) (by60 b)) ∧ Hid (Below w.heap.size w wr)) (fun q10 _ => K - (intOf q10).toNat)
  case atStart => exact ⟨0, L', _, rfl, by omega, HL, HN2, HS2, HC, HT⟩
  case round =>
    clear HN2 HS2 HC HT HL
    obtain ⟨i, L, s, rfl, hi, HQ, HN, HS, HC, HT⟩ := hrel
    have hLq := unhide HQ
    subst hLq
    by_cases hlt : i < K
    · have hi1 : (i : Int) < (K : Int) := by omega
      obtain ⟨hd0, hl0, hm1⟩ := (unhide HS).live hlt
      obtain ⟨g5, hA5, hS5⟩ := (unhide HC).safe (m := m) (by60_bs hbs)
      have HA5 := hide hA5
      have HS5 := hide hS5
      have HD0 := hide hd0
      clear hA5 hS5 hm1 hd0
      go_wp2_with fail
      refine (prog_good (d := 0) (b := 0) (p := i) (unhide HN) (unhide HD0) (by rw [(unhide HS).D]; omega) (by rw [(unhide HS).B]; omega) ((unhide HS).bad 0 0) (by rw [(unhide HS).P]; omega) (unhide HS).next _ g5 (by60 b) (unhide HA5) (unhide HS5) (by60_len b)).mono ?_
      rintro e w6 ⟨rfl, ⟨L', hL', hN6⟩, hK6⟩
      have HN6 := hide hN6
      have HL6 := hide hL'
      have HC6 := hide ((unhide HC).kn hK6)
      have HT6 := hide ((unhide HT).trans (hK6.below.mono hm0))
      have HO6 := hide ((unhide HS).step hlt)
      clear hN6 hL' hK6 HA5 HS5 HC HT
      by_cases hlast : i + 1 = K
      · have herr : s.err = 8 := by rw [Nd.err, if_pos (by omega)]
        rw [herr]
        have hge : (K : Int) ≤ (i : Int) + 1 := by omega
        clear herr hl0
        go_wp2_with fail
        go_roundw
        case rel => exact ⟨i + 1, L', _, by go_num, by omega, HL6, HN6, HO6, HC6, HT6⟩
        case measure => simp [intOf]; omega
      · have herr : s.err = 0 := by rw [Nd.err, if_neg (by omega)]
        rw [herr]
        have hge : (i : Int) + 1 < (K : Int) := by omega
        clear herr hl0
        go_wp2_with fail
        go_roundw
        case rel => exact ⟨i + 1, L', _, by go_num, by omega, HL6, HN6, HO6, HC6, HT6⟩
        case measure => simp [intOf]; omega
    · obtain rfl : i = K := by omega
      obtain ⟨hdd, hheld⟩ := (unhide HS).gone rfl
      have HD := hide hdd
      have HH0 := hide hheld
      clear hdd hheld
      go_wp2_with fail
      refine (read_dead (unhide HN) (unhide HD) _ _ _).mono ?_
      rintro e wr ⟨rfl, rfl⟩
      go_wp2_with fail
      refine (erase_dead (unhide HN) (unhide HD) _ _).mono ?_
      rintro e wr ⟨rfl, rfl⟩
      go_wp2_with fail
      refine (Dead_any (unhide HN)).mono ?_
      rintro e wr ⟨rfl, rfl⟩
      rw [unhide HD]
      go_wp2_with fail
      refine (power_any (unhide HN)).mono ?_
      rintro e w6 ⟨⟨vv, rfl⟩, ⟨L', hL', hN6⟩, hK6⟩
      obtain ⟨q, hq⟩ : ∃ q, L.n = q := ⟨_, rfl⟩
      rw [hq] at hL' ⊢
      clear hq
      subst hL'
      have HN6 := hide hN6
      have HC6 := hide ((unhide HC).kn hK6)
      have HT6 := hide ((unhide HT).trans (hK6.below.mono hm0))
      have HCM : Hid (Cm 6 8 8 { s with dead := false, left := 0 }) := ⟨(unhide HS).D, (unhide HS).B, (unhide HS).P, (unhide HS).bad, rfl, rfl, (unhide HS).noise⟩
      have HNX := hide (unhide HS).next
      clear hN6 hK6 HC HT HN HD HS HQ
      obtain ⟨j, hj⟩ : ∃ j, i = j + 1 := ⟨i - 1, by omega⟩
      subst hj
      rw [show j + 1 - 1 = j from rfl] at HH0
      have hjj : ((j + 1 : Nat) : Int) - 1 = (j : Int) := by omega
      go_wp2_with fail
      refine (read_cm (d := 0) (b := 0) (p := j) (unhide HN6) (unhide HCM) (by omega) (by omega) (by omega)).mono ?_
      rintro e w7 ⟨v7, rfl, hF7, hN7, hK7⟩
      simp only [unhide HH0] at hF7
      obtain ⟨x7, hx7⟩ : ∃ l, mixL ones60 (by60 b) mask = l := ⟨_, rfl⟩
      rw [hx7] at hF7
      have hx7l : x7.length = 60 := by rw [← hx7, mixL_len (by rw [ones60_len, by60_len]), ones60_len]
      obtain ⟨vo7, vc7, rfl⟩ : ∃ o c, v7 = .slice o 60 c := by
        obtain ⟨o, c, h⟩ := hF7.shape
        exact ⟨o, c, by rw [h, hx7l]⟩
      have HX7 : Hid (∀ i, i < 60 → cf x7 i = mx (if mask = [] then 0 else cf mask (i % mask.length)) 255 (cf (by60 b) i)) := fun i hi => by rw [← hx7]; exact cf_torn (by60_len b) hi
      have hx7b : Bs x7 := by rw [← hx7]; exact mixL_bs _ ones60_bs (by60_bs hbs)
      have HF7 := hide hF7.low
      have HX7L := hide hx7l
      clear hx7l
      have HN7 := hide hN7
      have HC7 := hide ((unhide HC6).kn hK7)
      have HT7 := hide ((unhide HT6).trans (hK7.below.mono hm0))
      clear hF7 hN7 hK7 HC6 HT6 HN6 hx7 HH0
      go_wp2_with fail
      go_loopw [16] (fun q16 wr => ∃ (i : Nat), q16 = .int .i64 i ∧ i ≤ 60 ∧ Hid (Below w7.heap.size w7 wr)) (fun q16 _ => 60 - (intOf q16).toNat)
      case atStart => exact ⟨0, rfl, by omega, Below.refl _ _⟩
      case round =>
        obtain ⟨i, rfl, hi, HBW⟩ := hrel
        by_cases hi60 : i < 60
        · have hi1 : (i : Int) < 60 := by omega
          obtain ⟨g7, e7, hB7⟩ := ((unhide HF7).below (unhide HBW) (Nat.le_refl _)).cells (ne_of_len (unhide HX7L) (by omega))
          subst e7
          have hc7 := hB7 i (by rw [unhide HX7L]; exact hi60)
          obtain ⟨g9, e9, hB9⟩ := ((unhide HC7).below (unhide HBW) (Nat.le_refl _)).cells (ne_of_len (by60_len b) (by omega))
          subst e9
          have hc9 := hB9 i (by rw [by60_len]; exact hi60)
          rw [unhide HX7 i hi60] at hc7
          have hyl : cf (by60 b) i < 256 := by60_bs hbs i
          obtain ⟨y, hy⟩ : ∃ y, cf (by60 b) i = y := ⟨_, rfl⟩
          rw [hy] at hc7 hc9 hyl
          clear hB7 hB9 hy
          by_cases hm0' : ml = 0
          · subst hm0'
            have hm9 : mask = [] := List.eq_nil_of_length_eq_zero (unhide HML)
            rw [if_pos hm9, mx_all_zero] at hc7
            have hc7' : wr.cell? ⟨g7, i, none⟩ = some (.int .u8 255) := hc7
            have q6 := (mx_u8 (m := 0) (x := 255) (y := y) (by omega) hyl (by omega)).2.1
            rw [Nat.and_zero] at q6
            have q6' : bits .and .u8 (y : Int) 0 = 0 := q6
            have q5' : bits .andNot .u8 255 0 = 255 := by decide
            have q7' : bits .or .u8 255 0 = 255 := by decide
            clear q6 hm9 hc7
            go_wp2_with fail
            go_quiet (fail)
            have hkq : Below wr.heap.size wr (wr.drewN nq) := below_drewN wr nq
            generalize wr.drewN nq = wq at hkq ⊢
            have HBW2 := hide ((unhide HBW).trans (hkq.mono (unhide HBW).size))
            clear hkq
            go_wp2_with fail
            go_roundw
            case rel => exact ⟨i + 1, by go_num, by omega, HBW2⟩
            case measure => simp [intOf]; omega
          · have hml0 : (0 : Int) < (ml : Int) := by omega
            have hml00 : ((ml : Int) == 0) = false := by rw [beq_eq_false_iff_ne]; omega
            have hm9 : mask ≠ [] := fun e => by have := unhide HML; rw [e] at this; simp at this; omega
            rw [if_neg hm9, unhide HML] at hc7
            obtain ⟨r, hr⟩ : ∃ r, i % ml = r := ⟨_, rfl⟩
            have hrn : r < ml := by rw [← hr]; exact Nat.mod_lt _ (by omega)
            have hrn1 : (r : Int) < (ml : Int) := by omega
            have p1 : (i : Int) % (ml : Int) = (r : Int) := by rw [← hr]; simp
            have p2 : (i : Int).tmod (ml : Int) = (r : Int) := by rw [Int.tmod_eq_emod_of_nonneg (by omega), p1]
            rw [hr] at hc7
            have hTr := (unhide HT7).trans ((unhide HBW).mono (unhide HT7).size)
            obtain ⟨oo, hoo⟩ := row_some (unhide HMR) (by rw [unhide HML]; omega)
            subst hoo
            have hcm := row_cell ((unhide HMR).below hTr) (j := r) (by rw [unhide HML]; exact hrn)
            have hmml : cf mask r < 256 := hbm r
            obtain ⟨mm, hmm⟩ : ∃ y, cf mask r = y := ⟨_, rfl⟩
            rw [hmm] at hc7 hcm hmml
            clear hmm hr hTr hm9
            obtain ⟨q5, q6, q7⟩ := mx_u8 (m := mm) (x := 255) (y := y) (by omega) hyl hmml
            obtain ⟨A5, hA5⟩ : ∃ a, (255 ^^^ (255 &&& mm) : Nat) = a := ⟨_, rfl⟩
            obtain ⟨A6, hA6⟩ : ∃ a, (y &&& mm : Nat) = a := ⟨_, rfl⟩
            obtain ⟨R7, hR7⟩ : ∃ a, mx mm 255 y = a := ⟨_, rfl⟩
            rw [hA5] at q5 q7
            rw [hA6] at q6 q7
            rw [hR7] at q7 hc7
            have q5' : bits .andNot .u8 255 (mm : Int) = (A5 : Int) := q5
            clear q5 hA5 hA6 hR7
            go_wp2_with fail
            go_quiet (fail)
            have hkq : Below wr.heap.size wr (wr.drewN nq) := below_drewN wr nq
            generalize wr.drewN nq = wq at hkq ⊢
            have HBW2 := hide ((unhide HBW).trans (hkq.mono (unhide HBW).size))
            clear hkq
            go_wp2_with fail
            go_roundw
            case rel => exact ⟨i + 1, by go_num, by omega, HBW2⟩
            case measure => simp [intOf]; omega
        · obtain rfl : i = 60 := by omega
          have HN8 := hide ((unhide HN7).below (unhide HBW))
          have HT8 := hide ((unhide HT7).trans ((unhide HBW).mono (unhide HT7).size))
          go_wp2_with fail
          refine (prog_bad (unhide HN8) (unhide HCM).dead 0 0 (j : Int) _ _ _ (fun h => by
            have h2 := h.2.1
            have h3 : (s.next 0 0 : Int) = (j : Int) := h2
            rw [unhide HNX] at h3
            omega)).mono ?_
          rintro e w9 ⟨rfl, hN9, hK9⟩
          have HN9 := hide hN9
          have HT9 := hide ((unhide HT8).trans (hK9.below.mono hm0))
          clear hN9 hK9
          go_wp2_with fail
          refine (Dead_any (unhide HN9)).mono ?_
          rintro e w9 ⟨rfl, rfl⟩
          go_wp2_with fail
          go_ret
          exact ⟨rfl, unhide HT9⟩

end Go.Proofs.Ytnondiaefpdlpaa
