/-
  The walk of NandStops.
-/
import Derived.Test.YtnondiaefpdlpabCm
import Derived.Test.YtnondiaefpdlpabI6
namespace Go.Proofs.Ytnondiaefpdlpab
open Go.RowKit Go.Shelf

/-- Flash whose power goes at the K-th Program or Erase. -/
structure Stp (s : Nd) (K dn nx op : Nat) : Prop where
  D : s.D = 6
  B : s.B = 8
  P : s.P = 8
  bad : ∀ d b, s.bad d b = false
  next : s.next 0 0 = nx
  dead : s.dead = decide (dn = K)
  left : s.left = K - dn
  ops : s.ops = (op : Int)
theorem Stp.inc1 {s : Nd} {K dn nx op : Nat} (h : Stp s K dn nx op) (hop : op < 1000) : inc s.ops = ((op + 1 : Nat) : Int) := by rw [h.ops, inc_in (by omega) (by omega)]; omega
theorem Stp.gone {s : Nd} {K dn nx op : Nat} (h : Stp s K dn nx op) (hdn : dn < K) : (s.dead || decide (s.left = 1)) = decide (dn + 1 = K) := by
  rw [h.dead, h.left, decide_eq_false (by omega), Bool.false_or]
  exact decide_eq_decide.2 (by omega)
theorem Stp.alive {s : Nd} {K dn nx op : Nat} (h : Stp s K dn nx op) (hdn : dn < K) : s.dead = false := by rw [h.dead, decide_eq_false (by omega)]
theorem Stp.prog {s : Nd} {K dn nx op : Nat} (h : Stp s K dn nx op) (hdn : dn < K) (hop : op < 1000) (x : List Nat) : Stp (s.progd 0 0 nx x) K (dn + 1) (nx + 1) (op + 1) :=
  ⟨h.D, h.B, h.P, h.bad, put2_same s.next 0 0 (nx + 1), h.gone hdn, by show s.left - 1 = _; rw [h.left]; omega, h.inc1 hop⟩
theorem Stp.erase {s : Nd} {K dn nx op : Nat} (h : Stp s K dn nx op) (hdn : dn < K) (hop : op < 1000) : Stp (s.erased 3 3) K (dn + 1) nx (op + 1) := by
  refine ⟨h.D, h.B, h.P, h.bad, ?_, h.gone hdn, by show s.left - 1 = _; rw [h.left]; omega, h.inc1 hop⟩
  show (if s.left = 1 then s.next else put2 s.next 3 3 0) 0 0 = nx
  split
  · exact h.next
  · rw [put2_ne s.next (d := 3) (b := 3) (d' := 0) (b' := 0) 0 (by omega)]; exact h.next
theorem Stp.read {s : Nd} {K dn nx op : Nat} (h : Stp s K dn nx op) (hop : op < 1000) : Stp { s with ops := inc s.ops } K dn nx (op + 1) := ⟨h.D, h.B, h.P, h.bad, h.next, h.dead, h.left, h.inc1 hop⟩
theorem Stp.wrong {s : Nd} {K dn nx op : Nat} (h : Stp s K dn nx op) (z : Int) : Stp { s with wrong := z } K dn nx op := ⟨h.D, h.B, h.P, h.bad, h.next, h.dead, h.left, h.ops⟩
theorem Stp.err {s : Nd} {K dn nx op : Nat} (h : Stp s K dn nx op) (hdn : dn < K) : s.err = if dn + 1 = K then 8 else 0 := by
  rw [Nd.err, h.left]
  by_cases e : dn + 1 = K
  · rw [if_pos (by omega), if_pos e]
  · rw [if_neg (by omega), if_neg e]
theorem dead_q {m q : Nat} {w : World} {L : La} {s : Nd} (h : NA m w L s) (hq : L.n = q) : Calls Try.prog 17 #[.pointer (some ⟨q, 0, none⟩)] w fun e w' => e = .returned (.bool s.dead) ∧ w' = w := by subst hq; exact Dead_any h
theorem ops_q {m q : Nat} {w : World} {L : La} {s : Nd} (h : NA m w L s) (hq : L.n = q) : Calls Try.prog 11 #[.pointer (some ⟨q, 0, none⟩)] w fun e w' => e = .returned (.int .i64 s.ops) ∧ w' = w := by subst hq; exact Ops_any h
theorem max_two (t : TypeId) (ts : Array TypeId) (x y : Int) (w : World) : (Builtin.max_ ts t #[.int .i64 x, .int .i64 y]).run Try.prog w = .ok (.int .i64 (max x y)) w := by
  unfold Builtin.max_
  simp only [List.foldlM_cons, List.foldlM_nil, Builtin.max2]
  by_cases h1 : x < y
  · simp [h1, Sem.run_pure]; omega
  · simp [h1, Sem.run_pure]; omega

set_option maxRecDepth 100000 in
set_option maxHeartbeats 8000000 in
theorem stops_walk (z : Int) (lo : Option Addr) (gl len cap : Nat) (zs : List Int) (w : World) (hz : zs.length = len) (hr : IRow w lo gl zs) (hcap : len ≤ cap) (hm : cap ≤ maxLen) :
    Calls Try.prog 4 #[.int .i64 z, .slice lo len cap] w fun e w' => e = .returned (.bool true) ∧ Below w.heap.size w w' := by
  have HR := hide hr
  have HZ := hide hz
  have HT : Hid (Below w.heap.size w w) := Below.refl _ _
  clear hr hz
  have hl1 : (len : Int) ≤ 9223372036854775807 := by unfold maxLen at hm; omega
  have hmk0 : ∀ w : World, (Instr.makeSlice 22 (.int .i64 60) (.int .i64 60)).run Try.prog w = .ok (.slice (some ⟨w.heap.size, 0, none⟩) 60 60) (w.alloc (.cells (List.replicate 60 (Value.int .u8 0)).toArray 5)) := run_zeros 60 (by omega)
  have HZA := hide (fun W : World => zeros_arg 60 (by omega) W)
  have HZS := hide (fun (m : Nat) (W : World) => zeros_safe m W)
  obtain ⟨z60, hz60⟩ : ∃ z, (List.replicate 60 (Value.int .u8 0)).toArray = z := ⟨_, rfl⟩
  simp only [hz60] at hmk0
  rw [hz60] at HZA HZS
  have HMK := hide hmk0
  clear hz60 hmk0
  go_enter Try.func4, Try.ntmps4
  go_wp2_with fail
  refine (known_any _).mono ?_
  rintro e w0 ⟨rfl, hk⟩
  replace HT := hide ((unhide HT).trans (hk.mono (unhide HT).size))
  clear hk
  go_wp2_with fail
  refine (new_blank 6 8 8 _ ⟨by omega, by omega, by omega⟩).mono ?_
  rintro e w1 ⟨hk, L, rfl, hN⟩
  have hm0 := (unhide HT).size
  replace HT := hide ((unhide HT).trans (hk.mono (unhide HT).size))
  obtain ⟨m, hmm⟩ : ∃ m, w0.heap.size = m := ⟨_, rfl⟩
  rw [hmm] at hN hm0
  obtain ⟨q, hq⟩ : ∃ q, L.n = q := ⟨_, rfl⟩
  rw [hq]
  have HQ := hide hq
  have HN := hide hN
  clear hk hmm hN hq
  go_wp2_with fail
  refine (within7_any _ 12 _ (by omega) (by omega)).mono ?_
  rintro e w1 ⟨rfl, rfl⟩
  have hp0 : 0 ≤ z % 12 := Int.emod_nonneg _ (by omega)
  have hp1 : z % 12 < 12 := Int.emod_lt_of_pos _ (by omega)
  obtain ⟨k, hk⟩ := Int.eq_ofNat_of_zero_le hp0
  rw [hk] at hp0 hp1 ⊢
  clear hk
  obtain ⟨K, hK⟩ : ∃ K : Nat, (1 : Int) + (k : Int) = (K : Int) := ⟨1 + k, by omega⟩
  have hK1 : 1 ≤ K := by omega
  have hK12 : K ≤ 12 := by omega
  go_wp2_with fail
  clear hK hp0 hp1
  have hLq := unhide HQ
  subst hLq
  refine (stop_any (unhide HN) (K : Int) (by omega) _ 0 [] (nil_arg _) (fun hne => absurd rfl hne)).mono ?_
  rintro e w2 ⟨⟨vv, rfl⟩, ⟨L', hL', hN2⟩, hK2⟩
  obtain ⟨q, hq⟩ : ∃ q, L.n = q := ⟨_, rfl⟩
  rw [hq] at hL' ⊢
  have HL := hide hL'
  have HN2 := hide hN2
  replace HT := hide ((unhide HT).trans (hK2.below.mono hm0))
  have HS2 : Hid (Stp { blank 6 8 8 (fun _ _ => false) with left := ((K : Int)).toNat, mask := [] } K 0 0 0) :=
    ⟨rfl, rfl, rfl, fun _ _ => rfl, rfl, by show false = _; rw [decide_eq_false (by omega)], by simp, rfl⟩
  clear hL' hN2 hK2 hq HN HQ
  go_wp2_with fail
  go_loopw [7, 8, 9, 10] (fun q7 q8 q9 q10 wr => ∃ (i dn nx op : Nat) (L : La) (s : Nd), q7 = .int .i64 dn ∧ q8 = .int .i64 nx ∧ q9 = .int .i64 op ∧ q10 = .int .i64 i ∧ i ≤ 40 ∧ dn ≤ K ∧ nx ≤ 8 ∧ op ≤ i ∧ Hid (L.n = q) ∧ Hid (NA m wr L s) ∧ Hid (Stp s K dn nx op) ∧ Hid (Below w.heap.size w wr)) (fun _ _ _ q10 _ => 40 - (intOf q10).toNat)
  case atStart => exact ⟨0, 0, 0, 0, L', _, rfl, rfl, rfl, rfl, by omega, by omega, by omega, by omega, HL, HN2, HS2, HT⟩
  case round =>
    clear HN2 HS2 HT HL
    obtain ⟨i, dn, nx, op, L, s, rfl, rfl, rfl, rfl, hi, hdn, hnx, hop, HQ, HN, HS, HT⟩ := hrel
    have hLq := unhide HQ
    subst hLq
    by_cases hlt : i < len ∧ i < 40
    · have hi1 : (i : Int) < (len : Int) := by omega
      have hi2 : (i : Int) < 40 := by omega
      obtain ⟨o, rfl, hcell⟩ := irow_some' (unhide HR) (by rw [unhide HZ]; omega)
      have hc0 := hcell i (by rw [unhide HZ]; omega)
      have hcz := below_cell' (unhide HT) hc0 (block_lt_of_cell hc0)
      obtain ⟨y, hzz⟩ : ∃ z, zs.getD i 0 = z := ⟨_, rfl⟩
      rw [hzz] at hcz
      clear hcell hc0 hzz
      have hp0 : 0 ≤ y % 5 := Int.emod_nonneg _ (by omega)
      have hp1 : y % 5 < 5 := Int.emod_lt_of_pos _ (by omega)
      have hcas : y % 5 = 0 ∨ y % 5 = 1 ∨ y % 5 = 2 ∨ y % 5 = 3 ∨ y % 5 = 4 := by omega
      have HCAS := hide hcas
      clear hp0 hp1 hcas
      rcases unhide HCAS with hy | hy | hy | hy | hy
      · by_cases hn8 : 8 ≤ nx
        · have hn81 : (8 : Int) ≤ (nx : Int) := by omega
          have HL6 : Hid (L.n = L.n) := rfl
          have HN6 := HN
          have HO6 := HS
          have HT6 := HT
          by_cases hdk : dn = K
          · have hdk1 : ((dn : Int) == (K : Int)) = true := by rw [beq_iff_eq]; omega
            go_wp2_with fail
            refine (within7_any _ 5 _ (by omega) (by omega)).mono ?_
            rintro e wr ⟨rfl, rfl⟩
            rw [hy]
            clear hcz
            go_wp2_with fail
            go_roundw
            case rel => exact ⟨i + 1, dn, nx, op, L, _, by go_num, by go_num, by go_num, by go_num, by omega, by omega, by omega, by omega, rfl, HN6, HO6, HT6⟩
            case measure => simp [intOf]; omega
          · have hdk1 : ((dn : Int) == (K : Int)) = false := by rw [beq_eq_false_iff_ne]; omega
            go_wp2_with fail
            refine (within7_any _ 5 _ (by omega) (by omega)).mono ?_
            rintro e wr ⟨rfl, rfl⟩
            rw [hy]
            clear hcz
            go_wp2_with fail
            go_roundw
            case rel => exact ⟨i + 1, dn, nx, op, L, _, by go_num, by go_num, by go_num, by go_num, by omega, by omega, by omega, by omega, rfl, HN6, HO6, HT6⟩
            case measure => simp [intOf]; omega
        have hn81 : (nx : Int) < 8 := by omega
        have hmk := unhide HMK
        have hal : Below wr.heap.size wr (wr.alloc (.cells z60 5)) := (Below.refl _ _).alloc (Nat.le_refl _) _
        have HN5 := hide ((unhide HN).below hal)
        have HT5 := hide ((unhide HT).trans (hal.mono (unhide HT).size))
        have HA5 := hide (unhide HZA wr)
        have HS5 := hide (unhide HZS m wr)
        clear hal
        by_cases hdk : dn = K
        · have hdk1 : ((dn : Int) == (K : Int)) = true := by rw [beq_iff_eq]; omega
          have hdk2 : (K : Int) ≤ (dn : Int) := by omega
          have hmax : ∀ W : World, (Builtin.max_ #[3, 3] 3 #[.int .i64 ((nx : Int) - 1), .int .i64 0]).run Try.prog W = .ok (.int .i64 (max ((nx : Int) - 1) 0)) W := fun W => max_two _ _ _ _ W
          obtain ⟨mxp, hmxp⟩ : ∃ p, max ((nx : Int) - 1) 0 = p := ⟨_, rfl⟩
          simp only [hmxp] at hmax
          clear hmxp
          go_wp2_with fail
          refine (within7_any _ 5 _ (by omega) (by omega)).mono ?_
          rintro e wr ⟨rfl, rfl⟩
          rw [hy]
          clear hcz
          go_wp2_with fail
          clear hmk hmax
          generalize wr.alloc (.cells z60 5) = w5 at HN5 HT5 HA5 HS5 ⊢
          refine (prog_dead (unhide HN5) (by rw [(unhide HS).dead, decide_eq_true hdk]) _ _ _ _).mono ?_
          rintro e w6 ⟨rfl, rfl⟩
          have HL6 : Hid (L.n = L.n) := rfl
          have HN6 := HN5
          have HO6 := HS
          have HT6 := HT5
          have hde : ((dn : Int) == (K : Int)) = true := by rw [beq_iff_eq]; omega
          go_wp2_with fail
          refine (dead_q (unhide HN6) rfl).mono ?_
          rintro e w6 ⟨rfl, rfl⟩
          rw [(unhide HO6).dead, decide_eq_true (by omega)]
          go_wp2_with fail
          refine (ops_q (unhide HN6) rfl).mono ?_
          rintro e w6 ⟨rfl, rfl⟩
          rw [(unhide HO6).ops]
          go_wp2_with fail
          go_roundw
          case rel => exact ⟨i + 1, dn, nx, op, L, _, by go_num, by go_num, by go_num, by go_num, by omega, by omega, by omega, by omega, rfl, HN6, HO6, HT6⟩
          case measure => simp [intOf]; omega
        · have hdk1 : ((dn : Int) == (K : Int)) = false := by rw [beq_eq_false_iff_ne]; omega
          have hdk2 : (dn : Int) < (K : Int) := by omega
          have hdl : dn < K := by omega
          have hmax : ∀ W : World, (Builtin.max_ #[3, 3] 3 #[.int .i64 (nx : Int), .int .i64 0]).run Try.prog W = .ok (.int .i64 (nx : Int)) W := fun W => by rw [max_two, show max (nx : Int) 0 = (nx : Int) from by omega]
          have hsb : (nx : Int) + 1 - 1 = (nx : Int) := by omega
          by_cases hlast : dn + 1 = K
          · have hl1 : ((dn : Int) + 1 == (K : Int)) = true := by rw [beq_iff_eq]; omega
            have hl2 : (K : Int) ≤ (dn : Int) + 1 := by omega
            go_wp2_with fail
            refine (within7_any _ 5 _ (by omega) (by omega)).mono ?_
            rintro e wr ⟨rfl, rfl⟩
            rw [hy]
            clear hcz
            go_wp2_with fail
            clear hmk hmax
            generalize wr.alloc (.cells z60 5) = w5 at HN5 HT5 HA5 HS5 ⊢
            refine (prog_good (d := 0) (b := 0) (p := nx) (unhide HN5) ((unhide HS).alive hdl) (by rw [(unhide HS).D]; omega) (by rw [(unhide HS).B]; omega) ((unhide HS).bad 0 0) (by rw [(unhide HS).P]; omega) (unhide HS).next _ _ _ (unhide HA5) (unhide HS5) (by simp)).mono ?_
            rintro e w6 ⟨rfl, ⟨L', hL', hN6⟩, hK6⟩
            have HN6 := hide hN6
            have HL6 := hide hL'
            have HT6 := hide ((unhide HT5).trans (hK6.below.mono hm0))
            clear hN6 hL' hK6
            rw [(unhide HS).err hdl, if_pos hlast]
            have HO6 := hide ((unhide HS).prog hdl (by omega) (List.replicate 60 0))
            have hde : ((dn : Int) + 1 == (K : Int)) = true := by rw [beq_iff_eq]; omega
            go_wp2_with fail
            refine (dead_q (unhide HN6) (unhide HL6)).mono ?_
            rintro e w6 ⟨rfl, rfl⟩
            rw [(unhide HO6).dead, decide_eq_true (by omega)]
            go_wp2_with fail
            refine (ops_q (unhide HN6) (unhide HL6)).mono ?_
            rintro e w6 ⟨rfl, rfl⟩
            rw [(unhide HO6).ops]
            go_wp2_with fail
            go_roundw
            case rel => exact ⟨i + 1, dn + 1, nx + 1, op + 1, L', _, by go_num, by go_num, by go_num, by go_num, by omega, by omega, by omega, by omega, HL6, HN6, HO6, HT6⟩
            case measure => simp [intOf]; omega
          · have hl1 : ((dn : Int) + 1 == (K : Int)) = false := by rw [beq_eq_false_iff_ne]; omega
            have hl2 : (dn : Int) + 1 < (K : Int) := by omega
            go_wp2_with fail
            refine (within7_any _ 5 _ (by omega) (by omega)).mono ?_
            rintro e wr ⟨rfl, rfl⟩
            rw [hy]
            clear hcz
            go_wp2_with fail
            clear hmk hmax
            generalize wr.alloc (.cells z60 5) = w5 at HN5 HT5 HA5 HS5 ⊢
            refine (prog_good (d := 0) (b := 0) (p := nx) (unhide HN5) ((unhide HS).alive hdl) (by rw [(unhide HS).D]; omega) (by rw [(unhide HS).B]; omega) ((unhide HS).bad 0 0) (by rw [(unhide HS).P]; omega) (unhide HS).next _ _ _ (unhide HA5) (unhide HS5) (by simp)).mono ?_
            rintro e w6 ⟨rfl, ⟨L', hL', hN6⟩, hK6⟩
            have HN6 := hide hN6
            have HL6 := hide hL'
            have HT6 := hide ((unhide HT5).trans (hK6.below.mono hm0))
            clear hN6 hL' hK6
            rw [(unhide HS).err hdl, if_neg hlast]
            have HO6 := hide ((unhide HS).prog hdl (by omega) (List.replicate 60 0))
            have hde : ((dn : Int) + 1 == (K : Int)) = false := by rw [beq_eq_false_iff_ne]; omega
            go_wp2_with fail
            refine (dead_q (unhide HN6) (unhide HL6)).mono ?_
            rintro e w6 ⟨rfl, rfl⟩
            rw [(unhide HO6).dead, decide_eq_false (by omega)]
            go_wp2_with fail
            refine (ops_q (unhide HN6) (unhide HL6)).mono ?_
            rintro e w6 ⟨rfl, rfl⟩
            rw [(unhide HO6).ops]
            go_wp2_with fail
            go_roundw
            case rel => exact ⟨i + 1, dn + 1, nx + 1, op + 1, L', _, by go_num, by go_num, by go_num, by go_num, by omega, by omega, by omega, by omega, HL6, HN6, HO6, HT6⟩
            case measure => simp [intOf]; omega
      · by_cases hn8 : 8 ≤ nx
        · have hn81 : (8 : Int) ≤ (nx : Int) := by omega
          have HL6 : Hid (L.n = L.n) := rfl
          have HN6 := HN
          have HO6 := HS
          have HT6 := HT
          by_cases hdk : dn = K
          · have hdk1 : ((dn : Int) == (K : Int)) = true := by rw [beq_iff_eq]; omega
            go_wp2_with fail
            refine (within7_any _ 5 _ (by omega) (by omega)).mono ?_
            rintro e wr ⟨rfl, rfl⟩
            rw [hy]
            clear hcz
            go_wp2_with fail
            go_roundw
            case rel => exact ⟨i + 1, dn, nx, op, L, _, by go_num, by go_num, by go_num, by go_num, by omega, by omega, by omega, by omega, rfl, HN6, HO6, HT6⟩
            case measure => simp [intOf]; omega
          · have hdk1 : ((dn : Int) == (K : Int)) = false := by rw [beq_eq_false_iff_ne]; omega
            go_wp2_with fail
            refine (within7_any _ 5 _ (by omega) (by omega)).mono ?_
            rintro e wr ⟨rfl, rfl⟩
            rw [hy]
            clear hcz
            go_wp2_with fail
            go_roundw
            case rel => exact ⟨i + 1, dn, nx, op, L, _, by go_num, by go_num, by go_num, by go_num, by omega, by omega, by omega, by omega, rfl, HN6, HO6, HT6⟩
            case measure => simp [intOf]; omega
        have hn81 : (nx : Int) < 8 := by omega
        have hmk := unhide HMK
        have hal : Below wr.heap.size wr (wr.alloc (.cells z60 5)) := (Below.refl _ _).alloc (Nat.le_refl _) _
        have HN5 := hide ((unhide HN).below hal)
        have HT5 := hide ((unhide HT).trans (hal.mono (unhide HT).size))
        have HA5 := hide (unhide HZA wr)
        have HS5 := hide (unhide HZS m wr)
        clear hal
        by_cases hdk : dn = K
        · have hdk1 : ((dn : Int) == (K : Int)) = true := by rw [beq_iff_eq]; omega
          have hdk2 : (K : Int) ≤ (dn : Int) := by omega
          have hmax : ∀ W : World, (Builtin.max_ #[3, 3] 3 #[.int .i64 ((nx : Int) - 1), .int .i64 0]).run Try.prog W = .ok (.int .i64 (max ((nx : Int) - 1) 0)) W := fun W => max_two _ _ _ _ W
          obtain ⟨mxp, hmxp⟩ : ∃ p, max ((nx : Int) - 1) 0 = p := ⟨_, rfl⟩
          simp only [hmxp] at hmax
          clear hmxp
          go_wp2_with fail
          refine (within7_any _ 5 _ (by omega) (by omega)).mono ?_
          rintro e wr ⟨rfl, rfl⟩
          rw [hy]
          clear hcz
          go_wp2_with fail
          clear hmk hmax
          generalize wr.alloc (.cells z60 5) = w5 at HN5 HT5 HA5 HS5 ⊢
          refine (prog_dead (unhide HN5) (by rw [(unhide HS).dead, decide_eq_true hdk]) _ _ _ _).mono ?_
          rintro e w6 ⟨rfl, rfl⟩
          have HL6 : Hid (L.n = L.n) := rfl
          have HN6 := HN5
          have HO6 := HS
          have HT6 := HT5
          have hde : ((dn : Int) == (K : Int)) = true := by rw [beq_iff_eq]; omega
          go_wp2_with fail
          refine (dead_q (unhide HN6) rfl).mono ?_
          rintro e w6 ⟨rfl, rfl⟩
          rw [(unhide HO6).dead, decide_eq_true (by omega)]
          go_wp2_with fail
          refine (ops_q (unhide HN6) rfl).mono ?_
          rintro e w6 ⟨rfl, rfl⟩
          rw [(unhide HO6).ops]
          go_wp2_with fail
          go_roundw
          case rel => exact ⟨i + 1, dn, nx, op, L, _, by go_num, by go_num, by go_num, by go_num, by omega, by omega, by omega, by omega, rfl, HN6, HO6, HT6⟩
          case measure => simp [intOf]; omega
        · have hdk1 : ((dn : Int) == (K : Int)) = false := by rw [beq_eq_false_iff_ne]; omega
          have hdk2 : (dn : Int) < (K : Int) := by omega
          have hdl : dn < K := by omega
          have hmax : ∀ W : World, (Builtin.max_ #[3, 3] 3 #[.int .i64 (nx : Int), .int .i64 0]).run Try.prog W = .ok (.int .i64 (nx : Int)) W := fun W => by rw [max_two, show max (nx : Int) 0 = (nx : Int) from by omega]
          have hsb : (nx : Int) + 1 - 1 = (nx : Int) := by omega
          by_cases hlast : dn + 1 = K
          · have hl1 : ((dn : Int) + 1 == (K : Int)) = true := by rw [beq_iff_eq]; omega
            have hl2 : (K : Int) ≤ (dn : Int) + 1 := by omega
            go_wp2_with fail
            refine (within7_any _ 5 _ (by omega) (by omega)).mono ?_
            rintro e wr ⟨rfl, rfl⟩
            rw [hy]
            clear hcz
            go_wp2_with fail
            clear hmk hmax
            generalize wr.alloc (.cells z60 5) = w5 at HN5 HT5 HA5 HS5 ⊢
            refine (prog_good (d := 0) (b := 0) (p := nx) (unhide HN5) ((unhide HS).alive hdl) (by rw [(unhide HS).D]; omega) (by rw [(unhide HS).B]; omega) ((unhide HS).bad 0 0) (by rw [(unhide HS).P]; omega) (unhide HS).next _ _ _ (unhide HA5) (unhide HS5) (by simp)).mono ?_
            rintro e w6 ⟨rfl, ⟨L', hL', hN6⟩, hK6⟩
            have HN6 := hide hN6
            have HL6 := hide hL'
            have HT6 := hide ((unhide HT5).trans (hK6.below.mono hm0))
            clear hN6 hL' hK6
            rw [(unhide HS).err hdl, if_pos hlast]
            have HO6 := hide ((unhide HS).prog hdl (by omega) (List.replicate 60 0))
            have hde : ((dn : Int) + 1 == (K : Int)) = true := by rw [beq_iff_eq]; omega
            go_wp2_with fail
            refine (dead_q (unhide HN6) (unhide HL6)).mono ?_
            rintro e w6 ⟨rfl, rfl⟩
            rw [(unhide HO6).dead, decide_eq_true (by omega)]
            go_wp2_with fail
            refine (ops_q (unhide HN6) (unhide HL6)).mono ?_
            rintro e w6 ⟨rfl, rfl⟩
            rw [(unhide HO6).ops]
            go_wp2_with fail
            go_roundw
            case rel => exact ⟨i + 1, dn + 1, nx + 1, op + 1, L', _, by go_num, by go_num, by go_num, by go_num, by omega, by omega, by omega, by omega, HL6, HN6, HO6, HT6⟩
            case measure => simp [intOf]; omega
          · have hl1 : ((dn : Int) + 1 == (K : Int)) = false := by rw [beq_eq_false_iff_ne]; omega
            have hl2 : (dn : Int) + 1 < (K : Int) := by omega
            go_wp2_with fail
            refine (within7_any _ 5 _ (by omega) (by omega)).mono ?_
            rintro e wr ⟨rfl, rfl⟩
            rw [hy]
            clear hcz
            go_wp2_with fail
            clear hmk hmax
            generalize wr.alloc (.cells z60 5) = w5 at HN5 HT5 HA5 HS5 ⊢
            refine (prog_good (d := 0) (b := 0) (p := nx) (unhide HN5) ((unhide HS).alive hdl) (by rw [(unhide HS).D]; omega) (by rw [(unhide HS).B]; omega) ((unhide HS).bad 0 0) (by rw [(unhide HS).P]; omega) (unhide HS).next _ _ _ (unhide HA5) (unhide HS5) (by simp)).mono ?_
            rintro e w6 ⟨rfl, ⟨L', hL', hN6⟩, hK6⟩
            have HN6 := hide hN6
            have HL6 := hide hL'
            have HT6 := hide ((unhide HT5).trans (hK6.below.mono hm0))
            clear hN6 hL' hK6
            rw [(unhide HS).err hdl, if_neg hlast]
            have HO6 := hide ((unhide HS).prog hdl (by omega) (List.replicate 60 0))
            have hde : ((dn : Int) + 1 == (K : Int)) = false := by rw [beq_eq_false_iff_ne]; omega
            go_wp2_with fail
            refine (dead_q (unhide HN6) (unhide HL6)).mono ?_
            rintro e w6 ⟨rfl, rfl⟩
            rw [(unhide HO6).dead, decide_eq_false (by omega)]
            go_wp2_with fail
            refine (ops_q (unhide HN6) (unhide HL6)).mono ?_
            rintro e w6 ⟨rfl, rfl⟩
            rw [(unhide HO6).ops]
            go_wp2_with fail
            go_roundw
            case rel => exact ⟨i + 1, dn + 1, nx + 1, op + 1, L', _, by go_num, by go_num, by go_num, by go_num, by omega, by omega, by omega, by omega, HL6, HN6, HO6, HT6⟩
            case measure => simp [intOf]; omega
      · by_cases hdk : dn = K
        · have hdk1 : ((dn : Int) == (K : Int)) = true := by rw [beq_iff_eq]; omega
          have hdk2 : (K : Int) ≤ (dn : Int) := by omega
          go_wp2_with fail
          refine (within7_any _ 5 _ (by omega) (by omega)).mono ?_
          rintro e wr ⟨rfl, rfl⟩
          rw [hy]
          clear hcz
          go_wp2_with fail
          refine (erase_dead (unhide HN) (by rw [(unhide HS).dead, decide_eq_true hdk]) _ _).mono ?_
          rintro e w6 ⟨rfl, rfl⟩
          have HL6 : Hid (L.n = L.n) := rfl
          have HN6 := HN
          have HO6 := HS
          have HT6 := HT
          have hde : ((dn : Int) == (K : Int)) = true := by rw [beq_iff_eq]; omega
          go_wp2_with fail
          refine (dead_q (unhide HN6) rfl).mono ?_
          rintro e w6 ⟨rfl, rfl⟩
          rw [(unhide HO6).dead, decide_eq_true (by omega)]
          go_wp2_with fail
          refine (ops_q (unhide HN6) rfl).mono ?_
          rintro e w6 ⟨rfl, rfl⟩
          rw [(unhide HO6).ops]
          go_wp2_with fail
          go_roundw
          case rel => exact ⟨i + 1, dn, nx, op, L, _, by go_num, by go_num, by go_num, by go_num, by omega, by omega, by omega, by omega, rfl, HN6, HO6, HT6⟩
          case measure => simp [intOf]; omega
        · have hdk1 : ((dn : Int) == (K : Int)) = false := by rw [beq_eq_false_iff_ne]; omega
          have hdk2 : (dn : Int) < (K : Int) := by omega
          have hdl : dn < K := by omega
          have HT5 := HT
          by_cases hlast : dn + 1 = K
          · have hl1 : ((dn : Int) + 1 == (K : Int)) = true := by rw [beq_iff_eq]; omega
            go_wp2_with fail
            refine (within7_any _ 5 _ (by omega) (by omega)).mono ?_
            rintro e wr ⟨rfl, rfl⟩
            rw [hy]
            clear hcz
            go_wp2_with fail
            refine (erase_good (d := 3) (b := 3) (unhide HN) ((unhide HS).alive hdl) (by rw [(unhide HS).D]; omega) (by rw [(unhide HS).B]; omega) ((unhide HS).bad 3 3)).mono ?_
            rintro e w6 ⟨rfl, ⟨L', hL', hN6⟩, hK6⟩
            have HN6 := hide hN6
            have HL6 := hide hL'
            have HT6 := hide ((unhide HT5).trans (hK6.below.mono hm0))
            clear hN6 hL' hK6
            rw [(unhide HS).err hdl, if_pos hlast]
            have HO6 := hide ((unhide HS).erase hdl (by omega))
            have hde : ((dn : Int) + 1 == (K : Int)) = true := by rw [beq_iff_eq]; omega
            go_wp2_with fail
            refine (dead_q (unhide HN6) (unhide HL6)).mono ?_
            rintro e w6 ⟨rfl, rfl⟩
            rw [(unhide HO6).dead, decide_eq_true (by omega)]
            go_wp2_with fail
            refine (ops_q (unhide HN6) (unhide HL6)).mono ?_
            rintro e w6 ⟨rfl, rfl⟩
            rw [(unhide HO6).ops]
            go_wp2_with fail
            go_roundw
            case rel => exact ⟨i + 1, dn + 1, nx, op + 1, L', _, by go_num, by go_num, by go_num, by go_num, by omega, by omega, by omega, by omega, HL6, HN6, HO6, HT6⟩
            case measure => simp [intOf]; omega
          · have hl1 : ((dn : Int) + 1 == (K : Int)) = false := by rw [beq_eq_false_iff_ne]; omega
            go_wp2_with fail
            refine (within7_any _ 5 _ (by omega) (by omega)).mono ?_
            rintro e wr ⟨rfl, rfl⟩
            rw [hy]
            clear hcz
            go_wp2_with fail
            refine (erase_good (d := 3) (b := 3) (unhide HN) ((unhide HS).alive hdl) (by rw [(unhide HS).D]; omega) (by rw [(unhide HS).B]; omega) ((unhide HS).bad 3 3)).mono ?_
            rintro e w6 ⟨rfl, ⟨L', hL', hN6⟩, hK6⟩
            have HN6 := hide hN6
            have HL6 := hide hL'
            have HT6 := hide ((unhide HT5).trans (hK6.below.mono hm0))
            clear hN6 hL' hK6
            rw [(unhide HS).err hdl, if_neg hlast]
            have HO6 := hide ((unhide HS).erase hdl (by omega))
            have hde : ((dn : Int) + 1 == (K : Int)) = false := by rw [beq_eq_false_iff_ne]; omega
            go_wp2_with fail
            refine (dead_q (unhide HN6) (unhide HL6)).mono ?_
            rintro e w6 ⟨rfl, rfl⟩
            rw [(unhide HO6).dead, decide_eq_false (by omega)]
            go_wp2_with fail
            refine (ops_q (unhide HN6) (unhide HL6)).mono ?_
            rintro e w6 ⟨rfl, rfl⟩
            rw [(unhide HO6).ops]
            go_wp2_with fail
            go_roundw
            case rel => exact ⟨i + 1, dn + 1, nx, op + 1, L', _, by go_num, by go_num, by go_num, by go_num, by omega, by omega, by omega, by omega, HL6, HN6, HO6, HT6⟩
            case measure => simp [intOf]; omega
      · by_cases hdk : dn = K
        · have hdk1 : ((dn : Int) == (K : Int)) = true := by rw [beq_iff_eq]; omega
          have hdk2 : (K : Int) ≤ (dn : Int) := by omega
          go_wp2_with fail
          refine (within7_any _ 5 _ (by omega) (by omega)).mono ?_
          rintro e wr ⟨rfl, rfl⟩
          rw [hy]
          clear hcz
          go_wp2_with fail
          refine (read_dead (unhide HN) (by rw [(unhide HS).dead, decide_eq_true hdk]) _ _ _).mono ?_
          rintro e w6 ⟨rfl, rfl⟩
          have HL6 : Hid (L.n = L.n) := rfl
          have HN6 := HN
          have HO6 := HS
          have HT6 := HT
          have hde : ((dn : Int) == (K : Int)) = true := by rw [beq_iff_eq]; omega
          go_wp2_with fail
          refine (dead_q (unhide HN6) rfl).mono ?_
          rintro e w6 ⟨rfl, rfl⟩
          rw [(unhide HO6).dead, decide_eq_true (by omega)]
          go_wp2_with fail
          refine (ops_q (unhide HN6) rfl).mono ?_
          rintro e w6 ⟨rfl, rfl⟩
          rw [(unhide HO6).ops]
          go_wp2_with fail
          go_roundw
          case rel => exact ⟨i + 1, dn, nx, op, L, _, by go_num, by go_num, by go_num, by go_num, by omega, by omega, by omega, by omega, rfl, HN6, HO6, HT6⟩
          case measure => simp [intOf]; omega
        · have hdk1 : ((dn : Int) == (K : Int)) = false := by rw [beq_eq_false_iff_ne]; omega
          have hdk2 : (dn : Int) < (K : Int) := by omega
          have hdl : dn < K := by omega
          have HT5 := HT
          go_wp2_with fail
          refine (within7_any _ 5 _ (by omega) (by omega)).mono ?_
          rintro e wr ⟨rfl, rfl⟩
          rw [hy]
          clear hcz
          go_wp2_with fail
          refine (read_good (d := 0) (b := 0) (p := 7) (unhide HN) ((unhide HS).alive hdl) (by rw [(unhide HS).D]; omega) (by rw [(unhide HS).B]; omega) ((unhide HS).bad 0 0) (by rw [(unhide HS).P]; omega)).mono ?_
          rintro e w6 ⟨v6, rfl, _, hN6, hK6⟩
          have HN6 := hide hN6
          have HL6 : Hid (L.n = L.n) := rfl
          have HT6 := hide ((unhide HT5).trans (hK6.below.mono hm0))
          clear hN6 hK6
          have HO6 := hide ((unhide HS).read (by omega))
          have hde : ((dn : Int) == (K : Int)) = false := by rw [beq_eq_false_iff_ne]; omega
          go_wp2_with fail
          refine (dead_q (unhide HN6) rfl).mono ?_
          rintro e w6 ⟨rfl, rfl⟩
          rw [(unhide HO6).dead, decide_eq_false (by omega)]
          go_wp2_with fail
          refine (ops_q (unhide HN6) rfl).mono ?_
          rintro e w6 ⟨rfl, rfl⟩
          rw [(unhide HO6).ops]
          go_wp2_with fail
          go_roundw
          case rel => exact ⟨i + 1, dn, nx, op + 1, L, _, by go_num, by go_num, by go_num, by go_num, by omega, by omega, by omega, by omega, rfl, HN6, HO6, HT6⟩
          case measure => simp [intOf]; omega
      · by_cases hdk : dn = K
        · have hdk1 : ((dn : Int) == (K : Int)) = true := by rw [beq_iff_eq]; omega
          have hdk2 : (K : Int) ≤ (dn : Int) := by omega
          go_wp2_with fail
          refine (within7_any _ 5 _ (by omega) (by omega)).mono ?_
          rintro e wr ⟨rfl, rfl⟩
          rw [hy]
          clear hcz
          go_wp2_with fail
          refine (erase_dead (unhide HN) (by rw [(unhide HS).dead, decide_eq_true hdk]) _ _).mono ?_
          rintro e w6 ⟨rfl, rfl⟩
          have HL6 : Hid (L.n = L.n) := rfl
          have HN6 := HN
          have HO6 := HS
          have HT6 := HT
          have hde : ((dn : Int) == (K : Int)) = true := by rw [beq_iff_eq]; omega
          go_wp2_with fail
          refine (dead_q (unhide HN6) rfl).mono ?_
          rintro e w6 ⟨rfl, rfl⟩
          rw [(unhide HO6).dead, decide_eq_true (by omega)]
          go_wp2_with fail
          refine (ops_q (unhide HN6) rfl).mono ?_
          rintro e w6 ⟨rfl, rfl⟩
          rw [(unhide HO6).ops]
          go_wp2_with fail
          go_roundw
          case rel => exact ⟨i + 1, dn, nx, op, L, _, by go_num, by go_num, by go_num, by go_num, by omega, by omega, by omega, by omega, rfl, HN6, HO6, HT6⟩
          case measure => simp [intOf]; omega
        · have hdk1 : ((dn : Int) == (K : Int)) = false := by rw [beq_eq_false_iff_ne]; omega
          have hdk2 : (dn : Int) < (K : Int) := by omega
          have hdl : dn < K := by omega
          have HT5 := HT
          go_wp2_with fail
          refine (within7_any _ 5 _ (by omega) (by omega)).mono ?_
          rintro e wr ⟨rfl, rfl⟩
          rw [hy]
          clear hcz
          go_wp2_with fail
          refine (erase_bad (unhide HN) ((unhide HS).alive hdl) 9 9 (fun h => by have h1 : (9 : Int) < (s.D : Int) := h.1.1.2; rw [(unhide HS).D] at h1; omega)).mono ?_
          rintro e w6 ⟨rfl, hN6, hK6⟩
          have HN6 := hide hN6
          have HL6 : Hid (L.n = L.n) := rfl
          have HT6 := hide ((unhide HT5).trans (hK6.below.mono hm0))
          clear hN6 hK6
          have HO6 := hide ((unhide HS).wrong (inc s.wrong))
          have hde : ((dn : Int) == (K : Int)) = false := by rw [beq_eq_false_iff_ne]; omega
          go_wp2_with fail
          refine (dead_q (unhide HN6) rfl).mono ?_
          rintro e w6 ⟨rfl, rfl⟩
          rw [(unhide HO6).dead, decide_eq_false (by omega)]
          go_wp2_with fail
          refine (ops_q (unhide HN6) rfl).mono ?_
          rintro e w6 ⟨rfl, rfl⟩
          rw [(unhide HO6).ops]
          go_wp2_with fail
          go_roundw
          case rel => exact ⟨i + 1, dn, nx, op, L, _, by go_num, by go_num, by go_num, by go_num, by omega, by omega, by omega, by omega, rfl, HN6, HO6, HT6⟩
          case measure => simp [intOf]; omega
    · by_cases hle : i < len
      · have hi1 : (i : Int) < (len : Int) := by omega
        have hi2 : (40 : Int) ≤ (i : Int) := by omega
        go_wp2_with fail
        go_ret
        exact ⟨rfl, unhide HT⟩
      · have hi1 : (len : Int) ≤ (i : Int) := by omega
        go_wp2_with fail
        go_ret
        exact ⟨rfl, unhide HT⟩

end Go.Proofs.Ytnondiaefpdlpab
