/-
  The laws' own Decode (ramekinref11).
-/
import Derived.Test.YtjdikhelabibnaaGreatR11x
import Derived.Test.YtjdikhelabibnaaGreatQ5f
import Derived.Test.YtjdikhelabibnaaGreatR10p
namespace Go.Proofs.YtjdikhelabibnaaGreat
open Go Go.RowKit Go.Shelf

set_option maxRecDepth 100000 in
set_option maxHeartbeats 32000000 in
theorem rdec11_any (super at' : Int) (ao : Option Addr) (n c g : Nat) (l : List PV) (most : Int) (hlen : ∀ i, (l.getD i zPV).x.length ≤ 100000) (w : World) (hL : PgArg w (.slice ao n c) g l) :
    Calls Tryz.prog 19 #[.int .i64 super, .int .i64 at', .slice ao n c, .int .i64 most] w fun e w' => DecW w w' e super at' l most := by
  have HL := hide hL
  obtain ⟨hln, hnc, hcm, -⟩ := hL.mrow
  have HLN := hide hln
  have HLEN := hide hlen
  have hnm : (n : Int) ≤ 9223372036854775807 := by unfold maxLen at hcm; omega
  have HEX := hide hL.ex
  clear hL hln hlen hnc hcm
  obtain ⟨w1, hw1⟩ : ∃ w1, w.alloc (.cells #[.int .i64 0, .int .i64 0, .slice none 0 0] 37) = w1 := ⟨_, rfl⟩
  have HT : Hid (Below w.heap.size w w1) := by rw [← hw1]; exact (Below.refl _ w).alloc (Nat.le_refl _) _
  have HQ : Hid (RwAt w1 w.heap.size 0 0 (.slice none 0 0)) := ⟨by rw [← hw1]; exact World.alloc_heap_new w _⟩
  have HW1 : Hid (w1.heap.size = w.heap.size + 1) := by show _ = _; rw [← hw1]; simp
  have HNO : Hid (¬ ((6 ≤ n ∧ n ≤ 8) ∧ 0 ≤ most ∧ most ≤ 2) → decF super at' l most = (zRow, 1)) := fun h => by unfold decF; rw [if_pos (by rw [unhide HLN]; exact h)]
  by_cases q0 : (n : Int) < 6
  · have HD := hide (unhide HNO (by omega))
    clear HNO
    go_enter Tryz.func19, Tryz.ntmps19
    have hq : RwAt (w1.setRow w.heap.size #[.int .i64 0, .int .i64 0, .slice none 0 0]) w.heap.size 0 0 (.slice none 0 0) := ⟨setRow_heap _ _ _ _ _ _ (unhide HQ).blk⟩
    have hfin : DecW w (w1.setRow w.heap.size #[.int .i64 0, .int .i64 0, .slice none 0 0]) (.returned (.tuple #[.agg #[.int .i64 0, .int .i64 0, .slice none 0 0], .int .i64 (decF super at' l most).2])) super at' l most := ⟨below_setRow11 (unhide HT) (Nat.le_refl _) _, _, rfl, by rw [unhide HD]; exact ⟨_, 0, rfl, EArg.nil _, fun h => absurd rfl h⟩⟩
    rw [unhide HD] at hfin
    have HFIN := hide hfin
    have HQQ := hide hq.load
    clear hq hfin
    go_wp2_with (first | ((with_reducible refine gateS 37 _ _ rfl ?_); refine wpList_store_row rfl 37 _ _ rfl w.heap.size #[.int .i64 0, .int .i64 0, .slice none 0 0] rfl rfl 37 _ (unhide HQ).blk (by kernel_rfl) rfl (one_row11 _ _ _ _ _) ?_) | ((with_reducible refine gateR ?_); exact bodyPost_ret (results_ct11 (p := 8) (r := 9) rfl _ _ ⟨w.heap.size, 0, none⟩ _ rfl (unhide HQQ)) rfl (unhide HFIN)))
  replace q0 : 6 ≤ n := by omega
  by_cases q1 : 8 < (n : Int)
  · have HD := hide (unhide HNO (by omega))
    clear HNO
    go_enter Tryz.func19, Tryz.ntmps19
    have hq : RwAt (w1.setRow w.heap.size #[.int .i64 0, .int .i64 0, .slice none 0 0]) w.heap.size 0 0 (.slice none 0 0) := ⟨setRow_heap _ _ _ _ _ _ (unhide HQ).blk⟩
    have hfin : DecW w (w1.setRow w.heap.size #[.int .i64 0, .int .i64 0, .slice none 0 0]) (.returned (.tuple #[.agg #[.int .i64 0, .int .i64 0, .slice none 0 0], .int .i64 (decF super at' l most).2])) super at' l most := ⟨below_setRow11 (unhide HT) (Nat.le_refl _) _, _, rfl, by rw [unhide HD]; exact ⟨_, 0, rfl, EArg.nil _, fun h => absurd rfl h⟩⟩
    rw [unhide HD] at hfin
    have HFIN := hide hfin
    have HQQ := hide hq.load
    clear hq hfin
    go_wp2_with (first | ((with_reducible refine gateS 37 _ _ rfl ?_); refine wpList_store_row rfl 37 _ _ rfl w.heap.size #[.int .i64 0, .int .i64 0, .slice none 0 0] rfl rfl 37 _ (unhide HQ).blk (by kernel_rfl) rfl (one_row11 _ _ _ _ _) ?_) | ((with_reducible refine gateR ?_); exact bodyPost_ret (results_ct11 (p := 8) (r := 9) rfl _ _ ⟨w.heap.size, 0, none⟩ _ rfl (unhide HQQ)) rfl (unhide HFIN)))
  replace q1 : n ≤ 8 := by omega
  by_cases q2 : most < 0
  · have HD := hide (unhide HNO (by omega))
    clear HNO
    go_enter Tryz.func19, Tryz.ntmps19
    have hq : RwAt (w1.setRow w.heap.size #[.int .i64 0, .int .i64 0, .slice none 0 0]) w.heap.size 0 0 (.slice none 0 0) := ⟨setRow_heap _ _ _ _ _ _ (unhide HQ).blk⟩
    have hfin : DecW w (w1.setRow w.heap.size #[.int .i64 0, .int .i64 0, .slice none 0 0]) (.returned (.tuple #[.agg #[.int .i64 0, .int .i64 0, .slice none 0 0], .int .i64 (decF super at' l most).2])) super at' l most := ⟨below_setRow11 (unhide HT) (Nat.le_refl _) _, _, rfl, by rw [unhide HD]; exact ⟨_, 0, rfl, EArg.nil _, fun h => absurd rfl h⟩⟩
    rw [unhide HD] at hfin
    have HFIN := hide hfin
    have HQQ := hide hq.load
    clear hq hfin
    go_wp2_with (first | ((with_reducible refine gateS 37 _ _ rfl ?_); refine wpList_store_row rfl 37 _ _ rfl w.heap.size #[.int .i64 0, .int .i64 0, .slice none 0 0] rfl rfl 37 _ (unhide HQ).blk (by kernel_rfl) rfl (one_row11 _ _ _ _ _) ?_) | ((with_reducible refine gateR ?_); exact bodyPost_ret (results_ct11 (p := 8) (r := 9) rfl _ _ ⟨w.heap.size, 0, none⟩ _ rfl (unhide HQQ)) rfl (unhide HFIN)))
  replace q2 : 0 ≤ most := by omega
  by_cases q3 : 2 < most
  · have HD := hide (unhide HNO (by omega))
    clear HNO
    go_enter Tryz.func19, Tryz.ntmps19
    have hq : RwAt (w1.setRow w.heap.size #[.int .i64 0, .int .i64 0, .slice none 0 0]) w.heap.size 0 0 (.slice none 0 0) := ⟨setRow_heap _ _ _ _ _ _ (unhide HQ).blk⟩
    have hfin : DecW w (w1.setRow w.heap.size #[.int .i64 0, .int .i64 0, .slice none 0 0]) (.returned (.tuple #[.agg #[.int .i64 0, .int .i64 0, .slice none 0 0], .int .i64 (decF super at' l most).2])) super at' l most := ⟨below_setRow11 (unhide HT) (Nat.le_refl _) _, _, rfl, by rw [unhide HD]; exact ⟨_, 0, rfl, EArg.nil _, fun h => absurd rfl h⟩⟩
    rw [unhide HD] at hfin
    have HFIN := hide hfin
    have HQQ := hide hq.load
    clear hq hfin
    go_wp2_with (first | ((with_reducible refine gateS 37 _ _ rfl ?_); refine wpList_store_row rfl 37 _ _ rfl w.heap.size #[.int .i64 0, .int .i64 0, .slice none 0 0] rfl rfl 37 _ (unhide HQ).blk (by kernel_rfl) rfl (one_row11 _ _ _ _ _) ?_) | ((with_reducible refine gateR ?_); exact bodyPost_ret (results_ct11 (p := 8) (r := 9) rfl _ _ ⟨w.heap.size, 0, none⟩ _ rfl (unhide HQQ)) rfl (unhide HFIN)))
  replace q3 : most ≤ 2 := by omega
  have HC : Hid ((6 ≤ l.length ∧ l.length ≤ 8) ∧ 0 ≤ most ∧ most ≤ 2) := by rw [unhide HLN]; exact ⟨⟨q0, q1⟩, q2, q3⟩
  clear HNO
  obtain ⟨o, hao, hcl⟩ : ∃ o, ao = some ⟨g, o, none⟩ ∧ ∀ i, i < n → w.rangeAt g (o + i * 2) (l.getD i zPV).cs := by
    obtain ⟨ao', c', hv, -, -, -, hr⟩ := unhide HEX
    obtain ⟨rfl, hnl, rfl⟩ : ao = ao' ∧ n = l.length ∧ c = c' := by cases hv; exact ⟨rfl, rfl, rfl⟩
    obtain ⟨o, h1, h2⟩ := hr (fun h => by rw [h] at hnl; simp at hnl; omega)
    exact ⟨o, h1, fun i hi => h2 i (by omega)⟩
  subst hao
  have HCL := hide hcl
  clear hcl HEX
  have z0 : decide ((n : Int) < 6) = false := decide_eq_false (by omega)
  have z1 : decide (8 < (n : Int)) = false := decide_eq_false (by omega)
  have z2 : decide (most < 0) = false := decide_eq_false (by omega)
  have z3 : decide (2 < most) = false := decide_eq_false (by omega)
  go_enter Tryz.func19, Tryz.ntmps19
  go_wp2_with fail
  refine (started_any _ n c g l w1 ((unhide HL).below (unhide HT))).mono ?_
  rintro e w2 ⟨rfl, hw2⟩
  rw [hw2]
  clear hw2 w2 z0 z1 z2 z3
  obtain ⟨sb, hsb⟩ : ∃ sb, l.any (fun p => !(p.st == 0)) = sb := ⟨_, rfl⟩
  have HSB := hide hsb
  rw [hsb]
  clear hsb
  cases sb
  · have HD : Hid (decF super at' l most = (zRow, 2)) := decF_sta2 (unhide HC) (staF_all (unhide HSB)) (by decide)
    have hq : RwAt (w1.setRow w.heap.size #[.int .i64 0, .int .i64 0, .slice none 0 0]) w.heap.size 0 0 (.slice none 0 0) := ⟨setRow_heap _ _ _ _ _ _ (unhide HQ).blk⟩
    have hfin : DecW w (w1.setRow w.heap.size #[.int .i64 0, .int .i64 0, .slice none 0 0]) (.returned (.tuple #[.agg #[.int .i64 0, .int .i64 0, .slice none 0 0], .int .i64 (decF super at' l most).2])) super at' l most := ⟨below_setRow11 (unhide HT) (Nat.le_refl _) _, _, rfl, by rw [unhide HD]; exact ⟨_, 0, rfl, EArg.nil _, fun h => absurd rfl h⟩⟩
    rw [unhide HD] at hfin
    have HFIN := hide hfin
    have HQQ := hide hq.load
    clear hq hfin
    go_wp2_with (first | ((with_reducible refine gateS 37 _ _ rfl ?_); refine wpList_store_row rfl 37 _ _ rfl w.heap.size #[.int .i64 0, .int .i64 0, .slice none 0 0] rfl rfl 37 _ (unhide HQ).blk (by kernel_rfl) rfl (one_row11 _ _ _ _ _) ?_) | ((with_reducible refine gateR ?_); exact bodyPost_ret (results_ct11 (p := 8) (r := 9) rfl _ _ ⟨w.heap.size, 0, none⟩ _ rfl (unhide HQQ)) rfl (unhide HFIN)))
  clear hw1
  go_wp2_with fail
  go_loopw [10, 11, 12] (fun v10 v11 i wr => ∃ (k : Nat), k ≤ n ∧ i = .int .i64 k ∧ OwnI w1.heap.size wr v10 (lostK l k) ∧ wr.ownsRow w1.heap.size 47 1 v11 k (valK l k) ∧ Below w1.heap.size w1 wr ∧ ∀ j, j < k → ¬ (l.getD j zPV).st = 0) (fun _ _ i _ => n - (intOf i).toNat)
  case atStart => exact ⟨0, by omega, rfl, OwnI.nil _ _, World.ownsRow_nil _ _ _ _, Below.refl _ _, by omega⟩
  case round =>
    obtain ⟨k, hkn, rfl, hO, hV, hB, hz⟩ := hrel
    obtain ⟨za, zc, hv, -⟩ := own_shape11 hO
    subst hv
    obtain ⟨va, vc, hv, -⟩ := own_shape11 hV
    subst hv
    have HO := hide hO
    have HV := hide hV
    have HB := hide hB
    have HZ := hide hz
    have HTB : Hid (Below w.heap.size w wr) := (unhide HT).trans (hB.mono (unhide HT).size)
    have HQ1 := HQ
    replace HQ := hide ((unhide HQ).below hB)
    clear hO hV hB hz
    by_cases hlt : k < n
    · have hi1 : (k : Int) < (n : Int) := by omega
      have hcl := unhide HCL k hlt
      obtain ⟨p, hp⟩ : ∃ p, l.getD k zPV = p := ⟨_, rfl⟩
      rw [hp] at hcl
      have HP := hide hp
      have hc0 : wr.cell? ⟨g, o + k * 2, none⟩ = some (.int .i64 p.st) := ((unhide HTB).cell (block_lt_of_cell (hcl 0 _ rfl))).trans (hcl 0 _ rfl)
      have HC1 : Hid (w.cell? ⟨g, o + k * 2 + 1, none⟩ = some (.slice p.bo p.x.length p.bc)) := hcl 1 _ rfl
      clear hcl hp
      obtain ⟨s, hs⟩ : ∃ s, p.st = s := ⟨_, rfl⟩
      have HS := hide hs
      rw [hs] at hc0
      clear hs
      by_cases h0 : s = 0
      · have HD : Hid (decF super at' l most = (zRow, 5)) := decF_sta2 (unhide HC) (staF_some (unhide HSB) (by rw [unhide HLN]; exact hlt) (by rw [unhide HP, unhide HS, h0])) (by decide)
        rw [h0] at hc0
        have hq : RwAt (wr.setRow w.heap.size #[.int .i64 0, .int .i64 0, .slice none 0 0]) w.heap.size 0 0 (.slice none 0 0) := ⟨setRow_heap _ _ _ _ _ _ (unhide HQ).blk⟩
        have hfin : DecW w (wr.setRow w.heap.size #[.int .i64 0, .int .i64 0, .slice none 0 0]) (.returned (.tuple #[.agg #[.int .i64 0, .int .i64 0, .slice none 0 0], .int .i64 (decF super at' l most).2])) super at' l most := ⟨below_setRow11 (unhide HTB) (Nat.le_refl _) _, _, rfl, by rw [unhide HD]; exact ⟨_, 0, rfl, EArg.nil _, fun h => absurd rfl h⟩⟩
        rw [unhide HD] at hfin
        have HFIN := hide hfin
        have HQQ := hide hq.load
        clear hq hfin
        go_wp2_with (first | ((with_reducible refine gateS 37 _ _ rfl ?_); refine wpList_store_row rfl 37 _ _ rfl w.heap.size #[.int .i64 0, .int .i64 0, .slice none 0 0] rfl rfl 37 _ (unhide HQ).blk (by kernel_rfl) rfl (one_row11 _ _ _ _ _) ?_) | ((with_reducible refine gateR ?_); exact bodyPost_ret (results_ct11 (p := 8) (r := 9) rfl _ _ ⟨w.heap.size, 0, none⟩ _ rfl (unhide HQQ)) rfl (unhide HFIN)))
      have h0b : (s == 0) = false := by simpa using h0
      have HS0 := hide h0
      have HNX : Hid (∀ j, j < k + 1 → ¬ (l.getD j zPV).st = 0) := fun j hj => by
        by_cases e : j = k
        · rw [e, unhide HP, unhide HS]; exact unhide HS0
        · exact unhide HZ j (by omega)
      clear h0
      by_cases h2 : s = 2
      · have HLK : Hid (lostK l (k + 1) = lostK l k) := lostK_yes (by rw [unhide HP, unhide HS, h2])
        rw [h2] at hc0 h0b
        have hc1 : wr.cell? ⟨g, o + k * 2 + 1, none⟩ = some (.slice p.bo p.x.length p.bc) := ((unhide HTB).cell (block_lt_of_cell (unhide HC1))).trans (unhide HC1)
        have HPL : Hid (valK l (k + 1) = valK l k ++ [.slice p.bo p.x.length p.bc]) := by rw [Hid, valK_snoc, unhide HP]; rfl
        have hzq := (unhide HB).size
        have hal : Below wr.heap.size wr (wr.alloc (.cells #[.slice p.bo p.x.length p.bc] 47)) := (Below.refl _ _).alloc (Nat.le_refl _) _
        have hov := own_keep11 (unhide HV) (fun q cur _ hq => hal.block q (Array.getElem?_eq_some_iff.1 hq).1)
        obtain ⟨i0, hi0, hz0, hz1, hz2⟩ := info_parts infoR
        obtain ⟨v9, w9, hr9, ho9, hg9⟩ := run_append_vals (wr.alloc (.cells #[.slice p.bo p.x.length p.bc] 47)) w1.heap.size 25 25 47 i0 Tryz.underlying25 hi0 hz0 hz1 hz2 _ k _ hov (some ⟨wr.heap.size, 0, none⟩) wr.heap.size 1 1 [.slice p.bo p.x.length p.bc] rfl (one_src _ _ _ _) (by simp [Value.oneCell']) (fun h => by cases h) (by omega) (by have := hal.size; omega)
        have HO9 : Hid (OwnI w1.heap.size w9 _ _) := own_apart11 ((unhide HO).below hal) hov (by decide) hg9
        have HB9 : Hid (Below w1.heap.size w1 w9) := below_own11 ((unhide HB).trans (hal.mono hzq)) (Nat.le_refl _) hov (Nat.le_refl _) hg9
        have HV9 : Hid (w9.ownsRow w1.heap.size 47 1 v9 (k + 1) (valK l (k + 1))) := by rw [unhide HPL]; exact ho9
        have HRA := hide hr9
        clear hal hov hr9 ho9 hg9 hi0 hz0 hz1 hz2
        obtain ⟨va9, vc9, hv9, -⟩ := own_shape11 (unhide HV9)
        subst hv9
        clear h0b
        go_wp2_with (at_builtin; refine wpList_append_run rfl _ _ _ _ _ rfl _ _ rfl rfl (unhide HRA) ?_)
        go_roundw
        case rel => exact ⟨k + 1, by omega, by go_num, by rw [unhide HLK]; exact unhide HO9, unhide HV9, unhide HB9, unhide HNX⟩
        case measure => simp [intOf]; omega
      · have h2b : (s != 2) = true := by simpa using h2
        have HLK : Hid (lostK l (k + 1) = lostK l k ++ [k]) := lostK_no (by rw [unhide HP, unhide HS]; exact h2)
        have hc1 : wr.cell? ⟨g, o + k * 2 + 1, none⟩ = some (.slice p.bo p.x.length p.bc) := ((unhide HTB).cell (block_lt_of_cell (unhide HC1))).trans (unhide HC1)
        clear h2
        have hkl := lostK_len l k
        have hal : Below wr.heap.size wr (wr.alloc (.cells #[.int .i64 (k : Int)] 3)) := (Below.refl _ _).alloc (Nat.le_refl _) _
        have hzw := (unhide HB).size
        have ho2 : OwnZ w1.heap.size (wr.alloc (.cells #[.int .i64 (k : Int)] 3)) (.slice za (lostK l k).length zc) (ints (lostK l k)) := by
          have h := (unhide HO).below hal
          unfold OwnZ
          rw [ints_len]
          exact h
        obtain ⟨v8, w8, hr8, ho8, hg8⟩ := run_append_z (wr.alloc (.cells #[.int .i64 (k : Int)] 3)) w1.heap.size 34 _ (ints (lostK l k)) [(k : Int)] ho2 (some ⟨wr.heap.size, 0, none⟩) wr.heap.size 1 1 rfl (.inr ⟨0, rfl, fun j hj => by
          have : j = 0 := by simpa using hj
          subst this
          exact (cell_new' wr _ _).1⟩) (fun h => by cases h) (by rw [ints_len]; omega) (by have := hal.size; omega)
        have HV8 : Hid (w8.ownsRow w1.heap.size 47 1 (.slice va k vc) k (valK l k)) := own_apart11 (own_keep11 (unhide HV) (fun q cur _ hq => hal.block q (Array.getElem?_eq_some_iff.1 hq).1)) ho2 (by decide) hg8
        have HB8 : Hid (Below w1.heap.size w1 w8) := below_own11 ((unhide HB).trans (hal.mono hzw)) (Nat.le_refl _) ho2 (Nat.le_refl _) hg8
        have HO8 : Hid (OwnI w1.heap.size w8 v8 (lostK l k ++ [k])) := by
          have h := ho8
          unfold OwnZ at h
          show w8.ownsRow _ _ _ _ _ _
          have e : ints (lostK l k ++ [k]) = ints (lostK l k) ++ [(k : Int)] := by simp [ints]
          rw [e]
          rw [List.length_append, ints_len] at h
          rw [List.length_append]
          exact h
        have HTB8 : Hid (Below w.heap.size w w8) := (unhide HT).trans ((unhide HB8).mono (unhide HT).size)
        have hc18 : w8.cell? ⟨g, o + k * 2 + 1, none⟩ = some (.slice p.bo p.x.length p.bc) := ((unhide HTB8).cell (block_lt_of_cell (unhide HC1))).trans (unhide HC1)
        have HRZ := hide hr8
        clear hal ho2 hr8 ho8 hg8 hc1
        have HPL : Hid (valK l (k + 1) = valK l k ++ [.slice p.bo p.x.length p.bc]) := by rw [Hid, valK_snoc, unhide HP]; rfl
        have hzq := (unhide HB8).size
        have hal : Below w8.heap.size w8 (w8.alloc (.cells #[.slice p.bo p.x.length p.bc] 47)) := (Below.refl _ _).alloc (Nat.le_refl _) _
        have hov := own_keep11 (unhide HV8) (fun q cur _ hq => hal.block q (Array.getElem?_eq_some_iff.1 hq).1)
        obtain ⟨i0, hi0, hz0, hz1, hz2⟩ := info_parts infoR
        obtain ⟨v9, w9, hr9, ho9, hg9⟩ := run_append_vals (w8.alloc (.cells #[.slice p.bo p.x.length p.bc] 47)) w1.heap.size 25 25 47 i0 Tryz.underlying25 hi0 hz0 hz1 hz2 _ k _ hov (some ⟨w8.heap.size, 0, none⟩) w8.heap.size 1 1 [.slice p.bo p.x.length p.bc] rfl (one_src _ _ _ _) (by simp [Value.oneCell']) (fun h => by cases h) (by omega) (by have := hal.size; omega)
        have HO9 : Hid (OwnI w1.heap.size w9 _ _) := own_apart11 ((unhide HO8).below hal) hov (by decide) hg9
        have HB9 : Hid (Below w1.heap.size w1 w9) := below_own11 ((unhide HB8).trans (hal.mono hzq)) (Nat.le_refl _) hov (Nat.le_refl _) hg9
        have HV9 : Hid (w9.ownsRow w1.heap.size 47 1 v9 (k + 1) (valK l (k + 1))) := by rw [unhide HPL]; exact ho9
        have HRA := hide hr9
        clear hal hov hr9 ho9 hg9 hi0 hz0 hz1 hz2
        obtain ⟨va9, vc9, hv9, -⟩ := own_shape11 (unhide HV9)
        subst hv9
        obtain ⟨za8, zc8, hv8, -⟩ := own_shape11 (unhide HO8)
        subst hv8
        go_wp2_with (at_builtin; first | (refine wpList_append_run rfl _ _ _ _ _ rfl _ _ rfl rfl (unhide HRZ) ?_) | (refine wpList_append_run rfl _ _ _ _ _ rfl _ _ rfl rfl (unhide HRA) ?_))
        go_roundw
        case rel => exact ⟨k + 1, by omega, by go_num, by have h := unhide HO9; rw [List.length_append] at h; rw [unhide HLK]; exact h, unhide HV9, unhide HB9, unhide HNX⟩
        case measure => simp [intOf]; omega
    · have hkn2 : k = n := by omega
      subst hkn2
      have hi1 : (k : Int) ≤ (k : Int) := Int.le_refl _
      have hnb : ∀ j, j < l.length → ¬ (l.getD j zPV).st = 0 := by rw [unhide HLN]; exact unhide HZ
      have hnbp : ∀ p ∈ l, p.st ≠ 0 := fun p hp => by
        obtain ⟨i, hi, he⟩ := mem_getD11 (z := zPV) hp
        rw [← he]; exact hnb i hi
      have hlg : lostK l k = lostG l := by rw [← unhide HLN]; exact lostK_all hnb
      rw [hlg] at HO ⊢
      have hsf : staF l most = if most < ((lostG l).length : Int) then 11 else 0 := staF_rest (unhide HSB) hnb
      have hl8 : (lostG l).length ≤ 8 := by have := lostK_len l k; rw [hlg] at this; omega
      have HSF := hide hsf
      have HNB := hide hnbp
      clear hnb hnbp hlg hsf HZ
      obtain ⟨Lz, hLz⟩ : ∃ Lz, (lostG l).length = Lz := ⟨_, rfl⟩
      have HLZ := hide hLz
      rw [hLz] at HO HSF hl8 ⊢
      clear hLz
      by_cases hmo : most < (Lz : Int)
      · have HD : Hid (decF super at' l most = (zRow, 11)) := decF_sta2 (unhide HC) (by rw [unhide HSF, if_pos hmo]) (by decide)
        have hq : RwAt (wr.setRow w.heap.size #[.int .i64 0, .int .i64 0, .slice none 0 0]) w.heap.size 0 0 (.slice none 0 0) := ⟨setRow_heap _ _ _ _ _ _ (unhide HQ).blk⟩
        have hfin : DecW w (wr.setRow w.heap.size #[.int .i64 0, .int .i64 0, .slice none 0 0]) (.returned (.tuple #[.agg #[.int .i64 0, .int .i64 0, .slice none 0 0], .int .i64 (decF super at' l most).2])) super at' l most := ⟨below_setRow11 (unhide HTB) (Nat.le_refl _) _, _, rfl, by rw [unhide HD]; exact ⟨_, 0, rfl, EArg.nil _, fun h => absurd rfl h⟩⟩
        rw [unhide HD] at hfin
        have HFIN := hide hfin
        have HQQ := hide hq.load
        clear hq hfin
        go_wp2_with (first | ((with_reducible refine gateS 37 _ _ rfl ?_); refine wpList_store_row rfl 37 _ _ rfl w.heap.size #[.int .i64 0, .int .i64 0, .slice none 0 0] rfl rfl 37 _ (unhide HQ).blk (by kernel_rfl) rfl (one_row11 _ _ _ _ _) ?_) | ((with_reducible refine gateR ?_); exact bodyPost_ret (results_ct11 (p := 8) (r := 9) rfl _ _ ⟨w.heap.size, 0, none⟩ _ rfl (unhide HQQ)) rfl (unhide HFIN)))
      have hmo' : (Lz : Int) ≤ most := by omega
      have hmz : decide (most < (Lz : Int)) = false := decide_eq_false hmo
      have HS0 : Hid (staF l most = 0) := by rw [Hid, unhide HSF, if_neg hmo]
      have hl2 : (lostG l).length ≤ 2 := by rw [unhide HLZ]; omega
      have HL2 := hide hl2
      clear HSF hl8 hmo hl2
      go_wp2_with fail
      clear hmz
      go_loopw [13] (fun i wq => ∃ (j : Nat), j ≤ k ∧ i = .int .i64 j ∧ wq = wr ∧ ∀ q, q < j → oddP (l.getD q zPV) = false) (fun i _ => k - (intOf i).toNat)
      case atStart => exact ⟨0, by omega, rfl, rfl, by omega⟩
      case round =>
        obtain ⟨j, hjn, rfl, rfl, hod⟩ := hrel
        have HOD := hide hod
        clear hod
        by_cases hlt : j < k
        · have hi1 : (j : Int) < (k : Int) := by omega
          have hcl := unhide HCL j hlt
          obtain ⟨p, hp⟩ : ∃ p, l.getD j zPV = p := ⟨_, rfl⟩
          rw [hp] at hcl
          have HP := hide hp
          have hc0 : wr.cell? ⟨g, o + j * 2, none⟩ = some (.int .i64 p.st) := ((unhide HTB).cell (block_lt_of_cell (hcl 0 _ rfl))).trans (hcl 0 _ rfl)
          have hc1 : wr.cell? ⟨g, o + j * 2 + 1, none⟩ = some (.slice p.bo p.x.length p.bc) := ((unhide HTB).cell (block_lt_of_cell (hcl 1 _ rfl))).trans (hcl 1 _ rfl)
          clear hcl hp
          obtain ⟨s, hs⟩ : ∃ s, p.st = s := ⟨_, rfl⟩
          have HS := hide hs
          rw [hs] at hc0
          clear hs
          by_cases h2 : s = 2
          · rw [h2] at hc0
            have HS2 := hide h2
            clear h2
            obtain ⟨xl, hxl⟩ : ∃ xl, p.x.length = xl := ⟨_, rfl⟩
            have HXL := hide hxl
            rw [hxl] at hc1
            have hxm : (xl : Int) ≤ 9223372036854775807 := by have := unhide HLEN j; rw [unhide HP, hxl] at this; omega
            clear hxl
            by_cases h48 : xl = 48
            · have HO48 : Hid (oddP (l.getD j zPV) = false) := by rw [Hid, unhide HP]; unfold oddP; rw [unhide HXL, h48]; simp
              rw [h48] at hc1
              clear h48 hxm HXL
              go_wp2_with fail
              go_roundw
              case rel => exact ⟨j + 1, by omega, by go_num, trivial, fun q hq => by
                by_cases e : q = j
                · rw [e]; exact unhide HO48
                · exact unhide HOD q (by omega)⟩
              case measure => simp [intOf]; omega
            · have hany : l.any oddP = true := by
                rw [List.any_eq_true]
                refine ⟨_, getD_mem11 (z := zPV) (i := j) (by rw [unhide HLN]; exact hlt), ?_⟩
                rw [unhide HP]; unfold oddP; rw [unhide HXL, unhide HS, unhide HS2]; simpa using h48
              have HD : Hid (decF super at' l most = (zRow, 5)) := decF_no (unhide HC) (unhide HS0) (by rw [hany]; rfl)
              have h48b : ((xl : Int) != 48) = true := by rw [bne_iff_ne]; omega
              clear hany h48
              have hq : RwAt (wr.setRow w.heap.size #[.int .i64 0, .int .i64 0, .slice none 0 0]) w.heap.size 0 0 (.slice none 0 0) := ⟨setRow_heap _ _ _ _ _ _ (unhide HQ).blk⟩
              have hfin : DecW w (wr.setRow w.heap.size #[.int .i64 0, .int .i64 0, .slice none 0 0]) (.returned (.tuple #[.agg #[.int .i64 0, .int .i64 0, .slice none 0 0], .int .i64 (decF super at' l most).2])) super at' l most := ⟨below_setRow11 (unhide HTB) (Nat.le_refl _) _, _, rfl, by rw [unhide HD]; exact ⟨_, 0, rfl, EArg.nil _, fun h => absurd rfl h⟩⟩
              rw [unhide HD] at hfin
              have HFIN := hide hfin
              have HQQ := hide hq.load
              clear hq hfin
              go_wp2_with (first | ((with_reducible refine gateS 37 _ _ rfl ?_); refine wpList_store_row rfl 37 _ _ rfl w.heap.size #[.int .i64 0, .int .i64 0, .slice none 0 0] rfl rfl 37 _ (unhide HQ).blk (by kernel_rfl) rfl (one_row11 _ _ _ _ _) ?_) | ((with_reducible refine gateR ?_); exact bodyPost_ret (results_ct11 (p := 8) (r := 9) rfl _ _ ⟨w.heap.size, 0, none⟩ _ rfl (unhide HQQ)) rfl (unhide HFIN)))
          · have h2b : (s == 2) = false := by simpa using h2
            have HO48 : Hid (oddP (l.getD j zPV) = false) := by rw [Hid, unhide HP]; unfold oddP; rw [unhide HS, h2b]; rfl
            clear h2
            go_wp2_with fail
            go_roundw
            case rel => exact ⟨j + 1, by omega, by go_num, trivial, fun q hq => by
              by_cases e : q = j
              · rw [e]; exact unhide HO48
              · exact unhide HOD q (by omega)⟩
            case measure => simp [intOf]; omega
        · have hjk : j = k := by omega
          subst hjk
          have hany : l.any oddP = false := by
            rw [List.any_eq_false]
            intro p hp
            obtain ⟨i, hi, he⟩ := mem_getD11 (z := zPV) hp
            rw [← he, unhide HOD i (by have := unhide HLN; omega)]
            decide
          obtain ⟨hX1, hX2⟩ := pay_fix2 (unhide HLN) q0 q1 (unhide HNB) (unhide HL2) hany
          have HANY := hide hany
          have HX1 := hide hX1
          have HX2 := hide hX2
          obtain ⟨G, hRG⟩ := rargK (unhide HLN) (by omega) (unhide HV) (fun i hi => ((unhide HL).get_ok i).below (unhide HTB))
          obtain ⟨gz, hZG, -⟩ := (unhide HO).z (fun i hi => by have := List.mem_range.1 (List.mem_filter.1 hi).1; rw [unhide HLN] at this; omega)
          have HFX := hide (rfix_any _ G _ _ _ _ gz _ wr hRG hZG (fun i => by rw [getD_map11]; exact unhide HLEN i))
          clear hany hX1 hX2 hRG hZG HOD
          go_wp2_with fail
          refine (unhide HFX).mono ?_
          rintro e w3 ⟨hk, (⟨-, v3, G3, A3, C3, X, m, rfl, hOUT, hFX⟩ | ⟨h, -⟩)⟩
          rotate_left 1
          · rw [unhide HX1] at h; cases h
          obtain ⟨xo, xc, hxv, -⟩ := hOUT.ex
          obtain ⟨e1, e2, e3⟩ := unhide HX2 X m hFX
          rw [e2] at hxv
          subst hxv
          have HE1 := hide e1
          have HE2 := hide e2
          have HE3 := hide e3
          have HT3 := hide ((unhide HTB).trans (hk.mono (unhide HTB).size))
          replace HQ := hide ((unhide HQ).below hk)
          have HOUT := hide hOUT
          clear hk e1 e2 e3 hFX hOUT HFX HX1 HX2 HV HO HB HQ1
          go_wp2_with fail
          refine (rcheck_any _ G3 A3 C3 X w3 (unhide HOUT) (fun i => by
            by_cases hi : i < j
            · rw [unhide HE3 i hi]; omega
            · rw [List.getD_eq_getElem?_getD, List.getElem?_eq_none (by rw [unhide HE2]; omega)]; simp)).mono ?_
          rintro e w4 ⟨rfl, hk⟩
          have HT4 := hide ((unhide HT3).trans (hk.mono (unhide HT3).size))
          replace HQ := hide ((unhide HQ).below hk)
          replace HOUT := hide ((unhide HOUT).below hk)
          clear hk HT3 HTB
          obtain ⟨cb, hcb⟩ : ∃ cb, chk X = cb := ⟨_, rfl⟩
          have HCB := hide hcb
          rw [hcb]
          clear hcb
          cases cb
          · have HD : Hid (decF super at' l most = (zRow, 5)) := decF_no (unhide HC) (unhide HS0) (by rw [unhide HE1, unhide HCB, unhide HANY]; rfl)
            have hq : RwAt (w4.setRow w.heap.size #[.int .i64 0, .int .i64 0, .slice none 0 0]) w.heap.size 0 0 (.slice none 0 0) := ⟨setRow_heap _ _ _ _ _ _ (unhide HQ).blk⟩
            have hfin : DecW w (w4.setRow w.heap.size #[.int .i64 0, .int .i64 0, .slice none 0 0]) (.returned (.tuple #[.agg #[.int .i64 0, .int .i64 0, .slice none 0 0], .int .i64 (decF super at' l most).2])) super at' l most := ⟨below_setRow11 (unhide HT4) (Nat.le_refl _) _, _, rfl, by rw [unhide HD]; exact ⟨_, 0, rfl, EArg.nil _, fun h => absurd rfl h⟩⟩
            rw [unhide HD] at hfin
            have HFIN := hide hfin
            have HQQ := hide hq.load
            clear hq hfin
            go_wp2_with (first | ((with_reducible refine gateS 37 _ _ rfl ?_); refine wpList_store_row rfl 37 _ _ rfl w.heap.size #[.int .i64 0, .int .i64 0, .slice none 0 0] rfl rfl 37 _ (unhide HQ).blk (by kernel_rfl) rfl (one_row11 _ _ _ _ _) ?_) | ((with_reducible refine gateR ?_); exact bodyPost_ret (results_ct11 (p := 8) (r := 9) rfl _ _ ⟨w.heap.size, 0, none⟩ _ rfl (unhide HQQ)) rfl (unhide HFIN)))
          have HDF : Hid (decF super at' l most = rowF super at' X) := by rw [Hid, decF_yes (unhide HC) (unhide HS0) (by rw [unhide HE1, unhide HCB, unhide HANY]; rfl), unhide HE1]
          obtain ⟨d, hd⟩ : ∃ d, j = d + 2 := ⟨j - 2, by omega⟩
          subst hd
          have hdI : ((d + 2 : Nat) : Int) - 2 = (d : Int) := by omega
          have hd4 : 4 ≤ d := by omega
          have hd6 : d ≤ 6 := by omega
          have HXD : Hid (X.length - 2 = d) := by rw [Hid, unhide HE2]; omega
          obtain ⟨w5, hw5⟩ : ∃ w5, w4.alloc (.cells #[.int .i64 0, .int .i64 at', .slice none 0 0] 37) = w5 := ⟨_, rfl⟩
          obtain ⟨bo, hbo⟩ : ∃ bo, w4.heap.size = bo := ⟨_, rfl⟩
          have HK5 : Hid (Below w4.heap.size w4 w5) := by rw [← hw5]; exact (Below.refl _ w4).alloc (Nat.le_refl _) _
          have HR5 : Hid (RwAt w5 bo 0 at' (.slice none 0 0)) := ⟨by rw [← hw5, ← hbo]; exact World.alloc_heap_new w4 _⟩
          have hz5 : w5.heap.size = w4.heap.size + 1 := by rw [← hw5]; simp
          have hz5a : bo + 1 ≤ w5.heap.size := by omega
          have hz5b : w5.heap.size ≤ bo + 1 := by omega
          have HBO := hide hbo
          have HW5 := hide hw5
          have hvr := rarg_vrow (unhide HOUT) (unhide HE2)
          obtain ⟨ox, hox, hcx⟩ := hvr.at (by omega : 0 < d + 2)
          subst hox
          have HCX := hide hcx
          clear hz5 hw5 hvr hcx HS0 HNB HL2 HANY HCB HE1
          go_wp2_with fail
          (try rw [unhide HW5])
          (try rw [hbo])
          clear hbo
          go_loopw [16] (fun i wq => ∃ (k : Nat) (se : Int) (sl : List EV) (v : Value), k ≤ d ∧ i = .int .i64 k ∧ stR super at' X (List.range k) = some (se, sl) ∧ RwAt wq bo se at' v ∧ OwnE w5.heap.size wq v sl ∧ sl.length = k ∧ Below w4.heap.size w4 wq ∧ w5.heap.size ≤ wq.heap.size) (fun i _ => d - (intOf i).toNat)
          case atStart => exact ⟨0, 0, [], .slice none 0 0, by omega, rfl, rfl, unhide HR5, OwnE.nil _ _, rfl, unhide HK5, Nat.le_refl _⟩
          case round =>
            obtain ⟨k, se, sl, v, hkd, rfl, hst, hrw, hown, hsl, hB, hz⟩ := hrel
            obtain ⟨va, vc, hv, -⟩ := hown.1.shape
            rw [hsl] at hv
            subst hv
            have HST := hide hst
            have HRW := hide hrw
            have HOWN := hide hown
            have HSL := hide hsl
            have HB := hide hB
            have HZ := hide hz
            clear hst hrw hown hsl hB hz
            by_cases hlt : k < d
            · have hi1 : (k : Int) < (d : Int) := by omega
              have hlk : (X.getD k []).length = 48 := unhide HE3 k (by omega)
              have hc := ((unhide HB).cell (block_lt_of_cell (unhide HCX k (by omega)))).trans (unhide HCX k (by omega))
              obtain ⟨gk, hAk⟩ := ((unhide HOUT).below (unhide HB)).rows k (by rw [unhide HE2]; omega)
              rw [hlk] at hc hAk
              obtain ⟨ra, rc, hrv, hr1, hr2, -, hrr⟩ := hAk.ex
              obtain ⟨rfl, rfl⟩ : A3 k = ra ∧ C3 k = rc := by rw [hlk] at hrv; cases hrv; exact ⟨rfl, rfl⟩
              have hpz := rparse_any (A3 k) gk 48 (C3 k) (ints (X.getD k [])) wr (by omega) (by rw [ints_len, hlk]) (by rw [hlk] at hr1; exact hr1) (by
                rcases hrr with h | ⟨o2, h1, h2⟩
                · exact .inl h
                · exact .inr (block_lt_of_cell (h2 0 (by rw [ints_len, hlk]; omega)))) (byt_bs hAk.bs) hrr
              have HBY := hide (byt_bs hAk.bs)
              obtain ⟨zs, hzs⟩ : ∃ zs, ints (X.getD k []) = zs := ⟨_, rfl⟩
              have HZS := hide hzs
              rw [hzs] at hpz HBY
              have HPZ := hide hpz
              clear hpz hrr hr1 hr2 hrv hlk hAk hzs
              go_wp2_with fail
              refine (unhide HPZ).mono ?_
              rintro x W1 ⟨hp, hk⟩
              obtain ⟨p0, hp0⟩ : ∃ p, parH zs 0 = p := ⟨_, rfl⟩
              obtain ⟨p1, hp1⟩ : ∃ p, parH zs 1 = p := ⟨_, rfl⟩
              obtain ⟨p2, hp2⟩ : ∃ p, parH zs 2 = p := ⟨_, rfl⟩
              obtain ⟨p3, hp3⟩ : ∃ p, parH zs 3 = p := ⟨_, rfl⟩
              obtain ⟨pe, hpe⟩ : ∃ p, parE zs = p := ⟨_, rfl⟩
              obtain ⟨ev, hev⟩ : ∃ p, parV zs = p := ⟨_, rfl⟩
              have he := parR_ev hp
              rw [hp0, hp1, hp2, hp3, hpe, hev] at he
              subst he
              have HEV : Hid ev.Ok := by rw [← hev]; exact parV_ok (unhide HBY)
              have hstep : stR super at' X (List.range (k + 1)) = if pe = 0 ∧ p0 = (if k = 0 then p0 else se) ∧ p1 = super ∧ p2 = at' ∧ p3 = (k : Int) then some (if k = 0 then p0 else se, sl ++ [ev]) else none := by
                rw [stR_succ, unhide HST]
                unfold stepR
                dsimp only
                rw [unhide HZS, hp0, hp1, hp2, hp3, hpe, hev]
              have HSTEP := hide hstep
              have HK1 := hide hk
              clear hp hp0 hp1 hp2 hp3 hpe hev hstep hk HZS HST HBY HPZ hc
              obtain ⟨W2, hW⟩ : ∃ W, ((((W1.alloc (.cells #[.int .i64 0, .int .i64 0, .int .i64 0, .int .i64 0] 57)).alloc (.cells #[.int .i64 0, .int .i64 0, .int .i64 0, .int .u8 0, .int .u8 0, .int .u8 0, .int .u8 0, .int .u8 0, .int .u8 0, .int .u8 0, .int .u8 0, .int .u8 0, .int .u8 0, .int .u8 0, .int .u8 0, .int .u8 0, .int .u8 0, .int .u8 0, .int .u8 0] 44)).setRow W1.heap.size (#[.int .i64 p0, .int .i64 p1, .int .i64 p2, .int .i64 p3])).setRow (W1.heap.size + 1) (ev.ar)) = W := ⟨_, rfl⟩
              obtain ⟨n1, n2, n3, n4, n5⟩ := two_new10 W1 #[.int .i64 0, .int .i64 0, .int .i64 0, .int .i64 0] #[.int .i64 0, .int .i64 0, .int .i64 0, .int .u8 0, .int .u8 0, .int .u8 0, .int .u8 0, .int .u8 0, .int .u8 0, .int .u8 0, .int .u8 0, .int .u8 0, .int .u8 0, .int .u8 0, .int .u8 0, .int .u8 0, .int .u8 0, .int .u8 0, .int .u8 0] (#[.int .i64 p0, .int .i64 p1, .int .i64 p2, .int .i64 p3]) (ev.ar) 57 44 W2 hW
              have HXW2 := hide n1
              have HYW2 := hide n2
              have HHW2 := hide n3
              have HEW2 := hide n4
              have HKW2 := hide n5
              have HWW2 := hide hW
              clear n1 n2 n3 n4 n5 hW
              have HKK : Hid (Below wr.heap.size wr W2) := (unhide HK1).trans ((unhide HKW2).mono (unhide HK1).size)
              have HB2 : Hid (Below w4.heap.size w4 W2) := (unhide HB).trans ((unhide HKK).mono (unhide HB).size)
              have HT2 : Hid (Below w.heap.size w W2) := (unhide HT4).trans ((unhide HB2).mono (unhide HT4).size)
              have HQ2 := hide ((unhide HQ).below (unhide HB2))
              have HRW2 := hide ((unhide HRW).below (unhide HKK))
              have HOW2 := hide ((unhide HOWN).below (unhide HKK))
              have HNEB : Hid (∀ q, (Value.slice va k vc).ownBlock = some q → w5.heap.size ≤ q ∧ q < wr.heap.size) := fun q hq => (unhide HOWN).1.own.lt q hq
              have HHD : Hid (HdAt W2 W1.heap.size p0 p1 p2 p3) := ⟨(unhide HHW2).blk⟩
              have HED : Hid (EvAt W2 (W1.heap.size + 1) ev) := ⟨(unhide HEW2).blk⟩
              obtain ⟨c0, c1, c2, c3, -⟩ := (unhide HHD).cells
              obtain ⟨cs, -, -⟩ := (unhide HRW2).cells
              have hzz1 := (unhide HK1).size
              have hzz2 := (unhide HKK).size
              have hzz3 := (unhide HHD).lt
              have hzz4 := unhide HZ
              have hzz5 : W1.heap.size + 1 < W2.heap.size := (Array.getElem?_eq_some_iff.1 (unhide HED).blk).1
              clear HB HK1
              have HBAD : Hid (¬ (pe = 0 ∧ p0 = (if k = 0 then p0 else se) ∧ p1 = super ∧ p2 = at' ∧ p3 = (k : Int)) → decF super at' l most = (zRow, 5)) := fun h => by
                rw [unhide HDF]; exact rowF_bad (unhide HXD) hlt (by rw [unhide HSTEP]; exact if_neg h)
              by_cases g0 : pe = 0
              rotate_left 1
              · have HD := hide (unhide HBAD (fun h => g0 (h.1)))
                have f0 : (pe != 0) = true := by rw [bne_iff_ne]; exact g0
                clear g0 HBAD HSTEP
                have hq : RwAt (W2.setRow w.heap.size #[.int .i64 0, .int .i64 0, .slice none 0 0]) w.heap.size 0 0 (.slice none 0 0) := ⟨setRow_heap _ _ _ _ _ _ (unhide HQ2).blk⟩
                have hfin : DecW w (W2.setRow w.heap.size #[.int .i64 0, .int .i64 0, .slice none 0 0]) (.returned (.tuple #[.agg #[.int .i64 0, .int .i64 0, .slice none 0 0], .int .i64 (decF super at' l most).2])) super at' l most := ⟨below_setRow11 (unhide HT2) (Nat.le_refl _) _, _, rfl, by rw [unhide HD]; exact ⟨_, 0, rfl, EArg.nil _, fun h => absurd rfl h⟩⟩
                rw [unhide HD] at hfin
                have HFIN := hide hfin
                have HQQ := hide hq.load
                clear hq hfin
                go_wp2_with (first | ((with_reducible refine gateS 57 _ _ rfl ?_); refine wpList_store_row rfl 57 _ _ rfl W1.heap.size (#[.int .i64 p0, .int .i64 p1, .int .i64 p2, .int .i64 p3]) rfl rfl 57 #[.int .i64 0, .int .i64 0, .int .i64 0, .int .i64 0] (unhide HXW2).blk (by rw [sizeTH]; rfl) rfl (one_head _ _ _ _) ?_) | ((with_reducible refine gateS 44 _ _ rfl ?_); refine wpList_store_row rfl 44 _ _ rfl (W1.heap.size + 1) (ev.ar) rfl rfl 44 #[.int .i64 0, .int .i64 0, .int .i64 0, .int .u8 0, .int .u8 0, .int .u8 0, .int .u8 0, .int .u8 0, .int .u8 0, .int .u8 0, .int .u8 0, .int .u8 0, .int .u8 0, .int .u8 0, .int .u8 0, .int .u8 0, .int .u8 0, .int .u8 0, .int .u8 0] (unhide HYW2).blk (by rw [sizeTE, EV.ar_size (unhide HEV)]) (by rw [EV.ar_size (unhide HEV)]; rfl) (entA_one _ _ _ _) ?_; rw [unhide HWW2]) | ((with_reducible refine gateS 37 _ _ rfl ?_); refine wpList_store_row rfl 37 _ _ rfl w.heap.size #[.int .i64 0, .int .i64 0, .slice none 0 0] rfl rfl 37 _ (unhide HQ2).blk (by kernel_rfl) rfl (one_row11 _ _ _ _ _) ?_) | ((with_reducible refine gateR ?_); exact bodyPost_ret (results_ct11 (p := 8) (r := 9) rfl _ _ ⟨w.heap.size, 0, none⟩ _ rfl (unhide HQQ)) rfl (unhide HFIN)))
              have f0 : (pe != 0) = false := by rw [g0]; simp
              have G0 := hide g0
              clear g0
              by_cases g1 : p1 = super
              rotate_left 1
              · have HD := hide (unhide HBAD (fun h => g1 (h.2.2.1)))
                have f1 : (p1 != super) = true := by rw [bne_iff_ne]; exact g1
                clear g1 HBAD HSTEP
                have hq : RwAt (W2.setRow w.heap.size #[.int .i64 0, .int .i64 0, .slice none 0 0]) w.heap.size 0 0 (.slice none 0 0) := ⟨setRow_heap _ _ _ _ _ _ (unhide HQ2).blk⟩
                have hfin : DecW w (W2.setRow w.heap.size #[.int .i64 0, .int .i64 0, .slice none 0 0]) (.returned (.tuple #[.agg #[.int .i64 0, .int .i64 0, .slice none 0 0], .int .i64 (decF super at' l most).2])) super at' l most := ⟨below_setRow11 (unhide HT2) (Nat.le_refl _) _, _, rfl, by rw [unhide HD]; exact ⟨_, 0, rfl, EArg.nil _, fun h => absurd rfl h⟩⟩
                rw [unhide HD] at hfin
                have HFIN := hide hfin
                have HQQ := hide hq.load
                clear hq hfin
                go_wp2_with (first | ((with_reducible refine gateS 57 _ _ rfl ?_); refine wpList_store_row rfl 57 _ _ rfl W1.heap.size (#[.int .i64 p0, .int .i64 p1, .int .i64 p2, .int .i64 p3]) rfl rfl 57 #[.int .i64 0, .int .i64 0, .int .i64 0, .int .i64 0] (unhide HXW2).blk (by rw [sizeTH]; rfl) rfl (one_head _ _ _ _) ?_) | ((with_reducible refine gateS 44 _ _ rfl ?_); refine wpList_store_row rfl 44 _ _ rfl (W1.heap.size + 1) (ev.ar) rfl rfl 44 #[.int .i64 0, .int .i64 0, .int .i64 0, .int .u8 0, .int .u8 0, .int .u8 0, .int .u8 0, .int .u8 0, .int .u8 0, .int .u8 0, .int .u8 0, .int .u8 0, .int .u8 0, .int .u8 0, .int .u8 0, .int .u8 0, .int .u8 0, .int .u8 0, .int .u8 0] (unhide HYW2).blk (by rw [sizeTE, EV.ar_size (unhide HEV)]) (by rw [EV.ar_size (unhide HEV)]; rfl) (entA_one _ _ _ _) ?_; rw [unhide HWW2]) | ((with_reducible refine gateS 37 _ _ rfl ?_); refine wpList_store_row rfl 37 _ _ rfl w.heap.size #[.int .i64 0, .int .i64 0, .slice none 0 0] rfl rfl 37 _ (unhide HQ2).blk (by kernel_rfl) rfl (one_row11 _ _ _ _ _) ?_) | ((with_reducible refine gateR ?_); exact bodyPost_ret (results_ct11 (p := 8) (r := 9) rfl _ _ ⟨w.heap.size, 0, none⟩ _ rfl (unhide HQQ)) rfl (unhide HFIN)))
              have f1 : (p1 != super) = false := by rw [g1]; simp
              have G1 := hide g1
              clear g1
              by_cases g2 : p2 = at'
              rotate_left 1
              · have HD := hide (unhide HBAD (fun h => g2 (h.2.2.2.1)))
                have f2 : (p2 != at') = true := by rw [bne_iff_ne]; exact g2
                clear g2 HBAD HSTEP
                have hq : RwAt (W2.setRow w.heap.size #[.int .i64 0, .int .i64 0, .slice none 0 0]) w.heap.size 0 0 (.slice none 0 0) := ⟨setRow_heap _ _ _ _ _ _ (unhide HQ2).blk⟩
                have hfin : DecW w (W2.setRow w.heap.size #[.int .i64 0, .int .i64 0, .slice none 0 0]) (.returned (.tuple #[.agg #[.int .i64 0, .int .i64 0, .slice none 0 0], .int .i64 (decF super at' l most).2])) super at' l most := ⟨below_setRow11 (unhide HT2) (Nat.le_refl _) _, _, rfl, by rw [unhide HD]; exact ⟨_, 0, rfl, EArg.nil _, fun h => absurd rfl h⟩⟩
                rw [unhide HD] at hfin
                have HFIN := hide hfin
                have HQQ := hide hq.load
                clear hq hfin
                go_wp2_with (first | ((with_reducible refine gateS 57 _ _ rfl ?_); refine wpList_store_row rfl 57 _ _ rfl W1.heap.size (#[.int .i64 p0, .int .i64 p1, .int .i64 p2, .int .i64 p3]) rfl rfl 57 #[.int .i64 0, .int .i64 0, .int .i64 0, .int .i64 0] (unhide HXW2).blk (by rw [sizeTH]; rfl) rfl (one_head _ _ _ _) ?_) | ((with_reducible refine gateS 44 _ _ rfl ?_); refine wpList_store_row rfl 44 _ _ rfl (W1.heap.size + 1) (ev.ar) rfl rfl 44 #[.int .i64 0, .int .i64 0, .int .i64 0, .int .u8 0, .int .u8 0, .int .u8 0, .int .u8 0, .int .u8 0, .int .u8 0, .int .u8 0, .int .u8 0, .int .u8 0, .int .u8 0, .int .u8 0, .int .u8 0, .int .u8 0, .int .u8 0, .int .u8 0, .int .u8 0] (unhide HYW2).blk (by rw [sizeTE, EV.ar_size (unhide HEV)]) (by rw [EV.ar_size (unhide HEV)]; rfl) (entA_one _ _ _ _) ?_; rw [unhide HWW2]) | ((with_reducible refine gateS 37 _ _ rfl ?_); refine wpList_store_row rfl 37 _ _ rfl w.heap.size #[.int .i64 0, .int .i64 0, .slice none 0 0] rfl rfl 37 _ (unhide HQ2).blk (by kernel_rfl) rfl (one_row11 _ _ _ _ _) ?_) | ((with_reducible refine gateR ?_); exact bodyPost_ret (results_ct11 (p := 8) (r := 9) rfl _ _ ⟨w.heap.size, 0, none⟩ _ rfl (unhide HQQ)) rfl (unhide HFIN)))
              have f2 : (p2 != at') = false := by rw [g2]; simp
              have G2 := hide g2
              clear g2
              by_cases g3 : p3 = (k : Int)
              rotate_left 1
              · have HD := hide (unhide HBAD (fun h => g3 (h.2.2.2.2)))
                have f3 : (p3 != (k : Int)) = true := by rw [bne_iff_ne]; exact g3
                clear g3 HBAD HSTEP
                have hq : RwAt (W2.setRow w.heap.size #[.int .i64 0, .int .i64 0, .slice none 0 0]) w.heap.size 0 0 (.slice none 0 0) := ⟨setRow_heap _ _ _ _ _ _ (unhide HQ2).blk⟩
                have hfin : DecW w (W2.setRow w.heap.size #[.int .i64 0, .int .i64 0, .slice none 0 0]) (.returned (.tuple #[.agg #[.int .i64 0, .int .i64 0, .slice none 0 0], .int .i64 (decF super at' l most).2])) super at' l most := ⟨below_setRow11 (unhide HT2) (Nat.le_refl _) _, _, rfl, by rw [unhide HD]; exact ⟨_, 0, rfl, EArg.nil _, fun h => absurd rfl h⟩⟩
                rw [unhide HD] at hfin
                have HFIN := hide hfin
                have HQQ := hide hq.load
                clear hq hfin
                go_wp2_with (first | ((with_reducible refine gateS 57 _ _ rfl ?_); refine wpList_store_row rfl 57 _ _ rfl W1.heap.size (#[.int .i64 p0, .int .i64 p1, .int .i64 p2, .int .i64 p3]) rfl rfl 57 #[.int .i64 0, .int .i64 0, .int .i64 0, .int .i64 0] (unhide HXW2).blk (by rw [sizeTH]; rfl) rfl (one_head _ _ _ _) ?_) | ((with_reducible refine gateS 44 _ _ rfl ?_); refine wpList_store_row rfl 44 _ _ rfl (W1.heap.size + 1) (ev.ar) rfl rfl 44 #[.int .i64 0, .int .i64 0, .int .i64 0, .int .u8 0, .int .u8 0, .int .u8 0, .int .u8 0, .int .u8 0, .int .u8 0, .int .u8 0, .int .u8 0, .int .u8 0, .int .u8 0, .int .u8 0, .int .u8 0, .int .u8 0, .int .u8 0, .int .u8 0, .int .u8 0] (unhide HYW2).blk (by rw [sizeTE, EV.ar_size (unhide HEV)]) (by rw [EV.ar_size (unhide HEV)]; rfl) (entA_one _ _ _ _) ?_; rw [unhide HWW2]) | ((with_reducible refine gateS 37 _ _ rfl ?_); refine wpList_store_row rfl 37 _ _ rfl w.heap.size #[.int .i64 0, .int .i64 0, .slice none 0 0] rfl rfl 37 _ (unhide HQ2).blk (by kernel_rfl) rfl (one_row11 _ _ _ _ _) ?_) | ((with_reducible refine gateR ?_); exact bodyPost_ret (results_ct11 (p := 8) (r := 9) rfl _ _ ⟨w.heap.size, 0, none⟩ _ rfl (unhide HQQ)) rfl (unhide HFIN)))
              have f3 : (p3 != (k : Int)) = false := by rw [g3]; simp
              have G3 := hide g3
              clear g3
              by_cases hk0 : k = 0
              · have HNS : Hid (stR super at' X (List.range (k + 1)) = some (p0, sl ++ [ev])) := by rw [Hid, unhide HSTEP, if_pos hk0, if_pos ⟨unhide G0, rfl, unhide G1, unhide G2, unhide G3⟩]
                have hk0a : decide (0 < (k : Int)) = false := decide_eq_false (by omega)
                have hk0b : decide (0 < k) = false := decide_eq_false (by omega)
                have hk0c : (k : Int) ≤ 0 := by omega
                clear hk0
                clear HBAD
                go_wp2_with (first | ((with_reducible refine gateS 57 _ _ rfl ?_); refine wpList_store_row rfl 57 _ _ rfl W1.heap.size (#[.int .i64 p0, .int .i64 p1, .int .i64 p2, .int .i64 p3]) rfl rfl 57 #[.int .i64 0, .int .i64 0, .int .i64 0, .int .i64 0] (unhide HXW2).blk (by rw [sizeTH]; rfl) rfl (one_head _ _ _ _) ?_) | ((with_reducible refine gateS 44 _ _ rfl ?_); refine wpList_store_row rfl 44 _ _ rfl (W1.heap.size + 1) (ev.ar) rfl rfl 44 #[.int .i64 0, .int .i64 0, .int .i64 0, .int .u8 0, .int .u8 0, .int .u8 0, .int .u8 0, .int .u8 0, .int .u8 0, .int .u8 0, .int .u8 0, .int .u8 0, .int .u8 0, .int .u8 0, .int .u8 0, .int .u8 0, .int .u8 0, .int .u8 0, .int .u8 0] (unhide HYW2).blk (by rw [sizeTE, EV.ar_size (unhide HEV)]) (by rw [EV.ar_size (unhide HEV)]; rfl) (entA_one _ _ _ _) ?_; rw [unhide HWW2]))
                refine wp_region_noPanic ?_
                refine regionK (kk := 10) (S := fun V => (∀ q, q < W2.heap.size → q ≠ bo → (Value.slice va k vc).ownBlock ≠ some q → V.heap[q]? = W2.heap[q]?) ∧ V.cell? ⟨bo, 2, none⟩ = some (.slice va k vc)) (by kernel_rfl) ?_
                clear c0 c1 c2 c3 cs f0 f1 f2 f3
                have HH : Hid ((∀ q, q < W2.heap.size → q ≠ bo → (Value.slice va k vc).ownBlock ≠ some q → W2.drew.heap[q]? = W2.heap[q]?) ∧ W2.drew.cell? ⟨bo, 2, none⟩ = some (.slice va k vc)) := ⟨fun q _ _ _ => rfl, ((Below.refl _ W2).drew.cell (unhide HRW2).lt).trans (unhide HRW2).cells.2.2⟩
                have HBZ := hide (show bo < wr.heap.size by omega)
                refine takeK (i := 0) (v := ?_) rfl (by kernel_rfl) (by kernel_rfl) (by kernel_rfl) (by kernel_rfl) (by kernel_rfl) (by kernel_rfl) (fun _ _ _ h => h) (Or.inl ⟨by rfl, ?_⟩) (unhide HH) ?_
                rotate_left 1
                · intro W9 hSW; clear hSW; go_simp; all_goals (with_reducible rfl)
                (try simp only [Act.put, List.setIfInBounds_toArray, List.set_cons_zero, List.set_cons_succ])
                refine takeK (i := 1) (v := ?_) rfl (by kernel_rfl) (by kernel_rfl) (by kernel_rfl) (by kernel_rfl) (by kernel_rfl) (by kernel_rfl) (fun _ _ _ h => h) (Or.inl ⟨by rfl, ?_⟩) (unhide HH) ?_
                rotate_left 1
                · intro W9 hSW; have hc := ((unhide HHD).of (hSW.1 _ hzz3 (by have := unhide HBZ; omega) (fun e => by have := (unhide HNEB) _ e; omega))).cells.1; clear hSW; go_simp; all_goals (with_reducible rfl)
                (try simp only [Act.put, List.setIfInBounds_toArray, List.set_cons_zero, List.set_cons_succ])
                refine takeK (i := 2) (v := ?_) rfl (by kernel_rfl) (by kernel_rfl) (by kernel_rfl) (by kernel_rfl) (by kernel_rfl) (by kernel_rfl) (fun _ _ _ h => h) (Or.inl ⟨by rfl, ?_⟩) (unhide HH) ?_
                rotate_left 1
                · intro W9 hSW; clear hSW; go_simp; all_goals (with_reducible rfl)
                (try simp only [Act.put, List.setIfInBounds_toArray, List.set_cons_zero, List.set_cons_succ])
                refine takeK (i := 3) (v := .slice va k vc) rfl (by kernel_rfl) (by kernel_rfl) (by kernel_rfl) (by kernel_rfl) (by kernel_rfl) (by kernel_rfl) (fun _ _ _ h => h) (Or.inl ⟨by rfl, ?_⟩) (unhide HH) ?_

                · intro W9 hSW; have hc := hSW.2; clear hSW; go_simp; all_goals (with_reducible rfl)
                (try simp only [Act.put, List.setIfInBounds_toArray, List.set_cons_zero, List.set_cons_succ])
                refine takeK (i := 4) (v := .agg (ev.ar)) rfl (by kernel_rfl) (by kernel_rfl) (by kernel_rfl) (by kernel_rfl) (by kernel_rfl) (by kernel_rfl) (fun _ _ _ h => h) (Or.inl ⟨by rfl, fun W9 hSW => run_load_agg9 rfl rfl ((show EvAt W9 (W1.heap.size + 1) ev from ⟨(hSW.1 _ hzz5 (by have := unhide HBZ; omega) (fun e => by have := (unhide HNEB) _ e; omega)).trans (unhide HED).blk⟩).load (unhide HEV))⟩) (unhide HH) ?_
                (try simp only [Act.put, List.setIfInBounds_toArray, List.set_cons_zero, List.set_cons_succ])
                refine takeK (i := 7) (v := ?_) rfl (by kernel_rfl) (by kernel_rfl) (by kernel_rfl) (by kernel_rfl) (by kernel_rfl) (by kernel_rfl) (fun _ _ _ h => h) (Or.inl ⟨by rfl, ?_⟩) (unhide HH) ?_
                rotate_left 1
                · intro W9 hSW; clear hSW; go_simp; all_goals (with_reducible rfl)
                (try simp only [Act.put, List.setIfInBounds_toArray, List.set_cons_zero, List.set_cons_succ])
                refine readyK (rs := [5]) (by kernel_rfl) (by simp) ?_
                refine consK rfl (fun K hK => ?_) nilK
                rw [if_pos (by rfl)]
                refine wp_build_ev11 _ (by rfl) ev (unhide HEV) (by rfl) ?_
                obtain ⟨W6, hW6⟩ : ∃ W6, W2.drew.alloc (.cells ev.ar 44) = W6 := ⟨_, rfl⟩
                have hk6 : Below W2.heap.size W2 W6 := by rw [← hW6]; exact (Below.refl _ W2).drew.alloc (Nat.le_refl _) _
                have hr6 : W6.rangeAt W2.drew.heap.size 0 ev.cs := by rw [← hW6]; exact range_ev _ _ _
                have hz6 : W6.heap.size = W2.drew.heap.size + 1 := by rw [← hW6]; simp
                rw [hW6]
                clear hW6
                refine hK.out _ _ (fun _ => ⟨fun q hq _ _ => hk6.block q hq, (hk6.cell (unhide HRW2).lt).trans (unhide HRW2).cells.2.2⟩) ?_
                clear hK K
                (try simp only [Act.put, List.setIfInBounds_toArray, List.set_cons_zero, List.set_cons_succ])
                obtain ⟨v8, w8, hr8, ho8, hg8⟩ := run_append_ev W6 w5.heap.size 22 (.slice va k vc) sl ((unhide HOW2).below hk6) _ 0 ev hr6 (unhide HEV) (by rw [unhide HSL]; omega) (by have := hk6.size; omega)
                obtain ⟨ua, uc, hu, -⟩ := ho8.1.shape
                rw [List.length_append, unhide HSL] at hu
                subst hu
                have HRB : Hid (∀ q, q < W2.heap.size → (Value.slice va k vc).ownBlock ≠ some q → w8.heap[q]? = W2.heap[q]?) := fun q hq hne => (hg8.block q (by have := hk6.size; omega) (fun e => hne e.symm)).trans (hk6.block q hq)
                have HRA := hide hr8
                have HO8 := hide ho8
                have HB8 : Hid (Below w4.heap.size w4 w8) := ((unhide HB2).trans (hk6.mono (unhide HB2).size)).trans ⟨hg8.os, hg8.tape, hg8.output, hg8.size, fun q hq => hg8.block q (by have := (unhide HB2).size; have := hk6.size; omega) (fun e => by have := unhide HNEB q e.symm; have := unhide HBO; omega)⟩
                have HZ8 : Hid (w5.heap.size ≤ w8.heap.size) := by have h1 := hk6.size; have h2 := hg8.size; show _ ≤ _; omega
                clear hr8 ho8 hg8 hk6 hr6 hz6
                refine readyK (rs := [6]) (by kernel_rfl) (by simp) ?_
                refine consK rfl (fun K hK => ?_) nilK
                rw [if_pos (by rfl)]
                refine wp_append_run _ (.tmp 166) (.tmp 168) 22 22 (by rfl) _ _ (by rfl) (by rfl) (unhide HRA) ?_
                have H8 : Hid (RwAt w8 bo se at' (.slice va k vc)) := (unhide HRW2).of (unhide HRB _ (by omega) (fun e => by have := (unhide HNEB) _ e; omega))
                refine hK.out _ _ (fun _ => ⟨fun q hq _ hne => unhide HRB q hq hne, (unhide H8).cells.2.2⟩) ?_
                clear hK K
                (try simp only [Act.put, List.setIfInBounds_toArray, List.set_cons_zero, List.set_cons_succ])
                refine readyK (rs := [8]) (by kernel_rfl) (by simp) ?_
                refine consK rfl (fun K hK => ?_) nilK
                have hcx := (unhide H8).cells.1
                have hfx := (unhide H8).free 0
                go_simp
                clear hcx hfx
                have H9 := hide ((unhide H8).set0 p0)
                have HH9 : Hid ((∀ q, q < W2.heap.size → q ≠ bo → (Value.slice va k vc).ownBlock ≠ some q → (w8.setCell ⟨bo, 0, none⟩ (.int .i64 p0)).heap[q]? = W2.heap[q]?) ∧ (w8.setCell ⟨bo, 0, none⟩ (.int .i64 p0)).cell? ⟨bo, 2, none⟩ = some (.slice va k vc)) := ⟨fun q hq hb hne => (Below.heap_setCell _ _ _ _ (fun e => hb e)).trans (unhide HRB q hq hne), (unhide H9).cells.2.2⟩
                refine hK.out _ _ (fun _ => unhide HH9) ?_
                clear hK K
                (try simp only [Act.put, List.setIfInBounds_toArray, List.set_cons_zero, List.set_cons_succ])
                refine takeK (i := 9) (v := ?_) rfl (by kernel_rfl) (by kernel_rfl) (by kernel_rfl) (by kernel_rfl) (by kernel_rfl) (by kernel_rfl) (fun _ _ _ h => h) (Or.inl ⟨by rfl, ?_⟩) (unhide HH9) ?_
                rotate_left 1
                · intro W9 hSW; clear hSW; go_simp; all_goals (with_reducible rfl)
                (try simp only [Act.put, List.setIfInBounds_toArray, List.set_cons_zero, List.set_cons_succ])
                refine readyK (rs := [10]) (by kernel_rfl) (by simp) ?_
                refine consK rfl (fun K hK => ?_) nilK
                have hcx := (unhide H9).cells.2.2
                have hfx := (unhide H9).free 2
                go_simp
                clear hcx hfx
                refine hK.out _ _ (fun h => (by cases h)) ?_
                clear hK K
                (try simp only [Act.put, List.setIfInBounds_toArray, List.set_cons_zero, List.set_cons_succ])
                refine doneK (by kernel_rfl) ?_ _
                refine NoPanic.normal ?_
                have h9 : ∀ q, q ≠ bo → ((w8.setCell ⟨bo, 0, none⟩ (.int .i64 p0)).setCell ⟨bo, 2, none⟩ (.slice ua (k + 1) uc)).heap[q]? = w8.heap[q]? := fun q hq => (Below.heap_setCell _ _ _ _ (fun e => hq e)).trans (Below.heap_setCell _ _ _ _ (fun e => hq e))
                have HN1 : Hid (RwAt ((w8.setCell ⟨bo, 0, none⟩ (.int .i64 p0)).setCell ⟨bo, 2, none⟩ (.slice ua (k + 1) uc)) bo p0 at' (.slice ua (k + 1) uc)) := (unhide H9).set2 _
                have HN2 : Hid (OwnE w5.heap.size ((w8.setCell ⟨bo, 0, none⟩ (.int .i64 p0)).setCell ⟨bo, 2, none⟩ (.slice ua (k + 1) uc)) (.slice ua (k + 1) uc) (sl ++ [ev])) := (unhide HO8).keep (fun q hq _ => h9 q (by omega))
                have hbo := unhide HBO
                have HN3 : Hid (Below w4.heap.size w4 ((w8.setCell ⟨bo, 0, none⟩ (.int .i64 p0)).setCell ⟨bo, 2, none⟩ (.slice ua (k + 1) uc))) := ((unhide HB8).setCell (p := ⟨bo, 0, none⟩) (by simp <;> omega) _).setCell (p := ⟨bo, 2, none⟩) (by simp <;> omega) _
                have HN4 : Hid (w5.heap.size ≤ ((w8.setCell ⟨bo, 0, none⟩ (.int .i64 p0)).setCell ⟨bo, 2, none⟩ (.slice ua (k + 1) uc)).heap.size) := by have := unhide HZ8; show _ ≤ _; simpa [World.setCell] using this
                have HN5 : Hid ((sl ++ [ev]).length = k + 1) := by rw [Hid, List.length_append, unhide HSL]; rfl
                clear h9 hbo
                generalize (w8.setCell ⟨bo, 0, none⟩ (.int .i64 p0)).setCell ⟨bo, 2, none⟩ (.slice ua (k + 1) uc) = w9 at HN1 HN2 HN3 HN4 ⊢
                go_wp2_with fail
                go_roundw
                case rel => exact ⟨k + 1, p0, sl ++ [ev], _, by omega, by go_num, unhide HNS, unhide HN1, unhide HN2, unhide HN5, unhide HN3, unhide HN4⟩
                case measure => simp [intOf]; omega
              have hk0a : decide (0 < (k : Int)) = true := decide_eq_true (by omega)
              have hk0b : decide (0 < k) = true := decide_eq_true (by omega)
              have hk0c : 0 < (k : Int) := by omega
              by_cases g4 : p0 = se
              rotate_left 1
              · have HD := hide (unhide HBAD (fun h => g4 (by have h2 := h.2.1; rw [if_neg hk0] at h2; exact h2)))
                have f4 : (p0 != se) = true := by rw [bne_iff_ne]; exact g4
                clear g4 HBAD HSTEP hk0
                have hq : RwAt (W2.setRow w.heap.size #[.int .i64 0, .int .i64 0, .slice none 0 0]) w.heap.size 0 0 (.slice none 0 0) := ⟨setRow_heap _ _ _ _ _ _ (unhide HQ2).blk⟩
                have hfin : DecW w (W2.setRow w.heap.size #[.int .i64 0, .int .i64 0, .slice none 0 0]) (.returned (.tuple #[.agg #[.int .i64 0, .int .i64 0, .slice none 0 0], .int .i64 (decF super at' l most).2])) super at' l most := ⟨below_setRow11 (unhide HT2) (Nat.le_refl _) _, _, rfl, by rw [unhide HD]; exact ⟨_, 0, rfl, EArg.nil _, fun h => absurd rfl h⟩⟩
                rw [unhide HD] at hfin
                have HFIN := hide hfin
                have HQQ := hide hq.load
                clear hq hfin
                go_wp2_with (first | ((with_reducible refine gateS 57 _ _ rfl ?_); refine wpList_store_row rfl 57 _ _ rfl W1.heap.size (#[.int .i64 p0, .int .i64 p1, .int .i64 p2, .int .i64 p3]) rfl rfl 57 #[.int .i64 0, .int .i64 0, .int .i64 0, .int .i64 0] (unhide HXW2).blk (by rw [sizeTH]; rfl) rfl (one_head _ _ _ _) ?_) | ((with_reducible refine gateS 44 _ _ rfl ?_); refine wpList_store_row rfl 44 _ _ rfl (W1.heap.size + 1) (ev.ar) rfl rfl 44 #[.int .i64 0, .int .i64 0, .int .i64 0, .int .u8 0, .int .u8 0, .int .u8 0, .int .u8 0, .int .u8 0, .int .u8 0, .int .u8 0, .int .u8 0, .int .u8 0, .int .u8 0, .int .u8 0, .int .u8 0, .int .u8 0, .int .u8 0, .int .u8 0, .int .u8 0] (unhide HYW2).blk (by rw [sizeTE, EV.ar_size (unhide HEV)]) (by rw [EV.ar_size (unhide HEV)]; rfl) (entA_one _ _ _ _) ?_; rw [unhide HWW2]) | ((with_reducible refine gateS 37 _ _ rfl ?_); refine wpList_store_row rfl 37 _ _ rfl w.heap.size #[.int .i64 0, .int .i64 0, .slice none 0 0] rfl rfl 37 _ (unhide HQ2).blk (by kernel_rfl) rfl (one_row11 _ _ _ _ _) ?_) | ((with_reducible refine gateR ?_); exact bodyPost_ret (results_ct11 (p := 8) (r := 9) rfl _ _ ⟨w.heap.size, 0, none⟩ _ rfl (unhide HQQ)) rfl (unhide HFIN)))
              have f4 : (p0 != se) = false := by rw [g4]; simp
              have HNS : Hid (stR super at' X (List.range (k + 1)) = some (p0, sl ++ [ev])) := by rw [Hid, unhide HSTEP, if_neg hk0, if_pos ⟨unhide G0, g4, unhide G1, unhide G2, unhide G3⟩, g4]
              clear g4 hk0
              clear HBAD
              go_wp2_with (first | ((with_reducible refine gateS 57 _ _ rfl ?_); refine wpList_store_row rfl 57 _ _ rfl W1.heap.size (#[.int .i64 p0, .int .i64 p1, .int .i64 p2, .int .i64 p3]) rfl rfl 57 #[.int .i64 0, .int .i64 0, .int .i64 0, .int .i64 0] (unhide HXW2).blk (by rw [sizeTH]; rfl) rfl (one_head _ _ _ _) ?_) | ((with_reducible refine gateS 44 _ _ rfl ?_); refine wpList_store_row rfl 44 _ _ rfl (W1.heap.size + 1) (ev.ar) rfl rfl 44 #[.int .i64 0, .int .i64 0, .int .i64 0, .int .u8 0, .int .u8 0, .int .u8 0, .int .u8 0, .int .u8 0, .int .u8 0, .int .u8 0, .int .u8 0, .int .u8 0, .int .u8 0, .int .u8 0, .int .u8 0, .int .u8 0, .int .u8 0, .int .u8 0, .int .u8 0] (unhide HYW2).blk (by rw [sizeTE, EV.ar_size (unhide HEV)]) (by rw [EV.ar_size (unhide HEV)]; rfl) (entA_one _ _ _ _) ?_; rw [unhide HWW2]))
              refine wp_region_noPanic ?_
              refine regionK (kk := 10) (S := fun V => (∀ q, q < W2.heap.size → q ≠ bo → (Value.slice va k vc).ownBlock ≠ some q → V.heap[q]? = W2.heap[q]?) ∧ V.cell? ⟨bo, 2, none⟩ = some (.slice va k vc)) (by kernel_rfl) ?_
              clear f4 c0 c1 c2 c3 cs f0 f1 f2 f3
              have HH : Hid ((∀ q, q < W2.heap.size → q ≠ bo → (Value.slice va k vc).ownBlock ≠ some q → W2.drew.heap[q]? = W2.heap[q]?) ∧ W2.drew.cell? ⟨bo, 2, none⟩ = some (.slice va k vc)) := ⟨fun q _ _ _ => rfl, ((Below.refl _ W2).drew.cell (unhide HRW2).lt).trans (unhide HRW2).cells.2.2⟩
              have HBZ := hide (show bo < wr.heap.size by omega)
              refine takeK (i := 0) (v := ?_) rfl (by kernel_rfl) (by kernel_rfl) (by kernel_rfl) (by kernel_rfl) (by kernel_rfl) (by kernel_rfl) (fun _ _ _ h => h) (Or.inl ⟨by rfl, ?_⟩) (unhide HH) ?_
              rotate_left 1
              · intro W9 hSW; clear hSW; go_simp; all_goals (with_reducible rfl)
              (try simp only [Act.put, List.setIfInBounds_toArray, List.set_cons_zero, List.set_cons_succ])
              refine takeK (i := 1) (v := ?_) rfl (by kernel_rfl) (by kernel_rfl) (by kernel_rfl) (by kernel_rfl) (by kernel_rfl) (by kernel_rfl) (fun _ _ _ h => h) (Or.inl ⟨by rfl, ?_⟩) (unhide HH) ?_
              rotate_left 1
              · intro W9 hSW; have hc := ((unhide HHD).of (hSW.1 _ hzz3 (by have := unhide HBZ; omega) (fun e => by have := (unhide HNEB) _ e; omega))).cells.1; clear hSW; go_simp; all_goals (with_reducible rfl)
              (try simp only [Act.put, List.setIfInBounds_toArray, List.set_cons_zero, List.set_cons_succ])
              refine takeK (i := 2) (v := ?_) rfl (by kernel_rfl) (by kernel_rfl) (by kernel_rfl) (by kernel_rfl) (by kernel_rfl) (by kernel_rfl) (fun _ _ _ h => h) (Or.inl ⟨by rfl, ?_⟩) (unhide HH) ?_
              rotate_left 1
              · intro W9 hSW; clear hSW; go_simp; all_goals (with_reducible rfl)
              (try simp only [Act.put, List.setIfInBounds_toArray, List.set_cons_zero, List.set_cons_succ])
              refine takeK (i := 3) (v := .slice va k vc) rfl (by kernel_rfl) (by kernel_rfl) (by kernel_rfl) (by kernel_rfl) (by kernel_rfl) (by kernel_rfl) (fun _ _ _ h => h) (Or.inl ⟨by rfl, ?_⟩) (unhide HH) ?_

              · intro W9 hSW; have hc := hSW.2; clear hSW; go_simp; all_goals (with_reducible rfl)
              (try simp only [Act.put, List.setIfInBounds_toArray, List.set_cons_zero, List.set_cons_succ])
              refine takeK (i := 4) (v := .agg (ev.ar)) rfl (by kernel_rfl) (by kernel_rfl) (by kernel_rfl) (by kernel_rfl) (by kernel_rfl) (by kernel_rfl) (fun _ _ _ h => h) (Or.inl ⟨by rfl, fun W9 hSW => run_load_agg9 rfl rfl ((show EvAt W9 (W1.heap.size + 1) ev from ⟨(hSW.1 _ hzz5 (by have := unhide HBZ; omega) (fun e => by have := (unhide HNEB) _ e; omega)).trans (unhide HED).blk⟩).load (unhide HEV))⟩) (unhide HH) ?_
              (try simp only [Act.put, List.setIfInBounds_toArray, List.set_cons_zero, List.set_cons_succ])
              refine takeK (i := 7) (v := ?_) rfl (by kernel_rfl) (by kernel_rfl) (by kernel_rfl) (by kernel_rfl) (by kernel_rfl) (by kernel_rfl) (fun _ _ _ h => h) (Or.inl ⟨by rfl, ?_⟩) (unhide HH) ?_
              rotate_left 1
              · intro W9 hSW; clear hSW; go_simp; all_goals (with_reducible rfl)
              (try simp only [Act.put, List.setIfInBounds_toArray, List.set_cons_zero, List.set_cons_succ])
              refine readyK (rs := [5]) (by kernel_rfl) (by simp) ?_
              refine consK rfl (fun K hK => ?_) nilK
              rw [if_pos (by rfl)]
              refine wp_build_ev11 _ (by rfl) ev (unhide HEV) (by rfl) ?_
              obtain ⟨W6, hW6⟩ : ∃ W6, W2.drew.alloc (.cells ev.ar 44) = W6 := ⟨_, rfl⟩
              have hk6 : Below W2.heap.size W2 W6 := by rw [← hW6]; exact (Below.refl _ W2).drew.alloc (Nat.le_refl _) _
              have hr6 : W6.rangeAt W2.drew.heap.size 0 ev.cs := by rw [← hW6]; exact range_ev _ _ _
              have hz6 : W6.heap.size = W2.drew.heap.size + 1 := by rw [← hW6]; simp
              rw [hW6]
              clear hW6
              refine hK.out _ _ (fun _ => ⟨fun q hq _ _ => hk6.block q hq, (hk6.cell (unhide HRW2).lt).trans (unhide HRW2).cells.2.2⟩) ?_
              clear hK K
              (try simp only [Act.put, List.setIfInBounds_toArray, List.set_cons_zero, List.set_cons_succ])
              obtain ⟨v8, w8, hr8, ho8, hg8⟩ := run_append_ev W6 w5.heap.size 22 (.slice va k vc) sl ((unhide HOW2).below hk6) _ 0 ev hr6 (unhide HEV) (by rw [unhide HSL]; omega) (by have := hk6.size; omega)
              obtain ⟨ua, uc, hu, -⟩ := ho8.1.shape
              rw [List.length_append, unhide HSL] at hu
              subst hu
              have HRB : Hid (∀ q, q < W2.heap.size → (Value.slice va k vc).ownBlock ≠ some q → w8.heap[q]? = W2.heap[q]?) := fun q hq hne => (hg8.block q (by have := hk6.size; omega) (fun e => hne e.symm)).trans (hk6.block q hq)
              have HRA := hide hr8
              have HO8 := hide ho8
              have HB8 : Hid (Below w4.heap.size w4 w8) := ((unhide HB2).trans (hk6.mono (unhide HB2).size)).trans ⟨hg8.os, hg8.tape, hg8.output, hg8.size, fun q hq => hg8.block q (by have := (unhide HB2).size; have := hk6.size; omega) (fun e => by have := unhide HNEB q e.symm; have := unhide HBO; omega)⟩
              have HZ8 : Hid (w5.heap.size ≤ w8.heap.size) := by have h1 := hk6.size; have h2 := hg8.size; show _ ≤ _; omega
              clear hr8 ho8 hg8 hk6 hr6 hz6
              refine readyK (rs := [6]) (by kernel_rfl) (by simp) ?_
              refine consK rfl (fun K hK => ?_) nilK
              rw [if_pos (by rfl)]
              refine wp_append_run _ (.tmp 166) (.tmp 168) 22 22 (by rfl) _ _ (by rfl) (by rfl) (unhide HRA) ?_
              have H8 : Hid (RwAt w8 bo se at' (.slice va k vc)) := (unhide HRW2).of (unhide HRB _ (by omega) (fun e => by have := (unhide HNEB) _ e; omega))
              refine hK.out _ _ (fun _ => ⟨fun q hq _ hne => unhide HRB q hq hne, (unhide H8).cells.2.2⟩) ?_
              clear hK K
              (try simp only [Act.put, List.setIfInBounds_toArray, List.set_cons_zero, List.set_cons_succ])
              refine readyK (rs := [8]) (by kernel_rfl) (by simp) ?_
              refine consK rfl (fun K hK => ?_) nilK
              have hcx := (unhide H8).cells.1
              have hfx := (unhide H8).free 0
              go_simp
              clear hcx hfx
              have H9 := hide ((unhide H8).set0 p0)
              have HH9 : Hid ((∀ q, q < W2.heap.size → q ≠ bo → (Value.slice va k vc).ownBlock ≠ some q → (w8.setCell ⟨bo, 0, none⟩ (.int .i64 p0)).heap[q]? = W2.heap[q]?) ∧ (w8.setCell ⟨bo, 0, none⟩ (.int .i64 p0)).cell? ⟨bo, 2, none⟩ = some (.slice va k vc)) := ⟨fun q hq hb hne => (Below.heap_setCell _ _ _ _ (fun e => hb e)).trans (unhide HRB q hq hne), (unhide H9).cells.2.2⟩
              refine hK.out _ _ (fun _ => unhide HH9) ?_
              clear hK K
              (try simp only [Act.put, List.setIfInBounds_toArray, List.set_cons_zero, List.set_cons_succ])
              refine takeK (i := 9) (v := ?_) rfl (by kernel_rfl) (by kernel_rfl) (by kernel_rfl) (by kernel_rfl) (by kernel_rfl) (by kernel_rfl) (fun _ _ _ h => h) (Or.inl ⟨by rfl, ?_⟩) (unhide HH9) ?_
              rotate_left 1
              · intro W9 hSW; clear hSW; go_simp; all_goals (with_reducible rfl)
              (try simp only [Act.put, List.setIfInBounds_toArray, List.set_cons_zero, List.set_cons_succ])
              refine readyK (rs := [10]) (by kernel_rfl) (by simp) ?_
              refine consK rfl (fun K hK => ?_) nilK
              have hcx := (unhide H9).cells.2.2
              have hfx := (unhide H9).free 2
              go_simp
              clear hcx hfx
              refine hK.out _ _ (fun h => (by cases h)) ?_
              clear hK K
              (try simp only [Act.put, List.setIfInBounds_toArray, List.set_cons_zero, List.set_cons_succ])
              refine doneK (by kernel_rfl) ?_ _
              refine NoPanic.normal ?_
              have h9 : ∀ q, q ≠ bo → ((w8.setCell ⟨bo, 0, none⟩ (.int .i64 p0)).setCell ⟨bo, 2, none⟩ (.slice ua (k + 1) uc)).heap[q]? = w8.heap[q]? := fun q hq => (Below.heap_setCell _ _ _ _ (fun e => hq e)).trans (Below.heap_setCell _ _ _ _ (fun e => hq e))
              have HN1 : Hid (RwAt ((w8.setCell ⟨bo, 0, none⟩ (.int .i64 p0)).setCell ⟨bo, 2, none⟩ (.slice ua (k + 1) uc)) bo p0 at' (.slice ua (k + 1) uc)) := (unhide H9).set2 _
              have HN2 : Hid (OwnE w5.heap.size ((w8.setCell ⟨bo, 0, none⟩ (.int .i64 p0)).setCell ⟨bo, 2, none⟩ (.slice ua (k + 1) uc)) (.slice ua (k + 1) uc) (sl ++ [ev])) := (unhide HO8).keep (fun q hq _ => h9 q (by omega))
              have hbo := unhide HBO
              have HN3 : Hid (Below w4.heap.size w4 ((w8.setCell ⟨bo, 0, none⟩ (.int .i64 p0)).setCell ⟨bo, 2, none⟩ (.slice ua (k + 1) uc))) := ((unhide HB8).setCell (p := ⟨bo, 0, none⟩) (by simp <;> omega) _).setCell (p := ⟨bo, 2, none⟩) (by simp <;> omega) _
              have HN4 : Hid (w5.heap.size ≤ ((w8.setCell ⟨bo, 0, none⟩ (.int .i64 p0)).setCell ⟨bo, 2, none⟩ (.slice ua (k + 1) uc)).heap.size) := by have := unhide HZ8; show _ ≤ _; simpa [World.setCell] using this
              have HN5 : Hid ((sl ++ [ev]).length = k + 1) := by rw [Hid, List.length_append, unhide HSL]; rfl
              clear h9 hbo
              generalize (w8.setCell ⟨bo, 0, none⟩ (.int .i64 p0)).setCell ⟨bo, 2, none⟩ (.slice ua (k + 1) uc) = w9 at HN1 HN2 HN3 HN4 ⊢
              go_wp2_with fail
              go_roundw
              case rel => exact ⟨k + 1, p0, sl ++ [ev], _, by omega, by go_num, unhide HNS, unhide HN1, unhide HN2, unhide HN5, unhide HN3, unhide HN4⟩
              case measure => simp [intOf]; omega
            · have hkk : k = d := by omega
              subst hkk
              have hi1 : (k : Int) ≤ (k : Int) := Int.le_refl _
              have HD : Hid (decF super at' l most = (⟨se, at', sl⟩, 0)) := by rw [Hid, unhide HDF]; exact rowF_good (unhide HXD) (by omega) (unhide HST)
              have HTF : Hid (Below w.heap.size w wr) := (unhide HT4).trans ((unhide HB).mono (unhide HT4).size)
              replace HQ := hide ((unhide HQ).below (unhide HB))
              obtain ⟨g4, hg4, hg4b⟩ := (unhide HOWN).arg
              have hzw := (unhide HT4).size
              have hzb := unhide HBO
              have hq : RwAt (wr.setRow w.heap.size #[.int .i64 se, .int .i64 at', .slice va k vc]) w.heap.size se at' (.slice va k vc) := ⟨setRow_heap _ _ _ _ _ _ (unhide HQ).blk⟩
              have hfin : DecW w (wr.setRow w.heap.size #[.int .i64 se, .int .i64 at', .slice va k vc]) (.returned (.tuple #[.agg #[.int .i64 se, .int .i64 at', .slice va k vc], .int .i64 (decF super at' l most).2])) super at' l most := ⟨below_setRow11 (unhide HTF) (Nat.le_refl _) _, _, rfl, by rw [unhide HD]; exact ⟨_, g4, rfl, hg4.of (fun hne => setRow_other _ _ _ _ (fun e => by have := hg4b hne; omega)), fun h => by have := hg4b h; omega⟩⟩
              rw [unhide HD] at hfin
              have HFIN := hide hfin
              have HQQ := hide hq.load
              clear hq hfin
              go_wp2_with (first | ((with_reducible refine gateL 37 _ rfl ?_); refine wpList_load_want10 rfl 37 _ rfl bo rfl 37 #[.int .i64 se, .int .i64 at', .slice va k vc] _ _ (unhide HRW).blk Tryz.underlying37 rfl (by kernel_rfl) ?_) | ((with_reducible refine gateS 37 _ _ rfl ?_); refine wpList_store_row rfl 37 _ _ rfl w.heap.size #[.int .i64 se, .int .i64 at', .slice va k vc] rfl rfl 37 _ (unhide HQ).blk (by kernel_rfl) rfl (one_row11 _ _ _ _ _) ?_) | ((with_reducible refine gateR ?_); exact bodyPost_ret (results_ct11 (p := 8) (r := 9) rfl _ _ ⟨w.heap.size, 0, none⟩ _ rfl (unhide HQQ)) rfl (unhide HFIN)))

end Go.Proofs.YtjdikhelabibnaaGreat
