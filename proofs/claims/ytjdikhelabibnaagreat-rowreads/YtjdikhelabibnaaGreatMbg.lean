/-
  
-/
import Derived.Test.YtjdikhelabibnaaGreatMbf
import Derived.Test.YtjdikhelabibnaaGreatMaq
import Derived.Test.YtjdikhelabibnaaGreatMax
namespace Go.Proofs.YtjdikhelabibnaaGreat
open Go Go.RowKit Go.Shelf
set_option maxRecDepth 100000 in
set_option maxHeartbeats 32000000 in
theorem rdec11_any (super at' : Int) (ao : Option Addr) (n c g : Nat) (l : List PV) (most : Int) (hlen : ∀ i, (l.getD i zPV).x.length ≤ 100000) (w : World) (hL : PgArg w (.slice ao n c) g l) :
  Calls Tryz.prog 19 #[.int .i64 super, .int .i64 at', .slice ao n c, .int .i64 most] w fun e w' => DecW w w' e super at' l most := by
 have HL := hide hL
 obtain ⟨hln, hnc, hcm, -⟩ := hL.mrow
 have HLN := hide hln
 have HLEN := hide hlen
 have hnm : (n : Int) ≤ 9223372036854775807 := by unfold maxLen at hcm; omega
 have HEX := hide hL.ex
 clear hL hln hlen hnc hcm
 obtain ⟨w1, hw1⟩ : ∃ w1, w.alloc (.cells #[.int .i64 0, .int .i64 0, .slice none 0 0] 37) = w1 := ⟨_, rfl⟩
 have HT : Hid (Below w.heap.size w w1) := by rw [← hw1]; exact (Below.refl _ w).alloc (Nat.le_refl _) _
 have HQ : Hid (RwAt w1 w.heap.size 0 0 (.slice none 0 0)) := ⟨by rw [← hw1]; exact World.alloc_heap_new w _⟩
 have HW1 : Hid (w1.heap.size = w.heap.size + 1) := by show _ = _; rw [← hw1]; simp
 have HNO : Hid (¬ ((6 ≤ n ∧ n ≤ 8) ∧ 0 ≤ most ∧ most ≤ 2) → decF super at' l most = (zRow, 1)) := fun h => by unfold decF; rw [if_pos (by rw [uh HLN]; exact h)]
 by_cases q0 : (n : Int) < 6
 ·have HD := hide (uh HNO (by omega))
  clear HNO
  go_enter Tryz.func19, Tryz.ntmps19
  have hq : RwAt (w1.setRow w.heap.size #[.int .i64 0, .int .i64 0, .slice none 0 0]) w.heap.size 0 0 (.slice none 0 0) := ⟨setRow_heap _ _ _ _ _ _ (uh HQ).blk⟩
  have hfin : DecW w (w1.setRow w.heap.size #[.int .i64 0, .int .i64 0, .slice none 0 0]) (.returned (.tuple #[.agg #[.int .i64 0, .int .i64 0, .slice none 0 0], .int .i64 (decF super at' l most).2])) super at' l most := ⟨below_setRow11 (uh HT) (Nat.le_refl _) _, _, rfl, by rw [uh HD]; exact ⟨_, 0, rfl, EArg.nil _, fun h => absurd rfl h⟩⟩
  rw [uh HD] at hfin
  have HFIN := hide hfin
  have HQQ := hide hq.load
  clear hq hfin
  go_wp2_with (first | ((with_reducible refine gateS 37 _ _ rfl ?_); refine wpList_store_row rfl 37 _ _ rfl w.heap.size #[.int .i64 0, .int .i64 0, .slice none 0 0] rfl rfl 37 _ (uh HQ).blk (by kernel_rfl) rfl (one_row11 _ _ _ _ _) ?_) | ((with_reducible refine gateR ?_); exact bodyPost_ret (results_ct11 (p := 8) (r := 9) rfl _ _ ⟨w.heap.size, 0, none⟩ _ rfl (uh HQQ)) rfl (uh HFIN)))
 replace q0 : 6 ≤ n := by omega
 by_cases q1 : 8 < (n : Int)
 ·have HD := hide (uh HNO (by omega))
  clear HNO
  go_enter Tryz.func19, Tryz.ntmps19
  have hq : RwAt (w1.setRow w.heap.size #[.int .i64 0, .int .i64 0, .slice none 0 0]) w.heap.size 0 0 (.slice none 0 0) := ⟨setRow_heap _ _ _ _ _ _ (uh HQ).blk⟩
  have hfin : DecW w (w1.setRow w.heap.size #[.int .i64 0, .int .i64 0, .slice none 0 0]) (.returned (.tuple #[.agg #[.int .i64 0, .int .i64 0, .slice none 0 0], .int .i64 (decF super at' l most).2])) super at' l most := ⟨below_setRow11 (uh HT) (Nat.le_refl _) _, _, rfl, by rw [uh HD]; exact ⟨_, 0, rfl, EArg.nil _, fun h => absurd rfl h⟩⟩
  rw [uh HD] at hfin
  have HFIN := hide hfin
  have HQQ := hide hq.load
  clear hq hfin
  go_wp2_with (first | ((with_reducible refine gateS 37 _ _ rfl ?_); refine wpList_store_row rfl 37 _ _ rfl w.heap.size #[.int .i64 0, .int .i64 0, .slice none 0 0] rfl rfl 37 _ (uh HQ).blk (by kernel_rfl) rfl (one_row11 _ _ _ _ _) ?_) | ((with_reducible refine gateR ?_); exact bodyPost_ret (results_ct11 (p := 8) (r := 9) rfl _ _ ⟨w.heap.size, 0, none⟩ _ rfl (uh HQQ)) rfl (uh HFIN)))
 replace q1 : n ≤ 8 := by omega
 by_cases q2 : most < 0
 ·have HD := hide (uh HNO (by omega))
  clear HNO
  go_enter Tryz.func19, Tryz.ntmps19
  have hq : RwAt (w1.setRow w.heap.size #[.int .i64 0, .int .i64 0, .slice none 0 0]) w.heap.size 0 0 (.slice none 0 0) := ⟨setRow_heap _ _ _ _ _ _ (uh HQ).blk⟩
  have hfin : DecW w (w1.setRow w.heap.size #[.int .i64 0, .int .i64 0, .slice none 0 0]) (.returned (.tuple #[.agg #[.int .i64 0, .int .i64 0, .slice none 0 0], .int .i64 (decF super at' l most).2])) super at' l most := ⟨below_setRow11 (uh HT) (Nat.le_refl _) _, _, rfl, by rw [uh HD]; exact ⟨_, 0, rfl, EArg.nil _, fun h => absurd rfl h⟩⟩
  rw [uh HD] at hfin
  have HFIN := hide hfin
  have HQQ := hide hq.load
  clear hq hfin
  go_wp2_with (first | ((with_reducible refine gateS 37 _ _ rfl ?_); refine wpList_store_row rfl 37 _ _ rfl w.heap.size #[.int .i64 0, .int .i64 0, .slice none 0 0] rfl rfl 37 _ (uh HQ).blk (by kernel_rfl) rfl (one_row11 _ _ _ _ _) ?_) | ((with_reducible refine gateR ?_); exact bodyPost_ret (results_ct11 (p := 8) (r := 9) rfl _ _ ⟨w.heap.size, 0, none⟩ _ rfl (uh HQQ)) rfl (uh HFIN)))
 replace q2 : 0 ≤ most := by omega
 by_cases q3 : 2 < most
 ·have HD := hide (uh HNO (by omega))
  clear HNO
  go_enter Tryz.func19, Tryz.ntmps19
  have hq : RwAt (w1.setRow w.heap.size #[.int .i64 0, .int .i64 0, .slice none 0 0]) w.heap.size 0 0 (.slice none 0 0) := ⟨setRow_heap _ _ _ _ _ _ (uh HQ).blk⟩
  have hfin : DecW w (w1.setRow w.heap.size #[.int .i64 0, .int .i64 0, .slice none 0 0]) (.returned (.tuple #[.agg #[.int .i64 0, .int .i64 0, .slice none 0 0], .int .i64 (decF super at' l most).2])) super at' l most := ⟨below_setRow11 (uh HT) (Nat.le_refl _) _, _, rfl, by rw [uh HD]; exact ⟨_, 0, rfl, EArg.nil _, fun h => absurd rfl h⟩⟩
  rw [uh HD] at hfin
  have HFIN := hide hfin
  have HQQ := hide hq.load
  clear hq hfin
  go_wp2_with (first | ((with_reducible refine gateS 37 _ _ rfl ?_); refine wpList_store_row rfl 37 _ _ rfl w.heap.size #[.int .i64 0, .int .i64 0, .slice none 0 0] rfl rfl 37 _ (uh HQ).blk (by kernel_rfl) rfl (one_row11 _ _ _ _ _) ?_) | ((with_reducible refine gateR ?_); exact bodyPost_ret (results_ct11 (p := 8) (r := 9) rfl _ _ ⟨w.heap.size, 0, none⟩ _ rfl (uh HQQ)) rfl (uh HFIN)))
 replace q3 : most ≤ 2 := by omega
 have HC : Hid ((6 ≤ l.length ∧ l.length ≤ 8) ∧ 0 ≤ most ∧ most ≤ 2) := by rw [uh HLN]; exact ⟨⟨q0, q1⟩, q2, q3⟩
 clear HNO
 obtain ⟨o, hao, hcl⟩ : ∃ o, ao = some ⟨g, o, none⟩ ∧ ∀ i, i < n → w.rangeAt g (o + i * 2) (l.getD i zPV).cs := by
  obtain ⟨ao', c', hv, -, -, -, hr⟩ := uh HEX
  obtain ⟨rfl, hnl, rfl⟩ : ao = ao' ∧ n = l.length ∧ c = c' := by cases hv; exact ⟨rfl, rfl, rfl⟩
  obtain ⟨o, h1, h2⟩ := hr (fun h => by rw [h] at hnl; simp at hnl; omega)
  exact ⟨o, h1, fun i hi => h2 i (by omega)⟩
 subst hao
 have HCL := hide hcl
 clear hcl HEX
 have z0 : decide ((n : Int) < 6) = false := decide_eq_false (by omega)
 have z1 : decide (8 < (n : Int)) = false := decide_eq_false (by omega)
 have z2 : decide (most < 0) = false := decide_eq_false (by omega)
 have z3 : decide (2 < most) = false := decide_eq_false (by omega)
 go_enter Tryz.func19, Tryz.ntmps19
 go_wp2_with fail
 refine (started_any _ n c g l w1 ((uh HL).below (uh HT))).mono ?_
 rintro e w2 ⟨rfl, hw2⟩
 rw [hw2]
 clear hw2 w2 z0 z1 z2 z3
 obtain ⟨sb, hsb⟩ : ∃ sb, l.any (fun p => !(p.st == 0)) = sb := ⟨_, rfl⟩
 have HSB := hide hsb
 rw [hsb]
 clear hsb
 cases sb
 ·have HD : Hid (decF super at' l most = (zRow, 2)) := decF_sta2 (uh HC) (staF_all (uh HSB)) (by decide)
  have hq : RwAt (w1.setRow w.heap.size #[.int .i64 0, .int .i64 0, .slice none 0 0]) w.heap.size 0 0 (.slice none 0 0) := ⟨setRow_heap _ _ _ _ _ _ (uh HQ).blk⟩
  have hfin : DecW w (w1.setRow w.heap.size #[.int .i64 0, .int .i64 0, .slice none 0 0]) (.returned (.tuple #[.agg #[.int .i64 0, .int .i64 0, .slice none 0 0], .int .i64 (decF super at' l most).2])) super at' l most := ⟨below_setRow11 (uh HT) (Nat.le_refl _) _, _, rfl, by rw [uh HD]; exact ⟨_, 0, rfl, EArg.nil _, fun h => absurd rfl h⟩⟩
  rw [uh HD] at hfin
  have HFIN := hide hfin
  have HQQ := hide hq.load
  clear hq hfin
  go_wp2_with (first | ((with_reducible refine gateS 37 _ _ rfl ?_); refine wpList_store_row rfl 37 _ _ rfl w.heap.size #[.int .i64 0, .int .i64 0, .slice none 0 0] rfl rfl 37 _ (uh HQ).blk (by kernel_rfl) rfl (one_row11 _ _ _ _ _) ?_) | ((with_reducible refine gateR ?_); exact bodyPost_ret (results_ct11 (p := 8) (r := 9) rfl _ _ ⟨w.heap.size, 0, none⟩ _ rfl (uh HQQ)) rfl (uh HFIN)))
 clear hw1
 go_wp2_with fail
 go_loopw [10, 11, 12] (fun v10 v11 i wr => ∃ (k : Nat), k ≤ n ∧ i = .int .i64 k ∧ OwnI w1.heap.size wr v10 (lostK l k) ∧ wr.ownsRow w1.heap.size 47 1 v11 k (valK l k) ∧ Below w1.heap.size w1 wr ∧ ∀ j, j < k → ¬ (l.getD j zPV).st = 0) (fun _ _ i _ => n - (intOf i).toNat)
 case atStart => exact ⟨0, by omega, rfl, OwnI.nil _ _, World.ownsRow_nil _ _ _ _, Below.refl _ _, by omega⟩
 case round =>
  obtain ⟨k, hkn, rfl, hO, hV, hB, hz⟩ := hrel
  obtain ⟨za, zc, hv, -⟩ := own_shape11 hO
  subst hv
  obtain ⟨va, vc, hv, -⟩ := own_shape11 hV
  subst hv
  have HO := hide hO
  have HV := hide hV
  have HB := hide hB
  have HZ := hide hz
  have HTB : Hid (Below w.heap.size w wr) := (uh HT).trans (hB.mono (uh HT).size)
  have HQ1 := HQ
  replace HQ := hide ((uh HQ).below hB)
  clear hO hV hB hz
  by_cases hlt : k < n
  ·have hi1 : (k : Int) < (n : Int) := by omega
   have hcl := uh HCL k hlt
   obtain ⟨p, hp⟩ : ∃ p, l.getD k zPV = p := ⟨_, rfl⟩
   rw [hp] at hcl
   have HP := hide hp
   have hc0 : wr.cell? ⟨g, o + k * 2, none⟩ = some (.int .i64 p.st) := ((uh HTB).cell (block_lt_of_cell (hcl 0 _ rfl))).trans (hcl 0 _ rfl)
   have HC1 : Hid (w.cell? ⟨g, o + k * 2 + 1, none⟩ = some (.slice p.bo p.x.length p.bc)) := hcl 1 _ rfl
   clear hcl hp
   obtain ⟨s, hs⟩ : ∃ s, p.st = s := ⟨_, rfl⟩
   have HS := hide hs
   rw [hs] at hc0
   clear hs
   by_cases h0 : s = 0
   ·have HD : Hid (decF super at' l most = (zRow, 5)) := decF_sta2 (uh HC) (staF_some (uh HSB) (by rw [uh HLN]; exact hlt) (by rw [uh HP, uh HS, h0])) (by decide)
    rw [h0] at hc0
    have hq : RwAt (wr.setRow w.heap.size #[.int .i64 0, .int .i64 0, .slice none 0 0]) w.heap.size 0 0 (.slice none 0 0) := ⟨setRow_heap _ _ _ _ _ _ (uh HQ).blk⟩
    have hfin : DecW w (wr.setRow w.heap.size #[.int .i64 0, .int .i64 0, .slice none 0 0]) (.returned (.tuple #[.agg #[.int .i64 0, .int .i64 0, .slice none 0 0], .int .i64 (decF super at' l most).2])) super at' l most := ⟨below_setRow11 (uh HTB) (Nat.le_refl _) _, _, rfl, by rw [uh HD]; exact ⟨_, 0, rfl, EArg.nil _, fun h => absurd rfl h⟩⟩
    rw [uh HD] at hfin
    have HFIN := hide hfin
    have HQQ := hide hq.load
    clear hq hfin
    go_wp2_with (first | ((with_reducible refine gateS 37 _ _ rfl ?_); refine wpList_store_row rfl 37 _ _ rfl w.heap.size #[.int .i64 0, .int .i64 0, .slice none 0 0] rfl rfl 37 _ (uh HQ).blk (by kernel_rfl) rfl (one_row11 _ _ _ _ _) ?_) | ((with_reducible refine gateR ?_); exact bodyPost_ret (results_ct11 (p := 8) (r := 9) rfl _ _ ⟨w.heap.size, 0, none⟩ _ rfl (uh HQQ)) rfl (uh HFIN)))
   have h0b : (s == 0) = false := by simpa using h0
   have HS0 := hide h0
   have HNX : Hid (∀ j, j < k + 1 → ¬ (l.getD j zPV).st = 0) := fun j hj => by
    by_cases e : j = k
    ·rw [e, uh HP, uh HS]; exact uh HS0
    exact uh HZ j (by omega)
   clear h0
   by_cases h2 : s = 2
   ·have HLK : Hid (lostK l (k + 1) = lostK l k) := lostK_yes (by rw [uh HP, uh HS, h2])
    rw [h2] at hc0 h0b
    have hc1 : wr.cell? ⟨g, o + k * 2 + 1, none⟩ = some (.slice p.bo p.x.length p.bc) := ((uh HTB).cell (block_lt_of_cell (uh HC1))).trans (uh HC1)
    have HPL : Hid (valK l (k + 1) = valK l k ++ [.slice p.bo p.x.length p.bc]) := by rw [Hid, valK_snoc, uh HP]; rfl
    have hzq := (uh HB).size
    have hal : Below wr.heap.size wr (wr.alloc (.cells #[.slice p.bo p.x.length p.bc] 47)) := (Below.refl _ _).alloc (Nat.le_refl _) _
    have hov := own_keep11 (uh HV) (fun q cur _ hq => hal.block q (Array.getElem?_eq_some_iff.1 hq).1)
    obtain ⟨i0, hi0, hz0, hz1, hz2⟩ := info_parts infoR
    obtain ⟨v9, w9, hr9, ho9, hg9⟩ := run_append_vals (wr.alloc (.cells #[.slice p.bo p.x.length p.bc] 47)) w1.heap.size 25 25 47 i0 Tryz.underlying25 hi0 hz0 hz1 hz2 _ k _ hov (some ⟨wr.heap.size, 0, none⟩) wr.heap.size 1 1 [.slice p.bo p.x.length p.bc] rfl (one_src _ _ _ _) (by simp [Value.oneCell']) (fun h => by cases h) (by omega) (by have := hal.size; omega)
    have HO9 : Hid (OwnI w1.heap.size w9 _ _) := own_apart11 ((uh HO).below hal) hov (by decide) hg9
    have HB9 : Hid (Below w1.heap.size w1 w9) := below_own11 ((uh HB).trans (hal.mono hzq)) (Nat.le_refl _) hov (Nat.le_refl _) hg9
    have HV9 : Hid (w9.ownsRow w1.heap.size 47 1 v9 (k + 1) (valK l (k + 1))) := by rw [uh HPL]; exact ho9
    have HRA := hide hr9
    clear hal hov hr9 ho9 hg9 hi0 hz0 hz1 hz2
    obtain ⟨va9, vc9, hv9, -⟩ := own_shape11 (uh HV9)
    subst hv9
    clear h0b
    go_wp2_with (at_builtin; refine wpList_append_run rfl _ _ _ _ _ rfl _ _ rfl rfl (uh HRA) ?_)
    go_roundw
    case rel => exact ⟨k + 1, by omega, by go_num, by rw [uh HLK]; exact uh HO9, uh HV9, uh HB9, uh HNX⟩
    case measure => simp [intOf]; omega
   have h2b : (s != 2) = true := by simpa using h2
   have HLK : Hid (lostK l (k + 1) = lostK l k ++ [k]) := lostK_no (by rw [uh HP, uh HS]; exact h2)
   have hc1 : wr.cell? ⟨g, o + k * 2 + 1, none⟩ = some (.slice p.bo p.x.length p.bc) := ((uh HTB).cell (block_lt_of_cell (uh HC1))).trans (uh HC1)
   clear h2
   have hkl := lostK_len l k
   have hal : Below wr.heap.size wr (wr.alloc (.cells #[.int .i64 (k : Int)] 3)) := (Below.refl _ _).alloc (Nat.le_refl _) _
   have hzw := (uh HB).size
   have ho2 : OwnZ w1.heap.size (wr.alloc (.cells #[.int .i64 (k : Int)] 3)) (.slice za (lostK l k).length zc) (ints (lostK l k)) := by
    have h := (uh HO).below hal
    unfold OwnZ
    rw [ints_len]
    exact h
   obtain ⟨v8, w8, hr8, ho8, hg8⟩ := run_append_z (wr.alloc (.cells #[.int .i64 (k : Int)] 3)) w1.heap.size 34 _ (ints (lostK l k)) [(k : Int)] ho2 (some ⟨wr.heap.size, 0, none⟩) wr.heap.size 1 1 rfl (.inr ⟨0, rfl, fun j hj => by
    have : j = 0 := by simpa using hj
    subst this
    exact (cell_new' wr _ _).1⟩) (fun h => by cases h) (by rw [ints_len]; omega) (by have := hal.size; omega)
   have HV8 : Hid (w8.ownsRow w1.heap.size 47 1 (.slice va k vc) k (valK l k)) := own_apart11 (own_keep11 (uh HV) (fun q cur _ hq => hal.block q (Array.getElem?_eq_some_iff.1 hq).1)) ho2 (by decide) hg8
   have HB8 : Hid (Below w1.heap.size w1 w8) := below_own11 ((uh HB).trans (hal.mono hzw)) (Nat.le_refl _) ho2 (Nat.le_refl _) hg8
   have HO8 : Hid (OwnI w1.heap.size w8 v8 (lostK l k ++ [k])) := by
    have h := ho8
    unfold OwnZ at h
    show w8.ownsRow _ _ _ _ _ _
    have e : ints (lostK l k ++ [k]) = ints (lostK l k) ++ [(k : Int)] := by simp [ints]
    rw [e]
    rw [List.length_append, ints_len] at h
    rw [List.length_append]
    exact h
   have HTB8 : Hid (Below w.heap.size w w8) := (uh HT).trans ((uh HB8).mono (uh HT).size)
   have hc18 : w8.cell? ⟨g, o + k * 2 + 1, none⟩ = some (.slice p.bo p.x.length p.bc) := ((uh HTB8).cell (block_lt_of_cell (uh HC1))).trans (uh HC1)
   have HRZ := hide hr8
   clear hal ho2 hr8 ho8 hg8 hc1
   have HPL : Hid (valK l (k + 1) = valK l k ++ [.slice p.bo p.x.length p.bc]) := by rw [Hid, valK_snoc, uh HP]; rfl
   have hzq := (uh HB8).size
   have hal : Below w8.heap.size w8 (w8.alloc (.cells #[.slice p.bo p.x.length p.bc] 47)) := (Below.refl _ _).alloc (Nat.le_refl _) _
   have hov := own_keep11 (uh HV8) (fun q cur _ hq => hal.block q (Array.getElem?_eq_some_iff.1 hq).1)
   obtain ⟨i0, hi0, hz0, hz1, hz2⟩ := info_parts infoR
   obtain ⟨v9, w9, hr9, ho9, hg9⟩ := run_append_vals (w8.alloc (.cells #[.slice p.bo p.x.length p.bc] 47)) w1.heap.size 25 25 47 i0 Tryz.underlying25 hi0 hz0 hz1 hz2 _ k _ hov (some ⟨w8.heap.size, 0, none⟩) w8.heap.size 1 1 [.slice p.bo p.x.length p.bc] rfl (one_src _ _ _ _) (by simp [Value.oneCell']) (fun h => by cases h) (by omega) (by have := hal.size; omega)
   have HO9 : Hid (OwnI w1.heap.size w9 _ _) := own_apart11 ((uh HO8).below hal) hov (by decide) hg9
   have HB9 : Hid (Below w1.heap.size w1 w9) := below_own11 ((uh HB8).trans (hal.mono hzq)) (Nat.le_refl _) hov (Nat.le_refl _) hg9
   have HV9 : Hid (w9.ownsRow w1.heap.size 47 1 v9 (k + 1) (valK l (k + 1))) := by rw [uh HPL]; exact ho9
   have HRA := hide hr9
   clear hal hov hr9 ho9 hg9 hi0 hz0 hz1 hz2
   obtain ⟨va9, vc9, hv9, -⟩ := own_shape11 (uh HV9)
   subst hv9
   obtain ⟨za8, zc8, hv8, -⟩ := own_shape11 (uh HO8)
   subst hv8
   go_wp2_with (at_builtin; first | (refine wpList_append_run rfl _ _ _ _ _ rfl _ _ rfl rfl (uh HRZ) ?_) | (refine wpList_append_run rfl _ _ _ _ _ rfl _ _ rfl rfl (uh HRA) ?_))
   go_roundw
   case rel => exact ⟨k + 1, by omega, by go_num, by have h := uh HO9; rw [List.length_append] at h; rw [uh HLK]; exact h, uh HV9, uh HB9, uh HNX⟩
   case measure => simp [intOf]; omega
  have hkn2 : k = n := by omega
  subst hkn2
  have hi1 : (k : Int) ≤ (k : Int) := Int.le_refl _
  have hnb : ∀ j, j < l.length → ¬ (l.getD j zPV).st = 0 := by rw [uh HLN]; exact uh HZ
  have hnbp : ∀ p ∈ l, p.st ≠ 0 := fun p hp => by
   obtain ⟨i, hi, he⟩ := mem_getD11 (z := zPV) hp
   rw [← he]; exact hnb i hi
  have hlg : lostK l k = lostG l := by rw [← uh HLN]; exact lostK_all hnb
  rw [hlg] at HO ⊢
  have hsf : staF l most = if most < ((lostG l).length : Int) then 11 else 0 := staF_rest (uh HSB) hnb
  have hl8 : (lostG l).length ≤ 8 := by have := lostK_len l k; rw [hlg] at this; omega
  have HSF := hide hsf
  have HNB := hide hnbp
  clear hnb hnbp hlg hsf HZ
  obtain ⟨Lz, hLz⟩ : ∃ Lz, (lostG l).length = Lz := ⟨_, rfl⟩
  have HLZ := hide hLz
  rw [hLz] at HO HSF hl8 ⊢
  clear hLz
  by_cases hmo : most < (Lz : Int)
  ·have HD : Hid (decF super at' l most = (zRow, 11)) := decF_sta2 (uh HC) (by rw [uh HSF, if_pos hmo]) (by decide)
   have hq : RwAt (wr.setRow w.heap.size #[.int .i64 0, .int .i64 0, .slice none 0 0]) w.heap.size 0 0 (.slice none 0 0) := ⟨setRow_heap _ _ _ _ _ _ (uh HQ).blk⟩
   have hfin : DecW w (wr.setRow w.heap.size #[.int .i64 0, .int .i64 0, .slice none 0 0]) (.returned (.tuple #[.agg #[.int .i64 0, .int .i64 0, .slice none 0 0], .int .i64 (decF super at' l most).2])) super at' l most := ⟨below_setRow11 (uh HTB) (Nat.le_refl _) _, _, rfl, by rw [uh HD]; exact ⟨_, 0, rfl, EArg.nil _, fun h => absurd rfl h⟩⟩
   rw [uh HD] at hfin
   have HFIN := hide hfin
   have HQQ := hide hq.load
   clear hq hfin
   go_wp2_with (first | ((with_reducible refine gateS 37 _ _ rfl ?_); refine wpList_store_row rfl 37 _ _ rfl w.heap.size #[.int .i64 0, .int .i64 0, .slice none 0 0] rfl rfl 37 _ (uh HQ).blk (by kernel_rfl) rfl (one_row11 _ _ _ _ _) ?_) | ((with_reducible refine gateR ?_); exact bodyPost_ret (results_ct11 (p := 8) (r := 9) rfl _ _ ⟨w.heap.size, 0, none⟩ _ rfl (uh HQQ)) rfl (uh HFIN)))
  have hmo' : (Lz : Int) ≤ most := by omega
  have hmz : decide (most < (Lz : Int)) = false := decide_eq_false hmo
  have HS0 : Hid (staF l most = 0) := by rw [Hid, uh HSF, if_neg hmo]
  have hl2 : (lostG l).length ≤ 2 := by rw [uh HLZ]; omega
  have HL2 := hide hl2
  clear HSF hl8 hmo hl2
  go_wp2_with fail
  clear hmz
  go_loopw [13] (fun i wq => ∃ (j : Nat), j ≤ k ∧ i = .int .i64 j ∧ wq = wr ∧ ∀ q, q < j → oddP (l.getD q zPV) = false) (fun i _ => k - (intOf i).toNat)
  case atStart => exact ⟨0, by omega, rfl, rfl, by omega⟩
  case round =>
   obtain ⟨j, hjn, rfl, rfl, hod⟩ := hrel
   have HOD := hide hod
   clear hod
   by_cases hlt : j < k
   ·have hi1 : (j : Int) < (k : Int) := by omega
    have hcl := uh HCL j hlt
    obtain ⟨p, hp⟩ : ∃ p, l.getD j zPV = p := ⟨_, rfl⟩
    rw [hp] at hcl
    have HP := hide hp
    have hc0 : wr.cell? ⟨g, o + j * 2, none⟩ = some (.int .i64 p.st) := ((uh HTB).cell (block_lt_of_cell (hcl 0 _ rfl))).trans (hcl 0 _ rfl)
    have hc1 : wr.cell? ⟨g, o + j * 2 + 1, none⟩ = some (.slice p.bo p.x.length p.bc) := ((uh HTB).cell (block_lt_of_cell (hcl 1 _ rfl))).trans (hcl 1 _ rfl)
    clear hcl hp
    obtain ⟨s, hs⟩ : ∃ s, p.st = s := ⟨_, rfl⟩
    have HS := hide hs
    rw [hs] at hc0
    clear hs
    by_cases h2 : s = 2
    ·rw [h2] at hc0
     have HS2 := hide h2
     clear h2
     obtain ⟨xl, hxl⟩ : ∃ xl, p.x.length = xl := ⟨_, rfl⟩
     have HXL := hide hxl
     rw [hxl] at hc1
     have hxm : (xl : Int) ≤ 9223372036854775807 := by have := uh HLEN j; rw [uh HP, hxl] at this; omega
     clear hxl
     by_cases h48 : xl = 48
     ·have HO48 : Hid (oddP (l.getD j zPV) = false) := by rw [Hid, uh HP]; unfold oddP; rw [uh HXL, h48]; simp
      rw [h48] at hc1
      clear h48 hxm HXL
      go_wp2_with fail
      go_roundw
      case rel => exact ⟨j + 1, by omega, by go_num, trivial, fun q hq => by
       by_cases e : q = j
       ·rw [e]; exact uh HO48
       exact uh HOD q (by omega)⟩
      case measure => simp [intOf]; omega
     have hany : l.any oddP = true := by
      rw [List.any_eq_true]
      refine ⟨_, getD_mem11 (z := zPV) (i := j) (by rw [uh HLN]; exact hlt), ?_⟩
      rw [uh HP]; unfold oddP; rw [uh HXL, uh HS, uh HS2]; simpa using h48
     have HD : Hid (decF super at' l most = (zRow, 5)) := decF_no (uh HC) (uh HS0) (by rw [hany]; rfl)
     have h48b : ((xl : Int) != 48) = true := by rw [bne_iff_ne]; omega
     clear hany h48
     have hq : RwAt (wr.setRow w.heap.size #[.int .i64 0, .int .i64 0, .slice none 0 0]) w.heap.size 0 0 (.slice none 0 0) := ⟨setRow_heap _ _ _ _ _ _ (uh HQ).blk⟩
     have hfin : DecW w (wr.setRow w.heap.size #[.int .i64 0, .int .i64 0, .slice none 0 0]) (.returned (.tuple #[.agg #[.int .i64 0, .int .i64 0, .slice none 0 0], .int .i64 (decF super at' l most).2])) super at' l most := ⟨below_setRow11 (uh HTB) (Nat.le_refl _) _, _, rfl, by rw [uh HD]; exact ⟨_, 0, rfl, EArg.nil _, fun h => absurd rfl h⟩⟩
     rw [uh HD] at hfin
     have HFIN := hide hfin
     have HQQ := hide hq.load
     clear hq hfin
     go_wp2_with (first | ((with_reducible refine gateS 37 _ _ rfl ?_); refine wpList_store_row rfl 37 _ _ rfl w.heap.size #[.int .i64 0, .int .i64 0, .slice none 0 0] rfl rfl 37 _ (uh HQ).blk (by kernel_rfl) rfl (one_row11 _ _ _ _ _) ?_) | ((with_reducible refine gateR ?_); exact bodyPost_ret (results_ct11 (p := 8) (r := 9) rfl _ _ ⟨w.heap.size, 0, none⟩ _ rfl (uh HQQ)) rfl (uh HFIN)))
    have h2b : (s == 2) = false := by simpa using h2
    have HO48 : Hid (oddP (l.getD j zPV) = false) := by rw [Hid, uh HP]; unfold oddP; rw [uh HS, h2b]; rfl
    clear h2
    go_wp2_with fail
    go_roundw
    case rel => exact ⟨j + 1, by omega, by go_num, trivial, fun q hq => by
     by_cases e : q = j
     ·rw [e]; exact uh HO48
     exact uh HOD q (by omega)⟩
    case measure => simp [intOf]; omega
   have hjk : j = k := by omega
   subst hjk
   have hany : l.any oddP = false := by
    rw [List.any_eq_false]
    intro p hp
    obtain ⟨i, hi, he⟩ := mem_getD11 (z := zPV) hp
    rw [← he, uh HOD i (by have := uh HLN; omega)]
    decide
   obtain ⟨hX1, hX2⟩ := pay_fix2 (uh HLN) q0 q1 (uh HNB) (uh HL2) hany
   have HANY := hide hany
   have HX1 := hide hX1
   have HX2 := hide hX2
   obtain ⟨G, hRG⟩ := rargK (uh HLN) (by omega) (uh HV) (fun i hi => ((uh HL).get_ok i).below (uh HTB))
   obtain ⟨gz, hZG, -⟩ := (uh HO).z (fun i hi => by have := List.mem_range.1 (List.mem_filter.1 hi).1; rw [uh HLN] at this; omega)
   have HFX := hide (rfix_any _ G _ _ _ _ gz _ wr hRG hZG (fun i => by rw [getD_map11]; exact uh HLEN i))
   clear hany hX1 hX2 hRG hZG HOD
   go_wp2_with fail
   refine (uh HFX).mono ?_
   rintro e w3 ⟨hk, (⟨-, v3, G3, A3, C3, X, m, rfl, hOUT, hFX⟩ | ⟨h, -⟩)⟩
   rotate_left 1
   ·rw [uh HX1] at h; cases h
   obtain ⟨xo, xc, hxv, -⟩ := hOUT.ex
   obtain ⟨e1, e2, e3⟩ := uh HX2 X m hFX
   rw [e2] at hxv
   subst hxv
   have HE1 := hide e1
   have HE2 := hide e2
   have HE3 := hide e3
   have HT3 := hide ((uh HTB).trans (hk.mono (uh HTB).size))
   replace HQ := hide ((uh HQ).below hk)
   have HOUT := hide hOUT
   clear hk e1 e2 e3 hFX hOUT HFX HX1 HX2 HV HO HB HQ1
   go_wp2_with fail
   refine (rcheck_any _ G3 A3 C3 X w3 (uh HOUT) (fun i => by
    by_cases hi : i < j
    ·rw [uh HE3 i hi]; omega
    rw [List.getD_eq_getElem?_getD, List.getElem?_eq_none (by rw [uh HE2]; omega)]; simp)).mono ?_
   rintro e w4 ⟨rfl, hk⟩
   have HT4 := hide ((uh HT3).trans (hk.mono (uh HT3).size))
   replace HQ := hide ((uh HQ).below hk)
   replace HOUT := hide ((uh HOUT).below hk)
   clear hk HT3 HTB
   obtain ⟨cb, hcb⟩ : ∃ cb, chk X = cb := ⟨_, rfl⟩
   have HCB := hide hcb
   rw [hcb]
   clear hcb
   cases cb
   ·have HD : Hid (decF super at' l most = (zRow, 5)) := decF_no (uh HC) (uh HS0) (by rw [uh HE1, uh HCB, uh HANY]; rfl)
    have hq : RwAt (w4.setRow w.heap.size #[.int .i64 0, .int .i64 0, .slice none 0 0]) w.heap.size 0 0 (.slice none 0 0) := ⟨setRow_heap _ _ _ _ _ _ (uh HQ).blk⟩
    have hfin : DecW w (w4.setRow w.heap.size #[.int .i64 0, .int .i64 0, .slice none 0 0]) (.returned (.tuple #[.agg #[.int .i64 0, .int .i64 0, .slice none 0 0], .int .i64 (decF super at' l most).2])) super at' l most := ⟨below_setRow11 (uh HT4) (Nat.le_refl _) _, _, rfl, by rw [uh HD]; exact ⟨_, 0, rfl, EArg.nil _, fun h => absurd rfl h⟩⟩
    rw [uh HD] at hfin
    have HFIN := hide hfin
    have HQQ := hide hq.load
    clear hq hfin
    go_wp2_with (first | ((with_reducible refine gateS 37 _ _ rfl ?_); refine wpList_store_row rfl 37 _ _ rfl w.heap.size #[.int .i64 0, .int .i64 0, .slice none 0 0] rfl rfl 37 _ (uh HQ).blk (by kernel_rfl) rfl (one_row11 _ _ _ _ _) ?_) | ((with_reducible refine gateR ?_); exact bodyPost_ret (results_ct11 (p := 8) (r := 9) rfl _ _ ⟨w.heap.size, 0, none⟩ _ rfl (uh HQQ)) rfl (uh HFIN)))
   have HDF : Hid (decF super at' l most = rowF super at' X) := by rw [Hid, decF_yes (uh HC) (uh HS0) (by rw [uh HE1, uh HCB, uh HANY]; rfl), uh HE1]
   obtain ⟨d, hd⟩ : ∃ d, j = d + 2 := ⟨j - 2, by omega⟩
   subst hd
   have hdI : ((d + 2 : Nat) : Int) - 2 = (d : Int) := by omega
   have hd4 : 4 ≤ d := by omega
   have hd6 : d ≤ 6 := by omega
   have HXD : Hid (X.length - 2 = d) := by rw [Hid, uh HE2]; omega
   obtain ⟨w5, hw5⟩ : ∃ w5, w4.alloc (.cells #[.int .i64 0, .int .i64 at', .slice none 0 0] 37) = w5 := ⟨_, rfl⟩
   obtain ⟨bo, hbo⟩ : ∃ bo, w4.heap.size = bo := ⟨_, rfl⟩
   have HK5 : Hid (Below w4.heap.size w4 w5) := by rw [← hw5]; exact (Below.refl _ w4).alloc (Nat.le_refl _) _
   have HR5 : Hid (RwAt w5 bo 0 at' (.slice none 0 0)) := ⟨by rw [← hw5, ← hbo]; exact World.alloc_heap_new w4 _⟩
   have hz5 : w5.heap.size = w4.heap.size + 1 := by rw [← hw5]; simp
   have hz5a : bo + 1 ≤ w5.heap.size := by omega
   have hz5b : w5.heap.size ≤ bo + 1 := by omega
   have HBO := hide hbo
   have HW5 := hide hw5
   have hvr := rarg_vrow (uh HOUT) (uh HE2)
   obtain ⟨ox, hox, hcx⟩ := hvr.at (by omega : 0 < d + 2)
   subst hox
   have HCX := hide hcx
   clear hz5 hw5 hvr hcx HS0 HNB HL2 HANY HCB HE1
   go_wp2_with fail
   (try rw [uh HW5])
   (try rw [hbo])
   clear hbo
   go_loopw [16] (fun i wq => ∃ (k : Nat) (se : Int) (sl : List EV) (v : Value), k ≤ d ∧ i = .int .i64 k ∧ stR super at' X (List.range k) = some (se, sl) ∧ RwAt wq bo se at' v ∧ OwnE w5.heap.size wq v sl ∧ sl.length = k ∧ Below w4.heap.size w4 wq ∧ w5.heap.size ≤ wq.heap.size) (fun i _ => d - (intOf i).toNat)
   case atStart => exact ⟨0, 0, [], .slice none 0 0, by omega, rfl, rfl, uh HR5, OwnE.nil _ _, rfl, uh HK5, Nat.le_refl _⟩
   case round =>
    obtain ⟨k, se, sl, v, hkd, rfl, hst, hrw, hown, hsl, hB, hz⟩ := hrel
    obtain ⟨va, vc, hv, -⟩ := hown.1.shape
    rw [hsl] at hv
    subst hv
    have HST := hide hst
    have HRW := hide hrw
    have HOWN := hide hown
    have HSL := hide hsl
    have HB := hide hB
    have HZ := hide hz
    clear hst hrw hown hsl hB hz
    by_cases hlt : k < d
    ·have hi1 : (k : Int) < (d : Int) := by omega
     have hlk : (X.getD k []).length = 48 := uh HE3 k (by omega)
     have hc := ((uh HB).cell (block_lt_of_cell (uh HCX k (by omega)))).trans (uh HCX k (by omega))
     obtain ⟨gk, hAk⟩ := ((uh HOUT).below (uh HB)).rows k (by rw [uh HE2]; omega)
     rw [hlk] at hc hAk
     obtain ⟨ra, rc, hrv, hr1, hr2, -, hrr⟩ := hAk.ex
     obtain ⟨rfl, rfl⟩ : A3 k = ra ∧ C3 k = rc := by rw [hlk] at hrv; cases hrv; exact ⟨rfl, rfl⟩
     have hpz := rparse_any (A3 k) gk 48 (C3 k) (ints (X.getD k [])) wr (by omega) (by rw [ints_len, hlk]) (by rw [hlk] at hr1; exact hr1) (by
      rcases hrr with h | ⟨o2, h1, h2⟩
      ·exact .inl h
      exact .inr (block_lt_of_cell (h2 0 (by rw [ints_len, hlk]; omega)))) (byt_bs hAk.bs) hrr
     have HBY := hide (byt_bs hAk.bs)
     obtain ⟨zs, hzs⟩ : ∃ zs, ints (X.getD k []) = zs := ⟨_, rfl⟩
     have HZS := hide hzs
     rw [hzs] at hpz HBY
     have HPZ := hide hpz
     clear hpz hrr hr1 hr2 hrv hlk hAk hzs
     go_wp2_with fail
     refine (uh HPZ).mono ?_
     rintro x W1 ⟨hp, hk⟩
     obtain ⟨p0, hp0⟩ : ∃ p, parH zs 0 = p := ⟨_, rfl⟩
     obtain ⟨p1, hp1⟩ : ∃ p, parH zs 1 = p := ⟨_, rfl⟩
     obtain ⟨p2, hp2⟩ : ∃ p, parH zs 2 = p := ⟨_, rfl⟩
     obtain ⟨p3, hp3⟩ : ∃ p, parH zs 3 = p := ⟨_, rfl⟩
     obtain ⟨pe, hpe⟩ : ∃ p, parE zs = p := ⟨_, rfl⟩
     obtain ⟨ev, hev⟩ : ∃ p, parV zs = p := ⟨_, rfl⟩
     have he := parR_ev hp
     rw [hp0, hp1, hp2, hp3, hpe, hev] at he
     subst he
     have HEV : Hid ev.Ok := by rw [← hev]; exact parV_ok (uh HBY)
     have hstep : stR super at' X (List.range (k + 1)) = if pe = 0 ∧ p0 = (if k = 0 then p0 else se) ∧ p1 = super ∧ p2 = at' ∧ p3 = (k : Int) then some (if k = 0 then p0 else se, sl ++ [ev]) else none := by
      rw [stR_succ, uh HST]
      unfold stepR
      dsimp only
      rw [uh HZS, hp0, hp1, hp2, hp3, hpe, hev]
     have HSTEP := hide hstep
     have HK1 := hide hk
     clear hp hp0 hp1 hp2 hp3 hpe hev hstep hk HZS HST HBY HPZ hc
     obtain ⟨W2, hW⟩ : ∃ W, ((((W1.alloc (.cells #[.int .i64 0, .int .i64 0, .int .i64 0, .int .i64 0] 57)).alloc (.cells #[.int .i64 0, .int .i64 0, .int .i64 0, .int .u8 0, .int .u8 0, .int .u8 0, .int .u8 0, .int .u8 0, .int .u8 0, .int .u8 0, .int .u8 0, .int .u8 0, .int .u8 0, .int .u8 0, .int .u8 0, .int .u8 0, .int .u8 0, .int .u8 0, .int .u8 0] 44)).setRow W1.heap.size (#[.int .i64 p0, .int .i64 p1, .int .i64 p2, .int .i64 p3])).setRow (W1.heap.size + 1) (ev.ar)) = W := ⟨_, rfl⟩
     obtain ⟨n1, n2, n3, n4, n5⟩ := two_new10 W1 #[.int .i64 0, .int .i64 0, .int .i64 0, .int .i64 0] #[.int .i64 0, .int .i64 0, .int .i64 0, .int .u8 0, .int .u8 0, .int .u8 0, .int .u8 0, .int .u8 0, .int .u8 0, .int .u8 0, .int .u8 0, .int .u8 0, .int .u8 0, .int .u8 0, .int .u8 0, .int .u8 0, .int .u8 0, .int .u8 0, .int .u8 0] (#[.int .i64 p0, .int .i64 p1, .int .i64 p2, .int .i64 p3]) (ev.ar) 57 44 W2 hW
     have HXW2 := hide n1
     have HYW2 := hide n2
     have HHW2 := hide n3
     have HEW2 := hide n4
     have HKW2 := hide n5
     have HWW2 := hide hW
     clear n1 n2 n3 n4 n5 hW
     have HKK : Hid (Below wr.heap.size wr W2) := (uh HK1).trans ((uh HKW2).mono (uh HK1).size)
     have HB2 : Hid (Below w4.heap.size w4 W2) := (uh HB).trans ((uh HKK).mono (uh HB).size)
     have HT2 : Hid (Below w.heap.size w W2) := (uh HT4).trans ((uh HB2).mono (uh HT4).size)
     have HQ2 := hide ((uh HQ).below (uh HB2))
     have HRW2 := hide ((uh HRW).below (uh HKK))
     have HOW2 := hide ((uh HOWN).below (uh HKK))
     have HNEB : Hid (∀ q, (Value.slice va k vc).ownBlock = some q → w5.heap.size ≤ q ∧ q < wr.heap.size) := fun q hq => (uh HOWN).1.own.lt q hq
     have HHD : Hid (HdAt W2 W1.heap.size p0 p1 p2 p3) := ⟨(uh HHW2).blk⟩
     have HED : Hid (EvAt W2 (W1.heap.size + 1) ev) := ⟨(uh HEW2).blk⟩
     obtain ⟨c0, c1, c2, c3, -⟩ := (uh HHD).cells
     obtain ⟨cs, -, -⟩ := (uh HRW2).cells
     have hzz1 := (uh HK1).size
     have hzz2 := (uh HKK).size
     have hzz3 := (uh HHD).lt
     have hzz4 := uh HZ
     have hzz5 : W1.heap.size + 1 < W2.heap.size := (Array.getElem?_eq_some_iff.1 (uh HED).blk).1
     clear HB HK1
     have HBAD : Hid (¬ (pe = 0 ∧ p0 = (if k = 0 then p0 else se) ∧ p1 = super ∧ p2 = at' ∧ p3 = (k : Int)) → decF super at' l most = (zRow, 5)) := fun h => by
      rw [uh HDF]; exact rowF_bad (uh HXD) hlt (by rw [uh HSTEP]; exact if_neg h)
     by_cases g0 : pe = 0
     rotate_left 1
     ·have HD := hide (uh HBAD (fun h => g0 (h.1)))
      have f0 : (pe != 0) = true := by rw [bne_iff_ne]; exact g0
      clear g0 HBAD HSTEP
      have hq : RwAt (W2.setRow w.heap.size #[.int .i64 0, .int .i64 0, .slice none 0 0]) w.heap.size 0 0 (.slice none 0 0) := ⟨setRow_heap _ _ _ _ _ _ (uh HQ2).blk⟩
      have hfin : DecW w (W2.setRow w.heap.size #[.int .i64 0, .int .i64 0, .slice none 0 0]) (.returned (.tuple #[.agg #[.int .i64 0, .int .i64 0, .slice none 0 0], .int .i64 (decF super at' l most).2])) super at' l most := ⟨below_setRow11 (uh HT2) (Nat.le_refl _) _, _, rfl, by rw [uh HD]; exact ⟨_, 0, rfl, EArg.nil _, fun h => absurd rfl h⟩⟩
      rw [uh HD] at hfin
      have HFIN := hide hfin
      have HQQ := hide hq.load
      clear hq hfin
      go_wp2_with (first | ((with_reducible refine gateS 57 _ _ rfl ?_); refine wpList_store_row rfl 57 _ _ rfl W1.heap.size (#[.int .i64 p0, .int .i64 p1, .int .i64 p2, .int .i64 p3]) rfl rfl 57 #[.int .i64 0, .int .i64 0, .int .i64 0, .int .i64 0] (uh HXW2).blk (by rw [sizeTH]; rfl) rfl (one_head _ _ _ _) ?_) | ((with_reducible refine gateS 44 _ _ rfl ?_); refine wpList_store_row rfl 44 _ _ rfl (W1.heap.size + 1) (ev.ar) rfl rfl 44 #[.int .i64 0, .int .i64 0, .int .i64 0, .int .u8 0, .int .u8 0, .int .u8 0, .int .u8 0, .int .u8 0, .int .u8 0, .int .u8 0, .int .u8 0, .int .u8 0, .int .u8 0, .int .u8 0, .int .u8 0, .int .u8 0, .int .u8 0, .int .u8 0, .int .u8 0] (uh HYW2).blk (by rw [sizeTE, EV.ar_size (uh HEV)]) (by rw [EV.ar_size (uh HEV)]; rfl) (entA_one _ _ _ _) ?_; rw [uh HWW2]) | ((with_reducible refine gateS 37 _ _ rfl ?_); refine wpList_store_row rfl 37 _ _ rfl w.heap.size #[.int .i64 0, .int .i64 0, .slice none 0 0] rfl rfl 37 _ (uh HQ2).blk (by kernel_rfl) rfl (one_row11 _ _ _ _ _) ?_) | ((with_reducible refine gateR ?_); exact bodyPost_ret (results_ct11 (p := 8) (r := 9) rfl _ _ ⟨w.heap.size, 0, none⟩ _ rfl (uh HQQ)) rfl (uh HFIN)))
     have f0 : (pe != 0) = false := by rw [g0]; simp
     have G0 := hide g0
     clear g0
     by_cases g1 : p1 = super
     rotate_left 1
     ·have HD := hide (uh HBAD (fun h => g1 (h.2.2.1)))
      have f1 : (p1 != super) = true := by rw [bne_iff_ne]; exact g1
      clear g1 HBAD HSTEP
      have hq : RwAt (W2.setRow w.heap.size #[.int .i64 0, .int .i64 0, .slice none 0 0]) w.heap.size 0 0 (.slice none 0 0) := ⟨setRow_heap _ _ _ _ _ _ (uh HQ2).blk⟩
      have hfin : DecW w (W2.setRow w.heap.size #[.int .i64 0, .int .i64 0, .slice none 0 0]) (.returned (.tuple #[.agg #[.int .i64 0, .int .i64 0, .slice none 0 0], .int .i64 (decF super at' l most).2])) super at' l most := ⟨below_setRow11 (uh HT2) (Nat.le_refl _) _, _, rfl, by rw [uh HD]; exact ⟨_, 0, rfl, EArg.nil _, fun h => absurd rfl h⟩⟩
      rw [uh HD] at hfin
      have HFIN := hide hfin
      have HQQ := hide hq.load
      clear hq hfin
      go_wp2_with (first | ((with_reducible refine gateS 57 _ _ rfl ?_); refine wpList_store_row rfl 57 _ _ rfl W1.heap.size (#[.int .i64 p0, .int .i64 p1, .int .i64 p2, .int .i64 p3]) rfl rfl 57 #[.int .i64 0, .int .i64 0, .int .i64 0, .int .i64 0] (uh HXW2).blk (by rw [sizeTH]; rfl) rfl (one_head _ _ _ _) ?_) | ((with_reducible refine gateS 44 _ _ rfl ?_); refine wpList_store_row rfl 44 _ _ rfl (W1.heap.size + 1) (ev.ar) rfl rfl 44 #[.int .i64 0, .int .i64 0, .int .i64 0, .int .u8 0, .int .u8 0, .int .u8 0, .int .u8 0, .int .u8 0, .int .u8 0, .int .u8 0, .int .u8 0, .int .u8 0, .int .u8 0, .int .u8 0, .int .u8 0, .int .u8 0, .int .u8 0, .int .u8 0, .int .u8 0] (uh HYW2).blk (by rw [sizeTE, EV.ar_size (uh HEV)]) (by rw [EV.ar_size (uh HEV)]; rfl) (entA_one _ _ _ _) ?_; rw [uh HWW2]) | ((with_reducible refine gateS 37 _ _ rfl ?_); refine wpList_store_row rfl 37 _ _ rfl w.heap.size #[.int .i64 0, .int .i64 0, .slice none 0 0] rfl rfl 37 _ (uh HQ2).blk (by kernel_rfl) rfl (one_row11 _ _ _ _ _) ?_) | ((with_reducible refine gateR ?_); exact bodyPost_ret (results_ct11 (p := 8) (r := 9) rfl _ _ ⟨w.heap.size, 0, none⟩ _ rfl (uh HQQ)) rfl (uh HFIN)))
     have f1 : (p1 != super) = false := by rw [g1]; simp
     have G1 := hide g1
     clear g1
     by_cases g2 : p2 = at'
     rotate_left 1
     ·have HD := hide (uh HBAD (fun h => g2 (h.2.2.2.1)))
      have f2 : (p2 != at') = true := by rw [bne_iff_ne]; exact g2
      clear g2 HBAD HSTEP
      have hq : RwAt (W2.setRow w.heap.size #[.int .i64 0, .int .i64 0, .slice none 0 0]) w.heap.size 0 0 (.slice none 0 0) := ⟨setRow_heap _ _ _ _ _ _ (uh HQ2).blk⟩
      have hfin : DecW w (W2.setRow w.heap.size #[.int .i64 0, .int .i64 0, .slice none 0 0]) (.returned (.tuple #[.agg #[.int .i64 0, .int .i64 0, .slice none 0 0], .int .i64 (decF super at' l most).2])) super at' l most := ⟨below_setRow11 (uh HT2) (Nat.le_refl _) _, _, rfl, by rw [uh HD]; exact ⟨_, 0, rfl, EArg.nil _, fun h => absurd rfl h⟩⟩
      rw [uh HD] at hfin
      have HFIN := hide hfin
      have HQQ := hide hq.load
      clear hq hfin
      go_wp2_with (first | ((with_reducible refine gateS 57 _ _ rfl ?_); refine wpList_store_row rfl 57 _ _ rfl W1.heap.size (#[.int .i64 p0, .int .i64 p1, .int .i64 p2, .int .i64 p3]) rfl rfl 57 #[.int .i64 0, .int .i64 0, .int .i64 0, .int .i64 0] (uh HXW2).blk (by rw [sizeTH]; rfl) rfl (one_head _ _ _ _) ?_) | ((with_reducible refine gateS 44 _ _ rfl ?_); refine wpList_store_row rfl 44 _ _ rfl (W1.heap.size + 1) (ev.ar) rfl rfl 44 #[.int .i64 0, .int .i64 0, .int .i64 0, .int .u8 0, .int .u8 0, .int .u8 0, .int .u8 0, .int .u8 0, .int .u8 0, .int .u8 0, .int .u8 0, .int .u8 0, .int .u8 0, .int .u8 0, .int .u8 0, .int .u8 0, .int .u8 0, .int .u8 0, .int .u8 0] (uh HYW2).blk (by rw [sizeTE, EV.ar_size (uh HEV)]) (by rw [EV.ar_size (uh HEV)]; rfl) (entA_one _ _ _ _) ?_; rw [uh HWW2]) | ((with_reducible refine gateS 37 _ _ rfl ?_); refine wpList_store_row rfl 37 _ _ rfl w.heap.size #[.int .i64 0, .int .i64 0, .slice none 0 0] rfl rfl 37 _ (uh HQ2).blk (by kernel_rfl) rfl (one_row11 _ _ _ _ _) ?_) | ((with_reducible refine gateR ?_); exact bodyPost_ret (results_ct11 (p := 8) (r := 9) rfl _ _ ⟨w.heap.size, 0, none⟩ _ rfl (uh HQQ)) rfl (uh HFIN)))
     have f2 : (p2 != at') = false := by rw [g2]; simp
     have G2 := hide g2
     clear g2
     by_cases g3 : p3 = (k : Int)
     rotate_left 1
     ·have HD := hide (uh HBAD (fun h => g3 (h.2.2.2.2)))
      have f3 : (p3 != (k : Int)) = true := by rw [bne_iff_ne]; exact g3
      clear g3 HBAD HSTEP
      have hq : RwAt (W2.setRow w.heap.size #[.int .i64 0, .int .i64 0, .slice none 0 0]) w.heap.size 0 0 (.slice none 0 0) := ⟨setRow_heap _ _ _ _ _ _ (uh HQ2).blk⟩
      have hfin : DecW w (W2.setRow w.heap.size #[.int .i64 0, .int .i64 0, .slice none 0 0]) (.returned (.tuple #[.agg #[.int .i64 0, .int .i64 0, .slice none 0 0], .int .i64 (decF super at' l most).2])) super at' l most := ⟨below_setRow11 (uh HT2) (Nat.le_refl _) _, _, rfl, by rw [uh HD]; exact ⟨_, 0, rfl, EArg.nil _, fun h => absurd rfl h⟩⟩
      rw [uh HD] at hfin
      have HFIN := hide hfin
      have HQQ := hide hq.load
      clear hq hfin
      go_wp2_with (first | ((with_reducible refine gateS 57 _ _ rfl ?_); refine wpList_store_row rfl 57 _ _ rfl W1.heap.size (#[.int .i64 p0, .int .i64 p1, .int .i64 p2, .int .i64 p3]) rfl rfl 57 #[.int .i64 0, .int .i64 0, .int .i64 0, .int .i64 0] (uh HXW2).blk (by rw [sizeTH]; rfl) rfl (one_head _ _ _ _) ?_) | ((with_reducible refine gateS 44 _ _ rfl ?_); refine wpList_store_row rfl 44 _ _ rfl (W1.heap.size + 1) (ev.ar) rfl rfl 44 #[.int .i64 0, .int .i64 0, .int .i64 0, .int .u8 0, .int .u8 0, .int .u8 0, .int .u8 0, .int .u8 0, .int .u8 0, .int .u8 0, .int .u8 0, .int .u8 0, .int .u8 0, .int .u8 0, .int .u8 0, .int .u8 0, .int .u8 0, .int .u8 0, .int .u8 0] (uh HYW2).blk (by rw [sizeTE, EV.ar_size (uh HEV)]) (by rw [EV.ar_size (uh HEV)]; rfl) (entA_one _ _ _ _) ?_; rw [uh HWW2]) | ((with_reducible refine gateS 37 _ _ rfl ?_); refine wpList_store_row rfl 37 _ _ rfl w.heap.size #[.int .i64 0, .int .i64 0, .slice none 0 0] rfl rfl 37 _ (uh HQ2).blk (by kernel_rfl) rfl (one_row11 _ _ _ _ _) ?_) | ((with_reducible refine gateR ?_); exact bodyPost_ret (results_ct11 (p := 8) (r := 9) rfl _ _ ⟨w.heap.size, 0, none⟩ _ rfl (uh HQQ)) rfl (uh HFIN)))
     have f3 : (p3 != (k : Int)) = false := by rw [g3]; simp
     have G3 := hide g3
     clear g3
     by_cases hk0 : k = 0
     ·have HNS : Hid (stR super at' X (List.range (k + 1)) = some (p0, sl ++ [ev])) := by rw [Hid, uh HSTEP, if_pos hk0, if_pos ⟨uh G0, rfl, uh G1, uh G2, uh G3⟩]
      have hk0a : decide (0 < (k : Int)) = false := decide_eq_false (by omega)
      have hk0b : decide (0 < k) = false := decide_eq_false (by omega)
      have hk0c : (k : Int) ≤ 0 := by omega
      clear hk0
      clear HBAD
      go_wp2_with (first | ((with_reducible refine gateS 57 _ _ rfl ?_); refine wpList_store_row rfl 57 _ _ rfl W1.heap.size (#[.int .i64 p0, .int .i64 p1, .int .i64 p2, .int .i64 p3]) rfl rfl 57 #[.int .i64 0, .int .i64 0, .int .i64 0, .int .i64 0] (uh HXW2).blk (by rw [sizeTH]; rfl) rfl (one_head _ _ _ _) ?_) | ((with_reducible refine gateS 44 _ _ rfl ?_); refine wpList_store_row rfl 44 _ _ rfl (W1.heap.size + 1) (ev.ar) rfl rfl 44 #[.int .i64 0, .int .i64 0, .int .i64 0, .int .u8 0, .int .u8 0, .int .u8 0, .int .u8 0, .int .u8 0, .int .u8 0, .int .u8 0, .int .u8 0, .int .u8 0, .int .u8 0, .int .u8 0, .int .u8 0, .int .u8 0, .int .u8 0, .int .u8 0, .int .u8 0] (uh HYW2).blk (by rw [sizeTE, EV.ar_size (uh HEV)]) (by rw [EV.ar_size (uh HEV)]; rfl) (entA_one _ _ _ _) ?_; rw [uh HWW2]))
      refine wp_region_noPanic ?_
      refine regionK (kk := 10) (S := fun V => (∀ q, q < W2.heap.size → q ≠ bo → (Value.slice va k vc).ownBlock ≠ some q → V.heap[q]? = W2.heap[q]?) ∧ V.cell? ⟨bo, 2, none⟩ = some (.slice va k vc)) (by kernel_rfl) ?_
      clear c0 c1 c2 c3 cs f0 f1 f2 f3
      have HH : Hid ((∀ q, q < W2.heap.size → q ≠ bo → (Value.slice va k vc).ownBlock ≠ some q → W2.drew.heap[q]? = W2.heap[q]?) ∧ W2.drew.cell? ⟨bo, 2, none⟩ = some (.slice va k vc)) := ⟨fun q _ _ _ => rfl, ((Below.refl _ W2).drew.cell (uh HRW2).lt).trans (uh HRW2).cells.2.2⟩
      have HBZ := hide (show bo < wr.heap.size by omega)
      refine takeK (i := 0) (v := ?_) rfl (by kernel_rfl) (by kernel_rfl) (by kernel_rfl) (by kernel_rfl) (by kernel_rfl) (by kernel_rfl) (fun _ _ _ h => h) (Or.inl ⟨by rfl, ?_⟩) (uh HH) ?_
      rotate_left 1
      ·intro W9 hSW; clear hSW; go_simp; all_goals (with_reducible rfl)
      (try simp only [layB])
      refine takeK (i := 1) (v := ?_) rfl (by kernel_rfl) (by kernel_rfl) (by kernel_rfl) (by kernel_rfl) (by kernel_rfl) (by kernel_rfl) (fun _ _ _ h => h) (Or.inl ⟨by rfl, ?_⟩) (uh HH) ?_
      rotate_left 1
      ·intro W9 hSW; have hc := ((uh HHD).of (hSW.1 _ hzz3 (by have := uh HBZ; omega) (fun e => by have := (uh HNEB) _ e; omega))).cells.1; clear hSW; go_simp; all_goals (with_reducible rfl)
      (try simp only [layB])
      refine takeK (i := 2) (v := ?_) rfl (by kernel_rfl) (by kernel_rfl) (by kernel_rfl) (by kernel_rfl) (by kernel_rfl) (by kernel_rfl) (fun _ _ _ h => h) (Or.inl ⟨by rfl, ?_⟩) (uh HH) ?_
      rotate_left 1
      ·intro W9 hSW; clear hSW; go_simp; all_goals (with_reducible rfl)
      (try simp only [layB])
      refine takeK (i := 3) (v := .slice va k vc) rfl (by kernel_rfl) (by kernel_rfl) (by kernel_rfl) (by kernel_rfl) (by kernel_rfl) (by kernel_rfl) (fun _ _ _ h => h) (Or.inl ⟨by rfl, ?_⟩) (uh HH) ?_
      ·intro W9 hSW; have hc := hSW.2; clear hSW; go_simp; all_goals (with_reducible rfl)
      (try simp only [layB])
      refine takeK (i := 4) (v := .agg (ev.ar)) rfl (by kernel_rfl) (by kernel_rfl) (by kernel_rfl) (by kernel_rfl) (by kernel_rfl) (by kernel_rfl) (fun _ _ _ h => h) (Or.inl ⟨by rfl, fun W9 hSW => run_load_agg9 rfl rfl ((show EvAt W9 (W1.heap.size + 1) ev from ⟨(hSW.1 _ hzz5 (by have := uh HBZ; omega) (fun e => by have := (uh HNEB) _ e; omega)).trans (uh HED).blk⟩).load (uh HEV))⟩) (uh HH) ?_
      (try simp only [layB])
      refine takeK (i := 7) (v := ?_) rfl (by kernel_rfl) (by kernel_rfl) (by kernel_rfl) (by kernel_rfl) (by kernel_rfl) (by kernel_rfl) (fun _ _ _ h => h) (Or.inl ⟨by rfl, ?_⟩) (uh HH) ?_
      rotate_left 1
      ·intro W9 hSW; clear hSW; go_simp; all_goals (with_reducible rfl)
      (try simp only [layB])
      refine readyK (rs := [5]) (by kernel_rfl) (by simp) ?_
      refine consK rfl (fun K hK => ?_) nilK
      rw [if_pos (by rfl)]
      refine wp_build_ev11 _ (by rfl) ev (uh HEV) (by rfl) ?_
      obtain ⟨W6, hW6⟩ : ∃ W6, W2.drew.alloc (.cells ev.ar 44) = W6 := ⟨_, rfl⟩
      have hk6 : Below W2.heap.size W2 W6 := by rw [← hW6]; exact (Below.refl _ W2).drew.alloc (Nat.le_refl _) _
      have hr6 : W6.rangeAt W2.drew.heap.size 0 ev.cs := by rw [← hW6]; exact range_ev _ _ _
      have hz6 : W6.heap.size = W2.drew.heap.size + 1 := by rw [← hW6]; simp
      rw [hW6]
      clear hW6
      refine hK.out _ _ (fun _ => ⟨fun q hq _ _ => hk6.block q hq, (hk6.cell (uh HRW2).lt).trans (uh HRW2).cells.2.2⟩) ?_
      clear hK K
      (try simp only [layB])
      obtain ⟨v8, w8, hr8, ho8, hg8⟩ := run_append_ev W6 w5.heap.size 22 (.slice va k vc) sl ((uh HOW2).below hk6) _ 0 ev hr6 (uh HEV) (by rw [uh HSL]; omega) (by have := hk6.size; omega)
      obtain ⟨ua, uc, hu, -⟩ := ho8.1.shape
      rw [List.length_append, uh HSL] at hu
      subst hu
      have HRB : Hid (∀ q, q < W2.heap.size → (Value.slice va k vc).ownBlock ≠ some q → w8.heap[q]? = W2.heap[q]?) := fun q hq hne => (hg8.block q (by have := hk6.size; omega) (fun e => hne e.symm)).trans (hk6.block q hq)
      have HRA := hide hr8
      have HO8 := hide ho8
      have HB8 : Hid (Below w4.heap.size w4 w8) := ((uh HB2).trans (hk6.mono (uh HB2).size)).trans ⟨hg8.os, hg8.tape, hg8.output, hg8.size, fun q hq => hg8.block q (by have := (uh HB2).size; have := hk6.size; omega) (fun e => by have := uh HNEB q e.symm; have := uh HBO; omega)⟩
      have HZ8 : Hid (w5.heap.size ≤ w8.heap.size) := by have h1 := hk6.size; have h2 := hg8.size; show _ ≤ _; omega
      clear hr8 ho8 hg8 hk6 hr6 hz6
      refine readyK (rs := [6]) (by kernel_rfl) (by simp) ?_
      refine consK rfl (fun K hK => ?_) nilK
      rw [if_pos (by rfl)]
      refine wp_append_run _ (.tmp 166) (.tmp 168) 22 22 (by rfl) _ _ (by rfl) (by rfl) (uh HRA) ?_
      have H8 : Hid (RwAt w8 bo se at' (.slice va k vc)) := (uh HRW2).of (uh HRB _ (by omega) (fun e => by have := (uh HNEB) _ e; omega))
      refine hK.out _ _ (fun _ => ⟨fun q hq _ hne => uh HRB q hq hne, (uh H8).cells.2.2⟩) ?_
      clear hK K
      (try simp only [layB])
      refine readyK (rs := [8]) (by kernel_rfl) (by simp) ?_
      refine consK rfl (fun K hK => ?_) nilK
      have hcx := (uh H8).cells.1
      have hfx := (uh H8).free 0
      go_simp
      clear hcx hfx
      have H9 := hide ((uh H8).set0 p0)
      have HH9 : Hid ((∀ q, q < W2.heap.size → q ≠ bo → (Value.slice va k vc).ownBlock ≠ some q → (w8.setCell ⟨bo, 0, none⟩ (.int .i64 p0)).heap[q]? = W2.heap[q]?) ∧ (w8.setCell ⟨bo, 0, none⟩ (.int .i64 p0)).cell? ⟨bo, 2, none⟩ = some (.slice va k vc)) := ⟨fun q hq hb hne => (Below.heap_setCell _ _ _ _ (fun e => hb e)).trans (uh HRB q hq hne), (uh H9).cells.2.2⟩
      refine hK.out _ _ (fun _ => uh HH9) ?_
      clear hK K
      (try simp only [layB])
      refine takeK (i := 9) (v := ?_) rfl (by kernel_rfl) (by kernel_rfl) (by kernel_rfl) (by kernel_rfl) (by kernel_rfl) (by kernel_rfl) (fun _ _ _ h => h) (Or.inl ⟨by rfl, ?_⟩) (uh HH9) ?_
      rotate_left 1
      ·intro W9 hSW; clear hSW; go_simp; all_goals (with_reducible rfl)
      (try simp only [layB])
      refine readyK (rs := [10]) (by kernel_rfl) (by simp) ?_
      refine consK rfl (fun K hK => ?_) nilK
      have hcx := (uh H9).cells.2.2
      have hfx := (uh H9).free 2
      go_simp
      clear hcx hfx
      refine hK.out _ _ (fun h => (by cases h)) ?_
      clear hK K
      (try simp only [layB])
      refine doneK (by kernel_rfl) ?_ _
      refine NoPanic.normal ?_
      have h9 : ∀ q, q ≠ bo → ((w8.setCell ⟨bo, 0, none⟩ (.int .i64 p0)).setCell ⟨bo, 2, none⟩ (.slice ua (k + 1) uc)).heap[q]? = w8.heap[q]? := fun q hq => (Below.heap_setCell _ _ _ _ (fun e => hq e)).trans (Below.heap_setCell _ _ _ _ (fun e => hq e))
      have HN1 : Hid (RwAt ((w8.setCell ⟨bo, 0, none⟩ (.int .i64 p0)).setCell ⟨bo, 2, none⟩ (.slice ua (k + 1) uc)) bo p0 at' (.slice ua (k + 1) uc)) := (uh H9).set2 _
      have HN2 : Hid (OwnE w5.heap.size ((w8.setCell ⟨bo, 0, none⟩ (.int .i64 p0)).setCell ⟨bo, 2, none⟩ (.slice ua (k + 1) uc)) (.slice ua (k + 1) uc) (sl ++ [ev])) := (uh HO8).keep (fun q hq _ => h9 q (by omega))
      have hbo := uh HBO
      have HN3 : Hid (Below w4.heap.size w4 ((w8.setCell ⟨bo, 0, none⟩ (.int .i64 p0)).setCell ⟨bo, 2, none⟩ (.slice ua (k + 1) uc))) := ((uh HB8).setCell (p := ⟨bo, 0, none⟩) (by simp <;> omega) _).setCell (p := ⟨bo, 2, none⟩) (by simp <;> omega) _
      have HN4 : Hid (w5.heap.size ≤ ((w8.setCell ⟨bo, 0, none⟩ (.int .i64 p0)).setCell ⟨bo, 2, none⟩ (.slice ua (k + 1) uc)).heap.size) := by have := uh HZ8; show _ ≤ _; simpa [World.setCell] using this
      have HN5 : Hid ((sl ++ [ev]).length = k + 1) := by rw [Hid, List.length_append, uh HSL]; rfl
      clear h9 hbo
      generalize (w8.setCell ⟨bo, 0, none⟩ (.int .i64 p0)).setCell ⟨bo, 2, none⟩ (.slice ua (k + 1) uc) = w9 at HN1 HN2 HN3 HN4 ⊢
      go_wp2_with fail
      go_roundw
      case rel => exact ⟨k + 1, p0, sl ++ [ev], _, by omega, by go_num, uh HNS, uh HN1, uh HN2, uh HN5, uh HN3, uh HN4⟩
      case measure => simp [intOf]; omega
     have hk0a : decide (0 < (k : Int)) = true := decide_eq_true (by omega)
     have hk0b : decide (0 < k) = true := decide_eq_true (by omega)
     have hk0c : 0 < (k : Int) := by omega
     by_cases g4 : p0 = se
     rotate_left 1
     ·have HD := hide (uh HBAD (fun h => g4 (by have h2 := h.2.1; rw [if_neg hk0] at h2; exact h2)))
      have f4 : (p0 != se) = true := by rw [bne_iff_ne]; exact g4
      clear g4 HBAD HSTEP hk0
      have hq : RwAt (W2.setRow w.heap.size #[.int .i64 0, .int .i64 0, .slice none 0 0]) w.heap.size 0 0 (.slice none 0 0) := ⟨setRow_heap _ _ _ _ _ _ (uh HQ2).blk⟩
      have hfin : DecW w (W2.setRow w.heap.size #[.int .i64 0, .int .i64 0, .slice none 0 0]) (.returned (.tuple #[.agg #[.int .i64 0, .int .i64 0, .slice none 0 0], .int .i64 (decF super at' l most).2])) super at' l most := ⟨below_setRow11 (uh HT2) (Nat.le_refl _) _, _, rfl, by rw [uh HD]; exact ⟨_, 0, rfl, EArg.nil _, fun h => absurd rfl h⟩⟩
      rw [uh HD] at hfin
      have HFIN := hide hfin
      have HQQ := hide hq.load
      clear hq hfin
      go_wp2_with (first | ((with_reducible refine gateS 57 _ _ rfl ?_); refine wpList_store_row rfl 57 _ _ rfl W1.heap.size (#[.int .i64 p0, .int .i64 p1, .int .i64 p2, .int .i64 p3]) rfl rfl 57 #[.int .i64 0, .int .i64 0, .int .i64 0, .int .i64 0] (uh HXW2).blk (by rw [sizeTH]; rfl) rfl (one_head _ _ _ _) ?_) | ((with_reducible refine gateS 44 _ _ rfl ?_); refine wpList_store_row rfl 44 _ _ rfl (W1.heap.size + 1) (ev.ar) rfl rfl 44 #[.int .i64 0, .int .i64 0, .int .i64 0, .int .u8 0, .int .u8 0, .int .u8 0, .int .u8 0, .int .u8 0, .int .u8 0, .int .u8 0, .int .u8 0, .int .u8 0, .int .u8 0, .int .u8 0, .int .u8 0, .int .u8 0, .int .u8 0, .int .u8 0, .int .u8 0] (uh HYW2).blk (by rw [sizeTE, EV.ar_size (uh HEV)]) (by rw [EV.ar_size (uh HEV)]; rfl) (entA_one _ _ _ _) ?_; rw [uh HWW2]) | ((with_reducible refine gateS 37 _ _ rfl ?_); refine wpList_store_row rfl 37 _ _ rfl w.heap.size #[.int .i64 0, .int .i64 0, .slice none 0 0] rfl rfl 37 _ (uh HQ2).blk (by kernel_rfl) rfl (one_row11 _ _ _ _ _) ?_) | ((with_reducible refine gateR ?_); exact bodyPost_ret (results_ct11 (p := 8) (r := 9) rfl _ _ ⟨w.heap.size, 0, none⟩ _ rfl (uh HQQ)) rfl (uh HFIN)))
     have f4 : (p0 != se) = false := by rw [g4]; simp
     have HNS : Hid (stR super at' X (List.range (k + 1)) = some (p0, sl ++ [ev])) := by rw [Hid, uh HSTEP, if_neg hk0, if_pos ⟨uh G0, g4, uh G1, uh G2, uh G3⟩, g4]
     clear g4 hk0
     clear HBAD
     go_wp2_with (first | ((with_reducible refine gateS 57 _ _ rfl ?_); refine wpList_store_row rfl 57 _ _ rfl W1.heap.size (#[.int .i64 p0, .int .i64 p1, .int .i64 p2, .int .i64 p3]) rfl rfl 57 #[.int .i64 0, .int .i64 0, .int .i64 0, .int .i64 0] (uh HXW2).blk (by rw [sizeTH]; rfl) rfl (one_head _ _ _ _) ?_) | ((with_reducible refine gateS 44 _ _ rfl ?_); refine wpList_store_row rfl 44 _ _ rfl (W1.heap.size + 1) (ev.ar) rfl rfl 44 #[.int .i64 0, .int .i64 0, .int .i64 0, .int .u8 0, .int .u8 0, .int .u8 0, .int .u8 0, .int .u8 0, .int .u8 0, .int .u8 0, .int .u8 0, .int .u8 0, .int .u8 0, .int .u8 0, .int .u8 0, .int .u8 0, .int .u8 0, .int .u8 0, .int .u8 0] (uh HYW2).blk (by rw [sizeTE, EV.ar_size (uh HEV)]) (by rw [EV.ar_size (uh HEV)]; rfl) (entA_one _ _ _ _) ?_; rw [uh HWW2]))
     refine wp_region_noPanic ?_
     refine regionK (kk := 10) (S := fun V => (∀ q, q < W2.heap.size → q ≠ bo → (Value.slice va k vc).ownBlock ≠ some q → V.heap[q]? = W2.heap[q]?) ∧ V.cell? ⟨bo, 2, none⟩ = some (.slice va k vc)) (by kernel_rfl) ?_
     clear f4 c0 c1 c2 c3 cs f0 f1 f2 f3
     have HH : Hid ((∀ q, q < W2.heap.size → q ≠ bo → (Value.slice va k vc).ownBlock ≠ some q → W2.drew.heap[q]? = W2.heap[q]?) ∧ W2.drew.cell? ⟨bo, 2, none⟩ = some (.slice va k vc)) := ⟨fun q _ _ _ => rfl, ((Below.refl _ W2).drew.cell (uh HRW2).lt).trans (uh HRW2).cells.2.2⟩
     have HBZ := hide (show bo < wr.heap.size by omega)
     refine takeK (i := 0) (v := ?_) rfl (by kernel_rfl) (by kernel_rfl) (by kernel_rfl) (by kernel_rfl) (by kernel_rfl) (by kernel_rfl) (fun _ _ _ h => h) (Or.inl ⟨by rfl, ?_⟩) (uh HH) ?_
     rotate_left 1
     ·intro W9 hSW; clear hSW; go_simp; all_goals (with_reducible rfl)
     (try simp only [layB])
     refine takeK (i := 1) (v := ?_) rfl (by kernel_rfl) (by kernel_rfl) (by kernel_rfl) (by kernel_rfl) (by kernel_rfl) (by kernel_rfl) (fun _ _ _ h => h) (Or.inl ⟨by rfl, ?_⟩) (uh HH) ?_
     rotate_left 1
     ·intro W9 hSW; have hc := ((uh HHD).of (hSW.1 _ hzz3 (by have := uh HBZ; omega) (fun e => by have := (uh HNEB) _ e; omega))).cells.1; clear hSW; go_simp; all_goals (with_reducible rfl)
     (try simp only [layB])
     refine takeK (i := 2) (v := ?_) rfl (by kernel_rfl) (by kernel_rfl) (by kernel_rfl) (by kernel_rfl) (by kernel_rfl) (by kernel_rfl) (fun _ _ _ h => h) (Or.inl ⟨by rfl, ?_⟩) (uh HH) ?_
     rotate_left 1
     ·intro W9 hSW; clear hSW; go_simp; all_goals (with_reducible rfl)
     (try simp only [layB])
     refine takeK (i := 3) (v := .slice va k vc) rfl (by kernel_rfl) (by kernel_rfl) (by kernel_rfl) (by kernel_rfl) (by kernel_rfl) (by kernel_rfl) (fun _ _ _ h => h) (Or.inl ⟨by rfl, ?_⟩) (uh HH) ?_
     ·intro W9 hSW; have hc := hSW.2; clear hSW; go_simp; all_goals (with_reducible rfl)
     (try simp only [layB])
     refine takeK (i := 4) (v := .agg (ev.ar)) rfl (by kernel_rfl) (by kernel_rfl) (by kernel_rfl) (by kernel_rfl) (by kernel_rfl) (by kernel_rfl) (fun _ _ _ h => h) (Or.inl ⟨by rfl, fun W9 hSW => run_load_agg9 rfl rfl ((show EvAt W9 (W1.heap.size + 1) ev from ⟨(hSW.1 _ hzz5 (by have := uh HBZ; omega) (fun e => by have := (uh HNEB) _ e; omega)).trans (uh HED).blk⟩).load (uh HEV))⟩) (uh HH) ?_
     (try simp only [layB])
     refine takeK (i := 7) (v := ?_) rfl (by kernel_rfl) (by kernel_rfl) (by kernel_rfl) (by kernel_rfl) (by kernel_rfl) (by kernel_rfl) (fun _ _ _ h => h) (Or.inl ⟨by rfl, ?_⟩) (uh HH) ?_
     rotate_left 1
     ·intro W9 hSW; clear hSW; go_simp; all_goals (with_reducible rfl)
     (try simp only [layB])
     refine readyK (rs := [5]) (by kernel_rfl) (by simp) ?_
     refine consK rfl (fun K hK => ?_) nilK
     rw [if_pos (by rfl)]
     refine wp_build_ev11 _ (by rfl) ev (uh HEV) (by rfl) ?_
     obtain ⟨W6, hW6⟩ : ∃ W6, W2.drew.alloc (.cells ev.ar 44) = W6 := ⟨_, rfl⟩
     have hk6 : Below W2.heap.size W2 W6 := by rw [← hW6]; exact (Below.refl _ W2).drew.alloc (Nat.le_refl _) _
     have hr6 : W6.rangeAt W2.drew.heap.size 0 ev.cs := by rw [← hW6]; exact range_ev _ _ _
     have hz6 : W6.heap.size = W2.drew.heap.size + 1 := by rw [← hW6]; simp
     rw [hW6]
     clear hW6
     refine hK.out _ _ (fun _ => ⟨fun q hq _ _ => hk6.block q hq, (hk6.cell (uh HRW2).lt).trans (uh HRW2).cells.2.2⟩) ?_
     clear hK K
     (try simp only [layB])
     obtain ⟨v8, w8, hr8, ho8, hg8⟩ := run_append_ev W6 w5.heap.size 22 (.slice va k vc) sl ((uh HOW2).below hk6) _ 0 ev hr6 (uh HEV) (by rw [uh HSL]; omega) (by have := hk6.size; omega)
     obtain ⟨ua, uc, hu, -⟩ := ho8.1.shape
     rw [List.length_append, uh HSL] at hu
     subst hu
     have HRB : Hid (∀ q, q < W2.heap.size → (Value.slice va k vc).ownBlock ≠ some q → w8.heap[q]? = W2.heap[q]?) := fun q hq hne => (hg8.block q (by have := hk6.size; omega) (fun e => hne e.symm)).trans (hk6.block q hq)
     have HRA := hide hr8
     have HO8 := hide ho8
     have HB8 : Hid (Below w4.heap.size w4 w8) := ((uh HB2).trans (hk6.mono (uh HB2).size)).trans ⟨hg8.os, hg8.tape, hg8.output, hg8.size, fun q hq => hg8.block q (by have := (uh HB2).size; have := hk6.size; omega) (fun e => by have := uh HNEB q e.symm; have := uh HBO; omega)⟩
     have HZ8 : Hid (w5.heap.size ≤ w8.heap.size) := by have h1 := hk6.size; have h2 := hg8.size; show _ ≤ _; omega
     clear hr8 ho8 hg8 hk6 hr6 hz6
     refine readyK (rs := [6]) (by kernel_rfl) (by simp) ?_
     refine consK rfl (fun K hK => ?_) nilK
     rw [if_pos (by rfl)]
     refine wp_append_run _ (.tmp 166) (.tmp 168) 22 22 (by rfl) _ _ (by rfl) (by rfl) (uh HRA) ?_
     have H8 : Hid (RwAt w8 bo se at' (.slice va k vc)) := (uh HRW2).of (uh HRB _ (by omega) (fun e => by have := (uh HNEB) _ e; omega))
     refine hK.out _ _ (fun _ => ⟨fun q hq _ hne => uh HRB q hq hne, (uh H8).cells.2.2⟩) ?_
     clear hK K
     (try simp only [layB])
     refine readyK (rs := [8]) (by kernel_rfl) (by simp) ?_
     refine consK rfl (fun K hK => ?_) nilK
     have hcx := (uh H8).cells.1
     have hfx := (uh H8).free 0
     go_simp
     clear hcx hfx
     have H9 := hide ((uh H8).set0 p0)
     have HH9 : Hid ((∀ q, q < W2.heap.size → q ≠ bo → (Value.slice va k vc).ownBlock ≠ some q → (w8.setCell ⟨bo, 0, none⟩ (.int .i64 p0)).heap[q]? = W2.heap[q]?) ∧ (w8.setCell ⟨bo, 0, none⟩ (.int .i64 p0)).cell? ⟨bo, 2, none⟩ = some (.slice va k vc)) := ⟨fun q hq hb hne => (Below.heap_setCell _ _ _ _ (fun e => hb e)).trans (uh HRB q hq hne), (uh H9).cells.2.2⟩
     refine hK.out _ _ (fun _ => uh HH9) ?_
     clear hK K
     (try simp only [layB])
     refine takeK (i := 9) (v := ?_) rfl (by kernel_rfl) (by kernel_rfl) (by kernel_rfl) (by kernel_rfl) (by kernel_rfl) (by kernel_rfl) (fun _ _ _ h => h) (Or.inl ⟨by rfl, ?_⟩) (uh HH9) ?_
     rotate_left 1
     ·intro W9 hSW; clear hSW; go_simp; all_goals (with_reducible rfl)
     (try simp only [layB])
     refine readyK (rs := [10]) (by kernel_rfl) (by simp) ?_
     refine consK rfl (fun K hK => ?_) nilK
     have hcx := (uh H9).cells.2.2
     have hfx := (uh H9).free 2
     go_simp
     clear hcx hfx
     refine hK.out _ _ (fun h => (by cases h)) ?_
     clear hK K
     (try simp only [layB])
     refine doneK (by kernel_rfl) ?_ _
     refine NoPanic.normal ?_
     have h9 : ∀ q, q ≠ bo → ((w8.setCell ⟨bo, 0, none⟩ (.int .i64 p0)).setCell ⟨bo, 2, none⟩ (.slice ua (k + 1) uc)).heap[q]? = w8.heap[q]? := fun q hq => (Below.heap_setCell _ _ _ _ (fun e => hq e)).trans (Below.heap_setCell _ _ _ _ (fun e => hq e))
     have HN1 : Hid (RwAt ((w8.setCell ⟨bo, 0, none⟩ (.int .i64 p0)).setCell ⟨bo, 2, none⟩ (.slice ua (k + 1) uc)) bo p0 at' (.slice ua (k + 1) uc)) := (uh H9).set2 _
     have HN2 : Hid (OwnE w5.heap.size ((w8.setCell ⟨bo, 0, none⟩ (.int .i64 p0)).setCell ⟨bo, 2, none⟩ (.slice ua (k + 1) uc)) (.slice ua (k + 1) uc) (sl ++ [ev])) := (uh HO8).keep (fun q hq _ => h9 q (by omega))
     have hbo := uh HBO
     have HN3 : Hid (Below w4.heap.size w4 ((w8.setCell ⟨bo, 0, none⟩ (.int .i64 p0)).setCell ⟨bo, 2, none⟩ (.slice ua (k + 1) uc))) := ((uh HB8).setCell (p := ⟨bo, 0, none⟩) (by simp <;> omega) _).setCell (p := ⟨bo, 2, none⟩) (by simp <;> omega) _
     have HN4 : Hid (w5.heap.size ≤ ((w8.setCell ⟨bo, 0, none⟩ (.int .i64 p0)).setCell ⟨bo, 2, none⟩ (.slice ua (k + 1) uc)).heap.size) := by have := uh HZ8; show _ ≤ _; simpa [World.setCell] using this
     have HN5 : Hid ((sl ++ [ev]).length = k + 1) := by rw [Hid, List.length_append, uh HSL]; rfl
     clear h9 hbo
     generalize (w8.setCell ⟨bo, 0, none⟩ (.int .i64 p0)).setCell ⟨bo, 2, none⟩ (.slice ua (k + 1) uc) = w9 at HN1 HN2 HN3 HN4 ⊢
     go_wp2_with fail
     go_roundw
     case rel => exact ⟨k + 1, p0, sl ++ [ev], _, by omega, by go_num, uh HNS, uh HN1, uh HN2, uh HN5, uh HN3, uh HN4⟩
     case measure => simp [intOf]; omega
    have hkk : k = d := by omega
    subst hkk
    have hi1 : (k : Int) ≤ (k : Int) := Int.le_refl _
    have HD : Hid (decF super at' l most = (⟨se, at', sl⟩, 0)) := by rw [Hid, uh HDF]; exact rowF_good (uh HXD) (by omega) (uh HST)
    have HTF : Hid (Below w.heap.size w wr) := (uh HT4).trans ((uh HB).mono (uh HT4).size)
    replace HQ := hide ((uh HQ).below (uh HB))
    obtain ⟨g4, hg4, hg4b⟩ := (uh HOWN).arg
    have hzw := (uh HT4).size
    have hzb := uh HBO
    have hq : RwAt (wr.setRow w.heap.size #[.int .i64 se, .int .i64 at', .slice va k vc]) w.heap.size se at' (.slice va k vc) := ⟨setRow_heap _ _ _ _ _ _ (uh HQ).blk⟩
    have hfin : DecW w (wr.setRow w.heap.size #[.int .i64 se, .int .i64 at', .slice va k vc]) (.returned (.tuple #[.agg #[.int .i64 se, .int .i64 at', .slice va k vc], .int .i64 (decF super at' l most).2])) super at' l most := ⟨below_setRow11 (uh HTF) (Nat.le_refl _) _, _, rfl, by rw [uh HD]; exact ⟨_, g4, rfl, hg4.of (fun hne => setRow_other _ _ _ _ (fun e => by have := hg4b hne; omega)), fun h => by have := hg4b h; omega⟩⟩
    rw [uh HD] at hfin
    have HFIN := hide hfin
    have HQQ := hide hq.load
    clear hq hfin
    go_wp2_with (first | ((with_reducible refine gateL 37 _ rfl ?_); refine wpList_load_want10 rfl 37 _ rfl bo rfl 37 #[.int .i64 se, .int .i64 at', .slice va k vc] _ _ (uh HRW).blk Tryz.underlying37 rfl (by kernel_rfl) ?_) | ((with_reducible refine gateS 37 _ _ rfl ?_); refine wpList_store_row rfl 37 _ _ rfl w.heap.size #[.int .i64 se, .int .i64 at', .slice va k vc] rfl rfl 37 _ (uh HQ).blk (by kernel_rfl) rfl (one_row11 _ _ _ _ _) ?_) | ((with_reducible refine gateR ?_); exact bodyPost_ret (results_ct11 (p := 8) (r := 9) rfl _ _ ⟨w.heap.size, 0, none⟩ _ rfl (uh HQQ)) rfl (uh HFIN)))
end Go.Proofs.YtjdikhelabibnaaGreat
