/-
  The walk of RowPayloads.
-/
import Derived.Test.YtjdikhelabibnaaGreatMbk
import Derived.Test.YtjdikhelabibnaaGreatMbb
import Derived.Test.YtjdikhelabibnaaGreatMaz
namespace Go.Proofs.YtjdikhelabibnaaGreat
open Go Go.RowKit Go.Shelf

/-- A payload that was written is read back. -/
theorem parse_nbE {a b c i : Int} {e : EV} (he : e.Ok) (ha : 1 ≤ a ∧ a ≤ 1099511627776) (hb : 0 ≤ b ∧ b ≤ 255) (hc : 0 ≤ c ∧ c ≤ 255) (hi : 0 ≤ i ∧ i ≤ 255) (hok : okE e.k e.l e.s e.d) {x : Ending} (h : ParR x (ints (nbE a b c i e))) : x = .returned (.tuple #[.agg (headA a b c i), .agg e.ar, .int .i64 0]) := by
  rw [nbE_ints he] at h
  exact parse_back he.len (fun x hx => by obtain ⟨j, hj, hj2⟩ := mem_getD11 (z := 0) hx; rw [← hj2, cf_getD]; exact he.bs j) ha hb hc hi hok h

set_option maxRecDepth 100000 in
set_option maxHeartbeats 16000000 in
theorem payloads_any (ao : Option Addr) (n c g : Nat) (L : List EV) (a1 a2 a3 a0 : Int) (w : World) (hL : EArg w (.slice ao n c) g L) :
    Calls Tryz.prog 7 #[.slice ao n c, .int .i64 a1, .int .i64 a2, .int .i64 a3, .int .i64 a0] w fun e w' => e = .returned (.bool true) ∧ Below w.heap.size w w' := by
  obtain ⟨hln, hnc, hcm, -⟩ := hL.mrow
  have HL := hide hL
  have HLN := hide hln
  have hnm : (n : Int) ≤ 9223372036854775807 := by unfold maxLen at hcm; omega
  clear hL hln hnc hcm
  obtain ⟨t, ht, ht3⟩ : ∃ t : Nat, a0 % 3 = (t : Int) ∧ t < 3 := ⟨(a0 % 3).toNat, by omega, by omega⟩
  obtain ⟨A1, hA1, b1, b1'⟩ : ∃ r : Int, a1 % 99 = r ∧ 0 ≤ r ∧ r < 99 := ⟨_, rfl, by omega, by omega⟩
  obtain ⟨A2, hA2, b2, b2'⟩ : ∃ r : Int, a2 % 256 = r ∧ 0 ≤ r ∧ r < 256 := ⟨_, rfl, by omega, by omega⟩
  obtain ⟨A3, hA3, b3, b3'⟩ : ∃ r : Int, a3 % 256 = r ∧ 0 ≤ r ∧ r < 256 := ⟨_, rfl, by omega, by omega⟩
  have W0 := fun W => (show Calls Tryz.prog 10 #[.int .i64 a0, .int .i64 3] W fun e w' => e = .returned (.int .i64 (t : Int)) ∧ w' = W from (within11_any a0 3 W (by decide) (by decide)).mono (fun e w' h => by rw [← ht]; exact h))
  have W1 := fun W => (show Calls Tryz.prog 10 #[.int .i64 a1, .int .i64 99] W fun e w' => e = .returned (.int .i64 A1) ∧ w' = W from (within11_any a1 99 W (by decide) (by decide)).mono (fun e w' h => by rw [← hA1]; exact h))
  have W2 := fun W => (show Calls Tryz.prog 10 #[.int .i64 a2, .int .i64 256] W fun e w' => e = .returned (.int .i64 A2) ∧ w' = W from (within11_any a2 256 W (by decide) (by decide)).mono (fun e w' h => by rw [← hA2]; exact h))
  have W3 := fun W => (show Calls Tryz.prog 10 #[.int .i64 a3, .int .i64 256] W fun e w' => e = .returned (.int .i64 A3) ∧ w' = W from (within11_any a3 256 W (by decide) (by decide)).mono (fun e w' h => by rw [← hA3]; exact h))
  have HW0 := hide W0
  have HW1 := hide W1
  have HW2 := hide W2
  have HW3 := hide W3
  have HA := hide (show (0 ≤ A1 ∧ A1 < 99) ∧ (0 ≤ A2 ∧ A2 < 256) ∧ 0 ≤ A3 ∧ A3 < 256 from ⟨⟨b1, b1'⟩, ⟨b2, b2'⟩, b3, b3'⟩)
  clear W0 W1 W2 W3 ht hA1 hA2 hA3 b2 b2' b3 b3'
  go_enter Tryz.func7, Tryz.ntmps7
  go_wp2_with fail
  refine (known11_any w).mono ?_
  rintro e w1 ⟨rfl, hk⟩
  have HT := hide hk
  clear hk
  go_wp2_with fail
  refine (unhide HW0 _).mono ?_
  rintro e wx ⟨rfl, hwx⟩
  rw [hwx]
  clear hwx wx
  go_wp2_with fail
  have hsl := slots11_any ao n c g L (t + 4) (by omega) _ ((unhide HL).below (unhide HT))
  rw [show ((t + 4 : Nat) : Int) = 6 + (t : Int) - 2 by omega] at hsl
  refine hsl.mono ?_
  clear hsl
  rintro e w2 ⟨v, rfl, hO, hk⟩
  obtain ⟨sa, sn, sc, sg, hv, hE⟩ := hO.arg'
  subst hv
  replace HT := hide ((unhide HT).trans (hk.mono (unhide HT).size))
  have HE := hide hE
  clear hk hO hE
  obtain ⟨S, hS⟩ : ∃ S, gdSl L (t + 4) = S := ⟨_, rfl⟩
  have HSL : Hid (S.length ≤ t + 4) := by rw [← hS, gdSl_len]; show _ ≤ _; omega
  have HSK : Hid (okL S) := by rw [← hS]; exact gdSl_okL _
  rw [hS] at HE
  clear hS
  go_wp2_with fail
  refine (unhide HW1 _).mono ?_
  rintro e wx ⟨rfl, hwx⟩
  rw [hwx]
  clear hwx wx
  go_wp2_with fail
  refine (unhide HW2 _).mono ?_
  rintro e wx ⟨rfl, hwx⟩
  rw [hwx]
  clear hwx wx
  go_wp2_with fail
  refine (unhide HW3 _).mono ?_
  rintro e wx ⟨rfl, hwx⟩
  rw [hwx]
  clear hwx wx
  go_wp2_with fail
  refine (enc11_any (6 + (t : Int)) (1 + A1) A2 A3 sa sn sc sg S w2 (unhide HE)).mono ?_
  rintro e w3 h
  obtain ⟨hk, aow3, mw3, kw3, Gw3, Aw3, Cw3, rfl, hR⟩ := EncR.use h
  replace HT := hide ((unhide HT).trans (hk.mono (unhide HT).size))
  replace HE := hide ((unhide HE).below hk)
  have HRw3 := hide hR
  clear h hk hR
  have hokr : okRow (6 + (t : Int)) (1 + A1) A2 A3 S := ⟨⟨by omega, by omega⟩, ⟨⟨by have := (unhide HA).1; omega, by have := (unhide HA).1; omega⟩, ⟨by have := (unhide HA).2.1; omega, by have := (unhide HA).2.1; omega⟩, by have := (unhide HA).2.2; omega, by have := (unhide HA).2.2; omega⟩, by have := unhide HSL; omega, unhide HSK⟩
  rw [encE_ok hokr]
  rw [encX_ok hokr, show (6 + (t : Int) - 2).toNat = t + 4 by omega] at HRw3
  have hmm : mw3 = t + 6 := by
    obtain ⟨_, _, hv, -⟩ := (unhide HRw3).ex
    rw [encL_len] at hv
    cases hv
    rfl
  subst hmm
  clear hokr
  have htt : ((t + 6 : Nat) : Int) = 6 + (t : Int) := by omega
  have hne6 : (((t + 6 : Nat) : Int) != 6 + (t : Int)) = false := by rw [htt]; simp
  have HPOK : Hid (∀ i, (S.getD i zEV).Ok) := (unhide HE).get_ok
  go_wp2_with fail
  refine (rcheck_any _ _ _ _ _ _ (unhide HRw3) (fun i => by
    have hf := (encL_facts (a := 1 + A1) (b := A2) (c := A3) (d := t + 4) (unhide HPOK) (by omega) (by omega)).1
    by_cases hi : i < t + 4 + 2
    · rw [hf i hi]; omega
    · rw [List.getD_eq_getElem?_getD, List.getElem?_eq_none (by rw [encL_len]; omega)]; simp)).mono ?_
  rintro e w4 ⟨rfl, hk⟩
  rw [encL_chk (unhide HPOK) (by omega) (by omega)]
  replace HT := hide ((unhide HT).trans (hk.mono (unhide HT).size))
  replace HE := hide ((unhide HE).below hk)
  replace HRw3 := hide ((unhide HRw3).below hk)
  clear hk hne6
  go_wp2_with fail
  go_loopw [15] (fun i wr => ∃ (k : Nat), k ≤ t + 4 ∧ i = .int .i64 k ∧ Below w4.heap.size w4 wr) (fun i _ => t + 4 - (intOf i).toNat)
  case atStart => exact ⟨0, by omega, rfl, Below.refl _ _⟩
  case round =>
    obtain ⟨k, hkt, rfl, hB⟩ := hrel
    have HB := hide hB
    clear hB
    by_cases hlt : k < t + 4
    · have hi1 : (k : Int) < 6 + (t : Int) - 2 := by omega
      have hv := rarg_vrow (unhide HRw3) (encL_len _ _ _ _ _)
      obtain ⟨o, hao, hcl⟩ := (hv.below (unhide HB)).at (by omega : 0 < t + 4 + 2)
      subst hao
      have hc := hcl k (by omega)
      have hf := (encL_facts (a := 1 + A1) (b := A2) (c := A3) (d := t + 4) (unhide HPOK) (by omega) (by omega)).1 k (by omega)
      have hge := encL_get (a := 1 + A1) (b := A2) (c := A3) (l := S) (show k < t + 4 from hlt)
      obtain ⟨gk, hAk⟩ := (unhide HRw3).rows k (by rw [encL_len]; omega)
      have hAk := hAk.below (unhide HB)
      rw [hf] at hc hAk
      rw [hge] at hAk
      clear hcl hv hf hge
      obtain ⟨ev, hev⟩ : ∃ ev, S.getD k zEV = ev := ⟨_, rfl⟩
      have HOK : Hid ev.Ok := by rw [← hev]; exact unhide HPOK k
      have HOE : Hid (okE ev.k ev.l ev.s ev.d) := by rw [← hev]; exact okL_get (unhide HSK) k
      rw [hev] at hAk
      have HEV := hide hev
      clear hev
      obtain ⟨ra, rc, hrv, hr1, hr2, -, hrr⟩ := hAk.ex
      have hln := nbE_len (a := 1 + A1) (b := A2) (c := A3) (i := (k : Int)) (unhide HOK)
      obtain ⟨rfl, rfl⟩ : Aw3 k = ra ∧ Cw3 k = rc := by rw [hln] at hrv; cases hrv; exact ⟨rfl, rfl⟩
      have hpz := rparse_any (Aw3 k) gk 48 (Cw3 k) (ints (nbE (1 + A1) A2 A3 (k : Int) ev)) wr (by omega) (by rw [ints_len, hln]) (by rw [hln] at hr1; exact hr1) (by
        rcases hrr with h | ⟨o2, h1, h2⟩
        · exact .inl h
        · exact .inr (block_lt_of_cell (h2 0 (by rw [ints_len, hln]; omega)))) (byt_bs hAk.bs) hrr
      have HPZ := hide hpz
      clear hpz hrr hr1 hr2 hrv hln hAk
      go_wp2_with fail
      refine (unhide HPZ).mono ?_
      rintro x W1 ⟨hp, hk⟩
      obtain rfl := parse_nbE (unhide HOK) ⟨by have := (unhide HA).1; omega, by have := (unhide HA).1; omega⟩ ⟨by have := (unhide HA).2.1; omega, by have := (unhide HA).2.1; omega⟩ ⟨by have := (unhide HA).2.2; omega, by have := (unhide HA).2.2; omega⟩ ⟨by omega, by omega⟩ (unhide HOE) hp
      have HB1 : Hid (Below w4.heap.size w4 W1) := (unhide HB).trans (hk.mono (unhide HB).size)
      clear hp hk HPZ hc
      obtain ⟨W2, hW⟩ : ∃ W, ((((W1.alloc (.cells #[.int .i64 0, .int .i64 0, .int .i64 0, .int .i64 0] 57)).alloc (.cells #[.int .i64 0, .int .i64 0, .int .i64 0, .int .u8 0, .int .u8 0, .int .u8 0, .int .u8 0, .int .u8 0, .int .u8 0, .int .u8 0, .int .u8 0, .int .u8 0, .int .u8 0, .int .u8 0, .int .u8 0, .int .u8 0, .int .u8 0, .int .u8 0, .int .u8 0] 44)).setRow W1.heap.size (headA (1 + A1) A2 A3 (k : Int))).setRow (W1.heap.size + 1) (ev.ar)) = W := ⟨_, rfl⟩
      obtain ⟨n1, n2, n3, n4, n5⟩ := two_new10 W1 #[.int .i64 0, .int .i64 0, .int .i64 0, .int .i64 0] #[.int .i64 0, .int .i64 0, .int .i64 0, .int .u8 0, .int .u8 0, .int .u8 0, .int .u8 0, .int .u8 0, .int .u8 0, .int .u8 0, .int .u8 0, .int .u8 0, .int .u8 0, .int .u8 0, .int .u8 0, .int .u8 0, .int .u8 0, .int .u8 0, .int .u8 0] (headA (1 + A1) A2 A3 (k : Int)) (ev.ar) 57 44 W2 hW
      have HXW2 := hide n1
      have HYW2 := hide n2
      have HHW2 := hide n3
      have HEW2 := hide n4
      have HKW2 := hide n5
      have HWW2 := hide hW
      clear n1 n2 n3 n4 n5 hW
      obtain ⟨W3, hW3⟩ : ∃ W, (W2.alloc (.cells #[.int .i64 0, .int .i64 0, .int .i64 0, .int .u8 0, .int .u8 0, .int .u8 0, .int .u8 0, .int .u8 0, .int .u8 0, .int .u8 0, .int .u8 0, .int .u8 0, .int .u8 0, .int .u8 0, .int .u8 0, .int .u8 0, .int .u8 0, .int .u8 0, .int .u8 0] 44)).setRow W2.heap.size zEV.ar = W := ⟨_, rfl⟩
      obtain ⟨n1, n2, n3⟩ := new_ev11 zEV hW3
      have HN3 := hide (World.alloc_heap_new W2 (.cells #[.int .i64 0, .int .i64 0, .int .i64 0, .int .u8 0, .int .u8 0, .int .u8 0, .int .u8 0, .int .u8 0, .int .u8 0, .int .u8 0, .int .u8 0, .int .u8 0, .int .u8 0, .int .u8 0, .int .u8 0, .int .u8 0, .int .u8 0, .int .u8 0, .int .u8 0] 44))
      have HE3 := hide n1
      have HB3 := hide n2
      have HW3 := hide hW3
      clear n1 n2 n3 hW3
      have HB4 : Hid (Below w4.heap.size w4 W3) := ((unhide HB1).trans ((unhide HKW2).mono (unhide HB1).size)).trans ((unhide HB3).mono ((unhide HB1).trans ((unhide HKW2).mono (unhide HB1).size)).size)
      have hqH : ∀ W, (binOp .neq 57 (.agg (headA (1 + A1) A2 A3 (k : Int))) (.agg #[.int .i64 (1 + A1), .int .i64 A2, .int .i64 A3, .int .i64 (k : Int)])).run Tryz.prog W = .ok (.bool false) W := fun W => neTH _ _ _ _ _ _ _ _ false (by simp) W
      have hqE : ∀ W, (binOp .neq 44 (.agg ev.ar) (.agg ev.ar)).run Tryz.prog W = .ok (.bool false) W := fun W => neTE _ _ _ _ _ _ _ _ (unhide HOK).len (unhide HOK).len false (by simp) W
      have hbt0 := build_TE0
      by_cases hkn : k < sn
      · have hi2 : (k : Int) < (sn : Int) := by omega
        obtain ⟨hsl, -, -, hsr⟩ := (unhide HE).mrow
        obtain ⟨os, rfl, hcs⟩ := hsr.at (by omega)
        have HCS : Hid (W3.rangeAt sg (os + k * 19) ev.cs) := fun j v hv => by
          rw [← unhide HEV] at hv
          exact ((unhide HB4).cell (block_lt_of_cell (hcs k hkn j v hv))).trans (hcs k hkn j v hv)
        clear hcs hsr hsl
        obtain ⟨W4, hW4⟩ : ∃ W, W3.setRow W2.heap.size ev.ar = W := ⟨_, rfl⟩
        obtain ⟨n1, n2, n3⟩ := put_ev11 ev (unhide HE3)
        rw [hW4] at n1 n2 n3
        have HE4 := hide n1
        have HB5 : Hid (Below W2.heap.size W2 W4) := (unhide HB3).trans n2
        have HW4 := hide hW4
        clear n1 n2 n3 hW4
        have HX4 := hide ((unhide HHW2).below (unhide HB5))
        have HY4 := hide ((unhide HEW2).below (unhide HB5))
        go_wp2_with (first | (refine wpList_store_row rfl 57 _ _ rfl W1.heap.size (headA (1 + A1) A2 A3 (k : Int)) rfl rfl 57 #[.int .i64 0, .int .i64 0, .int .i64 0, .int .i64 0] (unhide HXW2).blk (by rw [sizeTH]; rfl) rfl (one_head _ _ _ _) ?_) | (refine wpList_store_row rfl 44 _ _ rfl (W1.heap.size + 1) (ev.ar) rfl rfl 44 #[.int .i64 0, .int .i64 0, .int .i64 0, .int .u8 0, .int .u8 0, .int .u8 0, .int .u8 0, .int .u8 0, .int .u8 0, .int .u8 0, .int .u8 0, .int .u8 0, .int .u8 0, .int .u8 0, .int .u8 0, .int .u8 0, .int .u8 0, .int .u8 0, .int .u8 0] (unhide HYW2).blk (by rw [sizeTE, EV.ar_size (unhide HOK)]) (by rw [EV.ar_size (unhide HOK)]; rfl) (entA_one _ _ _ _) ?_; rw [unhide HWW2]) | (refine wpList_store_row rfl 44 _ _ rfl W2.heap.size zEV.ar rfl rfl 44 #[.int .i64 0, .int .i64 0, .int .i64 0, .int .u8 0, .int .u8 0, .int .u8 0, .int .u8 0, .int .u8 0, .int .u8 0, .int .u8 0, .int .u8 0, .int .u8 0, .int .u8 0, .int .u8 0, .int .u8 0, .int .u8 0, .int .u8 0, .int .u8 0, .int .u8 0] (unhide HN3) (by rw [EV.ar_size zEV_ok]; kernel_rfl) (by rw [EV.ar_size zEV_ok]; rfl) (EV.ar_one _) ?_; rw [unhide HW3]) | (refine wpList_load_mid rfl 44 _ rfl sg (os + k * 19) rfl ev.cs _ (unhide HCS) Tryz.underlying44 (by rfl) (by rw [sizeTE, EV.cs_len (unhide HOK)]) ?_; rw [EV.cs_arr]) | (refine wpList_store_row rfl 44 _ _ rfl W2.heap.size ev.ar rfl rfl 44 zEV.ar (unhide HE3).blk (by rw [EV.ar_size (unhide HOK)]; kernel_rfl) (by rw [EV.ar_size (unhide HOK), EV.ar_size zEV_ok]) (EV.ar_one _) ?_; rw [unhide HW4]) | (refine wpList_load_want10 rfl 44 _ rfl (W1.heap.size + 1) rfl 44 (ev.ar) _ _ (unhide HY4).blk Tryz.underlying44 rfl (by rw [sizeTE, EV.ar_size (unhide HOK)]) ?_) | (refine wpList_load_want10 rfl 44 _ rfl W2.heap.size rfl 44 (ev.ar) _ _ (unhide HE4).blk Tryz.underlying44 rfl (by rw [sizeTE, EV.ar_size (unhide HOK)]) ?_) | (refine wpList_load_want10 rfl 57 _ rfl W1.heap.size rfl 57 (headA (1 + A1) A2 A3 (k : Int)) _ _ (unhide HX4).blk Tryz.underlying57 rfl (by rw [sizeTH]; rfl) ?_))
        go_roundw
        case rel => exact ⟨k + 1, by omega, by go_num, ((unhide HB1).trans ((unhide HKW2).mono (unhide HB1).size)).trans ((unhide HB5).mono ((unhide HB1).trans ((unhide HKW2).mono (unhide HB1).size)).size)⟩
        case measure => simp [intOf]; omega
      · have hi2 : (sn : Int) ≤ (k : Int) := by omega
        obtain ⟨hsl, -, -, -⟩ := (unhide HE).mrow
        have hez : ev = zEV := by rw [← unhide HEV, List.getD_eq_getElem?_getD, List.getElem?_eq_none (by rw [hsl]; omega)]; rfl
        subst hez
        clear hsl
        have HB5 := HB3
        have HX4 := hide ((unhide HHW2).below (unhide HB5))
        have HY4 := hide ((unhide HEW2).below (unhide HB5))
        go_wp2_with (first | (refine wpList_store_row rfl 57 _ _ rfl W1.heap.size (headA (1 + A1) A2 A3 (k : Int)) rfl rfl 57 #[.int .i64 0, .int .i64 0, .int .i64 0, .int .i64 0] (unhide HXW2).blk (by rw [sizeTH]; rfl) rfl (one_head _ _ _ _) ?_) | (refine wpList_store_row rfl 44 _ _ rfl (W1.heap.size + 1) (zEV.ar) rfl rfl 44 #[.int .i64 0, .int .i64 0, .int .i64 0, .int .u8 0, .int .u8 0, .int .u8 0, .int .u8 0, .int .u8 0, .int .u8 0, .int .u8 0, .int .u8 0, .int .u8 0, .int .u8 0, .int .u8 0, .int .u8 0, .int .u8 0, .int .u8 0, .int .u8 0, .int .u8 0] (unhide HYW2).blk (by rw [sizeTE, EV.ar_size (zEV_ok)]) (by rw [EV.ar_size (zEV_ok)]; rfl) (entA_one _ _ _ _) ?_; rw [unhide HWW2]) | (refine wpList_store_row rfl 44 _ _ rfl W2.heap.size zEV.ar rfl rfl 44 #[.int .i64 0, .int .i64 0, .int .i64 0, .int .u8 0, .int .u8 0, .int .u8 0, .int .u8 0, .int .u8 0, .int .u8 0, .int .u8 0, .int .u8 0, .int .u8 0, .int .u8 0, .int .u8 0, .int .u8 0, .int .u8 0, .int .u8 0, .int .u8 0, .int .u8 0] (unhide HN3) (by rw [EV.ar_size zEV_ok]; kernel_rfl) (by rw [EV.ar_size zEV_ok]; rfl) (EV.ar_one _) ?_; rw [unhide HW3]) | (refine wpList_load_want10 rfl 44 _ rfl (W1.heap.size + 1) rfl 44 (zEV.ar) _ _ (unhide HY4).blk Tryz.underlying44 rfl (by rw [sizeTE, EV.ar_size zEV_ok]) ?_) | (refine wpList_load_want10 rfl 44 _ rfl W2.heap.size rfl 44 (zEV.ar) _ _ (unhide HE3).blk Tryz.underlying44 rfl (by rw [sizeTE, EV.ar_size zEV_ok]) ?_) | (refine wpList_load_want10 rfl 57 _ rfl W1.heap.size rfl 57 (headA (1 + A1) A2 A3 (k : Int)) _ _ (unhide HX4).blk Tryz.underlying57 rfl (by rw [sizeTH]; rfl) ?_))
        go_roundw
        case rel => exact ⟨k + 1, by omega, by go_num, unhide HB4⟩
        case measure => simp [intOf]; omega
    · have hi1 : 6 + (t : Int) - 2 ≤ (k : Int) := by omega
      go_wp2_with fail
      go_ret
      exact ⟨rfl, (unhide HT).trans ((unhide HB).mono (unhide HT).size)⟩

end Go.Proofs.YtjdikhelabibnaaGreat
