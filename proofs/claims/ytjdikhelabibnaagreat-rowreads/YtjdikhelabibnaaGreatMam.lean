/-
  
-/
import Derived.Test.YtjdikhelabibnaaGreatMaj
import Derived.Test.YtjdikhelabibnaaGreatMal
namespace Go.Proofs.YtjdikhelabibnaaGreat
open Go.RowKit
set_option maxRecDepth 100000 in
set_option maxHeartbeats 4000000 in
theorem even_any (v : Value) (G : Nat) (A : Nat → Option Addr) (C : Nat → Nat) (l : List (List Nat)) (low high : Nat) (h1 : 2 ≤ low) (h2 : high ≤ 100) (w : World) (hA : RArg w v G A C l) :
  Calls Tryz.prog 40 #[v, .int .i64 (low : Int), .int .i64 (high : Int)] w fun e w' => e = .returned (.bool (decide (low ≤ l.length) && decide (l.length ≤ high) && evnB l)) ∧ Below w.heap.size w w' := by
 obtain ⟨ao, c, hv, hc1, hc2, hnil, hrow⟩ := hA.ex
 have HROW := hide hrow
 clear hrow hA hnil
 subst hv
 obtain ⟨N, hN⟩ : ∃ N, l.length = N := ⟨_, rfl⟩
 rw [hN] at hc1 HROW ⊢
 have HN := hide hN
 clear hN
 have hNm : (N : Int) ≤ 9223372036854775807 := by unfold maxLen at hc2; omega
 by_cases hlo : N < low
 ·have e1 : (N : Int) < (low : Int) := by omega
  have HD : Hid (decide (low ≤ N) = false) := by show _ = _; simp; omega
  go_enter Tryz.func40, Tryz.ntmps40
  go_wp2_with fail
  go_ret
  rw [uh HD]
  exact ⟨by simp, Below.refl _ _⟩
 by_cases hhi : high < N
 ·have e1 : (low : Int) ≤ (N : Int) := by omega
  have e2 : (high : Int) < (N : Int) := by omega
  have HD : Hid (decide (N ≤ high) = false) := by show _ = _; simp; omega
  go_enter Tryz.func40, Tryz.ntmps40
  go_wp2_with fail
  go_ret
  rw [uh HD]
  exact ⟨by simp, Below.refl _ _⟩
 have e1 : (low : Int) ≤ (N : Int) := by omega
 have e2 : (N : Int) ≤ (high : Int) := by omega
 have HD : Hid ((decide (low ≤ N) && decide (N ≤ high)) = true) := by show _ = _; simp; omega
 go_enter Tryz.func40, Tryz.ntmps40
 go_wp2_with fail
 go_loopw [7] (fun p wr => ∃ i : Nat, p = .int .i64 i ∧ 1 ≤ i ∧ i ≤ N ∧ (∀ k, k < i → (l.getD k []).length = size l) ∧ Below w.heap.size w wr) (fun p _ => N - (intOf p).toNat)
 case atStart => exact ⟨1, rfl, by omega, by omega, fun k hk => by rw [show k = 0 from by omega]; rfl, Below.refl _ _⟩
 case round =>
  obtain ⟨i, rfl, hi0, hi, hz, hK⟩ := hrel
  have HZ := hide hz
  have HK := hide hK
  clear hz hK
  by_cases hlt : i < N
  ·have hi1 : (i : Int) < (N : Int) := by omega
   have hN0 : (0 : Int) < (N : Int) := by omega
   obtain ⟨o, rfl, hcl⟩ := ((uh HROW).below (uh HK)).at (by omega)
   have hc := hcl i hlt
   have hc0 := hcl 0 (by omega)
   rw [Nat.add_zero] at hc0
   obtain ⟨m, hm⟩ : ∃ m, (l.getD i []).length = m := ⟨_, rfl⟩
   obtain ⟨s, hs⟩ : ∃ s, (l.getD 0 []).length = s := ⟨_, rfl⟩
   rw [hm] at hc
   rw [hs] at hc0
   have HM := hide hm
   have HS := hide hs
   clear hcl hm hs
   by_cases he : m = s
   ·have e3 : ((m : Int) != (s : Int)) = false := by rw [he]; simp
    have HE := hide he
    clear he
    go_wp2_with fail
    go_quiet (fail)
    go_wp2_with fail
    go_roundw
    case rel => exact ⟨i + 1, by go_num, by omega, by omega, fun k hk => by
     by_cases e : k = i
     ·rw [e, uh HM, uh HE]; exact (uh HS).symm
     exact uh HZ k (by omega), below_drewN5 (uh HK) _⟩
    case measure => simp [intOf]; omega
   have e3 : ((m : Int) != (s : Int)) = true := by rw [bne_iff_ne]; omega
   have HEV : Hid (evnB l = false) := not_evn (i := i) (j := 0) (by rw [uh HN]; exact hlt) (by rw [uh HN]; omega) (by rw [uh HM, uh HS]; exact he)
   clear he
   go_wp2_with fail
   go_quiet (fail)
   go_wp2_with fail
   go_ret
   rw [uh HEV]
   exact ⟨by simp, below_drewN5 (uh HK) _⟩
  have hi2 : i = N := by omega
  subst hi2
  have HEV : Hid (evnB l = true) := (evn_iff l).2 (fun k hk => uh HZ k (by rw [← uh HN]; exact hk))
  go_wp2_with fail
  go_ret
  rw [uh HD, uh HEV]
  exact ⟨rfl, uh HK⟩
theorem rarg_byte {w : World} {G N c o : Nat} {A : Nat → Option Addr} {C : Nat → Nat} {l : List (List Nat)} {s i : Nat} (h : RArg w (.slice (some ⟨G, o, none⟩) N c) G A C l) (hl : l.length = N) (hi : i < N) (hs : (l.getD i []).length = s) (h0 : 0 < s) :
  ∃ gx ox cx, w.cell? ⟨G, o + i, none⟩ = some (.slice (some ⟨gx, ox, none⟩) s cx) ∧ ∀ k, k < s → w.cell? ⟨gx, ox + k, none⟩ = some (.int .u8 ((rc l i k : Nat) : Int)) := by
 obtain ⟨gx, hA⟩ := h.rows i (by omega)
 obtain ⟨ao, c', h1, _, _, _, h5⟩ := h.ex
 cases h1
 obtain ⟨o', ho, hc⟩ := h5.at (by omega)
 cases ho
 obtain ⟨ox, hao, hb⟩ := hA.cells (fun e => by rw [e] at hs; simp at hs; omega)
 have hc := hc i (by omega)
 rw [hao, hs] at hc
 exact ⟨gx, ox, _, hc, fun k hk => hb k (by rw [hs]; exact hk)⟩
theorem rarg_head {w : World} {G N c o : Nat} {A : Nat → Option Addr} {C : Nat → Nat} {l : List (List Nat)} {i : Nat} (h : RArg w (.slice (some ⟨G, o, none⟩) N c) G A C l) (hl : l.length = N) (hi : i < N) : w.cell? ⟨G, o + i, none⟩ = some (.slice (A i) (l.getD i []).length (C i)) := by
 obtain ⟨ao, c', h1, _, _, _, h5⟩ := h.ex
 cases h1
 obtain ⟨o', ho, hc⟩ := h5.at (by omega)
 cases ho
 exact hc i (by omega)
theorem two_new (w : World) (o0 o1 : Obj) : (((w.alloc o0).alloc o1).drew).heap[w.heap.size]? = some o0 ∧ (((w.alloc o0).alloc o1).drew).heap[w.heap.size + 1]? = some o1 ∧ Below w.heap.size w (((w.alloc o0).alloc o1).drew) := by
 refine ⟨?_, ?_, (((Below.refl _ w).alloc (Nat.le_refl _) _).alloc (by simp) _).drew⟩
 ·exact (Below.heap_alloc _ _ _ (by simp)).trans (World.alloc_heap_new w o0)
 have := World.alloc_heap_new (w.alloc o0) o1
 rw [World.size_alloc] at this
 exact this
theorem addK_row {l : List (List Nat)} {c : Nat → Nat} {i n : Nat} : addF (smL c l (List.range i) n) (l.getD i []) (c i) = smL c l (List.range (i + 1)) n := by
 rw [addF_smL, List.range_succ]
set_option maxRecDepth 100000 in
set_option maxHeartbeats 8000000 in
theorem rparity_any (v : Value) (G : Nat) (A : Nat → Option Addr) (C : Nat → Nat) (l : List (List Nat)) (w : World) (hA : RArg w v G A C l) (hlen : ∀ i, (l.getD i []).length ≤ 100000) :
  Calls Tryz.prog 32 #[v] w fun e w' => ∃ v1 v2, e = .returned (.tuple #[v1, v2]) ∧ Fr w.heap.size w' v1 (pP l) ∧ Fr w.heap.size w' v2 (pQ l) ∧ Below w.heap.size w w' := by
 obtain ⟨ao, c, hv, hc1, hc2, hnil, hrow⟩ := hA.ex
 have HA := hide hA
 have HLEN := hide hlen
 clear hrow hlen hA hnil
 subst hv
 obtain ⟨N, hN⟩ : ∃ N, l.length = N := ⟨_, rfl⟩
 have HEV := hide (even_any _ G A C l 2 14 (by omega) (by omega) w (uh HA))
 rw [hN] at hc1 HA HEV ⊢
 have HN := hide hN
 clear hN
 have hNm : (N : Int) ≤ 9223372036854775807 := by unfold maxLen at hc2; omega
 have HOKe : Hid (okP l = (decide (2 ≤ N) && decide (N ≤ 14) && evnB l)) := by show _ = _; unfold okP; rw [uh HN]
 go_enter Tryz.func32, Tryz.ntmps32
 go_wp2_with fail
 refine (uh HEV).mono ?_
 rintro e w1 ⟨rfl, hk⟩
 rw [← uh HOKe]
 have HB := hide hk
 replace HA := hide ((uh HA).below hk)
 clear hk HEV
 cases hok : okP l with
 | false =>
  have HOK := hide hok
  clear hok
  go_wp2_with fail
  go_returns
  exact ⟨_, _, rfl, .inl ⟨by simp [pP, uh HOK], rfl⟩, .inl ⟨by simp [pQ, uh HOK], rfl⟩, uh HB⟩
 | true =>
  have HOK := hide hok
  have hok2 := hok
  unfold okP at hok2
  rw [uh HN, Bool.and_eq_true, Bool.and_eq_true, decide_eq_true_eq, decide_eq_true_eq] at hok2
  obtain ⟨⟨hN2, hN14⟩, hev⟩ := hok2
  have HEVN := hide ((evn_iff l).1 hev)
  clear hok hev
  obtain ⟨o, hao, _⟩ : ∃ o, ao = some ⟨G, o, none⟩ ∧ True := by
   obtain ⟨ao', c', h1, _, _, _, h5⟩ := (uh HA).ex
   cases h1
   obtain ⟨o, ho, _⟩ := h5.at (by rw [uh HN]; omega)
   exact ⟨o, ho, trivial⟩
  subst hao
  obtain ⟨n, hn⟩ : ∃ n, size l = n := ⟨_, rfl⟩
  have hn5 : n ≤ 100000 := by rw [← hn]; exact uh HLEN 0
  have HSZ : Hid (∀ i, i < N → (l.getD i []).length = n) := fun i hi => by rw [uh HEVN i (by rw [uh HN]; exact hi)]; exact hn
  have HH0 := hide (rarg_head (uh HA) (uh HN) (i := 0) (by omega))
  rw [Nat.add_zero, uh HSZ 0 (by omega)] at HH0
  have HNS := hide hn
  clear hn
  have hN0 : (0 : Int) < (N : Int) := by omega
  go_wp2_with fail
  refine wp_mono (Q := fun e a' W => e = .normal ∧ ∃ gp gq, a' = { tmps := #[.slice (some ⟨G, o, none⟩) N c, undef, .slice none 0 0, .slice none 0 0, .slice (some ⟨gp, 0, none⟩) n n, .slice (some ⟨gq, 0, none⟩) n n, undef, undef, undef, .slice (some ⟨G, o, none⟩) N c, .bool true, .bool false, .slice (some ⟨G, o, none⟩) N c, .pointer (some ⟨G, o, none⟩), .slice (A 0) n (C 0), .int .i64 (n : Int), .slice (some ⟨gp, 0, none⟩) n n, .slice (some ⟨G, o, none⟩) N c, .pointer (some ⟨G, o, none⟩), .slice (A 0) n (C 0), .int .i64 (n : Int), .slice (some ⟨gq, 0, none⟩) n n,
   undef, undef, undef, undef, undef, undef, undef, undef, undef, undef, undef, undef, undef, undef, undef, undef, undef, undef, undef, undef, undef, undef, undef, undef, undef, undef, undef, undef, undef, undef, undef, undef, undef, undef, undef, undef, undef, undef, undef, undef, undef, undef, undef, undef, undef, undef, undef, undef, undef, undef, undef], defers := [] } ∧
   Blk W gp (List.replicate n 0) ∧ Blk W gq (List.replicate n 0) ∧ gp ≠ gq ∧ w1.heap.size ≤ gp ∧ w1.heap.size ≤ gq ∧ Below w1.heap.size w1 W) ?_ ?_
  ·have hmk := run_zeros n (by omega)
   have HZC := hide (zeros_cells n)
   obtain ⟨zz, hzz⟩ : ∃ z, (List.replicate n (Value.int .u8 0)).toArray = z := ⟨_, rfl⟩
   rw [hzz] at hmk HZC
   clear hzz
   have hc0 := uh HH0
   have hc0' : (w1.alloc (.cells zz 5)).cell? ⟨G, o, none⟩ = _ := (World.cell?_of_block (Below.heap_alloc _ _ _ (block_lt_of_cell hc0))).trans hc0
   have hN0' : 0 < N := by omega
   go_region
   all_goals obtain ⟨h0, h1, hB⟩ := two_new w1 (.cells zz 5) (.cells zz 5)
   all_goals refine ⟨rfl, _, _, rfl, ⟨zz, by first | exact h0 | exact h1, uh HZC⟩, ⟨zz, by first | exact h1 | exact h0, uh HZC⟩, by omega, by omega, by omega, hB⟩
  rintro e a' W ⟨rfl, gp, gq, rfl, hP, hQ, hpq, hgp, hgq, hk⟩
  have HP := hide hP
  have HQ := hide hQ
  have HBW := hide hk
  have hzW := hk.size
  clear hP hQ hk
  have HBL : Hid (∀ i, Bs (l.getD i [])) := (uh HA).bs
  go_wp2_with fail
  go_loopw [6] (fun p wr => ∃ i : Nat, p = .int .i64 i ∧ i ≤ N ∧ Blk wr gp (smL (fun _ => 1) l (List.range i) n) ∧ Blk wr gq (smL E l (List.range i) n) ∧ Kp [gp, gq] W wr) (fun p _ => N - (intOf p).toNat)
  case atStart => exact ⟨0, rfl, by omega, by rw [List.range_zero, smL_nil]; exact uh HP, by rw [List.range_zero, smL_nil]; exact uh HQ, Kp.refl _ _⟩
  case round =>
   obtain ⟨i, rfl, hi, hP, hQ, hK⟩ := hrel
   have HPi := hide hP
   have HQi := hide hQ
   have HKi := hide hK
   clear hP hQ hK
   by_cases hlt : i < N
   ·have hi1 : (i : Int) < (N : Int) := by omega
    go_wp2_with fail
    refine (rexp_any (i : Int) wr).mono ?_
    rintro e w3 ⟨rfl, hw3⟩
    subst hw3
    go_wp2_with fail
    go_loopw [8] (fun p wx => ∃ k : Nat, p = .int .i64 k ∧ k ≤ n ∧ Blk wx gp (addK (smL (fun _ => 1) l (List.range i) n) (l.getD i []) 1 k) ∧ Blk wx gq (addK (smL E l (List.range i) n) (l.getD i []) (E i) k) ∧ Kp [gp, gq] W wx) (fun p _ => n - (intOf p).toNat)
    case atStart => exact ⟨0, rfl, by omega, by rw [addK_zero]; exact uh HPi, by rw [addK_zero]; exact uh HQi, uh HKi⟩
    case round =>
     obtain ⟨k, rfl, hk, hP, hQ, hK⟩ := hrel
     have HBW1 := hide hP
     have HBq := hide hQ
     have HKr := hide hK
     have hB1 : Below w1.heap.size w1 wr := below_kp (uh HBW) hK (by simp; omega) hzW
     have hzr := hB1.size
     clear hP hQ hK
     have hh := (hB1.cell (p := ⟨G, o + i, none⟩) (block_lt_of_cell (rarg_head (uh HA) (uh HN) hlt))).trans (rarg_head (uh HA) (uh HN) hlt)
     rw [uh HSZ i hlt] at hh
     by_cases hkl : k < n
     ·have hk1 : (k : Int) < (n : Int) := by omega
      obtain ⟨gx, ox, cx, hx1, hx2⟩ := rarg_byte (uh HA) (uh HN) hlt (uh HSZ i hlt) (by omega)
      have hlx1 := block_lt_of_cell hx1
      have hlx2 := block_lt_of_cell (hx2 k hkl)
      dsimp only at hlx1 hlx2
      have hx1' := (hB1.cell (p := ⟨G, o + i, none⟩) hlx1).trans hx1
      have HX1 := hide hx1'
      have HX2 := hide ((hB1.cell (p := ⟨gx, ox + k, none⟩) hlx2).trans (hx2 k hkl))
      have hx8 : rc l i k < 256 := uh HBL i k
      have hxe : cf (l.getD i []) k = rc l i k := rfl
      obtain ⟨x, hx⟩ : ∃ x, rc l i k = x := ⟨_, rfl⟩
      rw [hx] at HX2 hx8 hxe
      have HXE := hide hxe
      obtain ⟨y1, hy1⟩ : ∃ y, cf (smL (fun _ => 1) l (List.range i) n) k = y := ⟨_, rfl⟩
      have h1 : y1 < 256 := by rw [← hy1]; exact smL_bs (uh HBL) k
      have Hy1 := hide hy1
      obtain ⟨y2, hy2⟩ : ∃ y, cf (smL E l (List.range i) n) k = y := ⟨_, rfl⟩
      have h2 : y2 < 256 := by rw [← hy2]; exact smL_bs (uh HBL) k
      have Hy2 := hide hy2
      have HST1 : Hid ((addK (smL (fun _ => 1) l (List.range i) n) (l.getD i []) 1 k).set k (y1 ^^^ x) = addK (smL (fun _ => 1) l (List.range i) n) (l.getD i []) 1 (k + 1)) := by
       show _ = _
       rw [← addK_step (by rw [smL_len]; exact hkl), hy1, hxe, gmul_one hx8]
      have HST2 : Hid ((addK (smL E l (List.range i) n) (l.getD i []) (E i) k).set k (y2 ^^^ gmul (X (i : Int)) x) = addK (smL E l (List.range i) n) (l.getD i []) (E i) (k + 1)) := by
       show _ = _
       rw [← addK_step (by rw [smL_len]; exact hkl), hy2, hxe, gmul_comm hx8 (E_lt i), X_nat]
      have hxor1 := bits_xor_u8 h1 hx8
      have hxor2 := bits_xor_u8 h2 (gmul_lt (a := X (i : Int)) (b := x) (X_lt _))
      have hgx : G < w1.heap.size ∧ gx < w1.heap.size := ⟨hlx1, hlx2⟩
      clear hh hx hy1 hy2 hxe hx1 hx2
      go_wp2_with fail
      clear hx1'
      refine wp_region_noPanic ?_
      refine wp_region_held_drew (S := fun W => Kp [gp] wr W) (by kernel_rfl) ((Kp.refl _ _).drew) (fun hHeld => ?_)
      have HH := hide hHeld
      clear hHeld
      refine tkL 0 (uh HH) ?_
      (try simp only [layB])
      refine tkL 1 (uh HH) ?_
      (try simp only [layB])
      refine tkL 2 (uh HH) ?_
      (try simp only [layB])
      refine tkL 3 (uh HH) ?_
      (try simp only [layB])
      refine tkL 4 (uh HH) ?_
      (try simp only [layB])
      refine tkL 6 (uh HH) ?_
      (try simp only [layB])
      refine tkL 7 (uh HH) ?_
      (try simp only [layB])
      refine tkL 8 (uh HH) ?_
      (try simp only [layB])
      refine tkW 9 (v := ?_) ?_ (uh HH) ?_
      rotate_left 1
      ·intro W1 hSW; have hc := hSW.cell (uh HX1) (by simp; omega); clear hSW; go_simp; all_goals (with_reducible rfl)
      (try simp only [layB])
      refine tkL 10 (uh HH) ?_
      (try simp only [layB])
      refine tkL 11 (uh HH) ?_
      (try simp only [layB])
      refine tkW 12 (v := ?_) ?_ (uh HH) ?_
      rotate_left 1
      ·intro W1 hSW; have hc := hSW.cell (uh HX2) (by simp; omega); clear hSW; go_simp; all_goals (with_reducible rfl)
      (try simp only [layB])
      refine wpAnyH_ready (rs := [5]) (by kernel_rfl) (by simp) ?_
      refine consL rfl (fun K hK => ?_) AllReadyH.nil
      have he : wr.cell? ⟨gp, k, none⟩ = some (.int .u8 (y1 : Int)) := ((uh HBW1).cell (by rw [addK_len, smL_len]; exact hkl)).trans (by rw [addK_at (by rw [smL_len]; exact hkl), uh Hy1])
      go_simp
      refine hK.out _ _ (uh HH) (fun hHeld => ?_)
      clear hK K HH
      have HH := hide hHeld
      clear hHeld
      (try simp only [layB])
      clear he
      refine tkL 13 (uh HH) ?_
      (try simp only [layB])
      refine tkL 14 (uh HH) ?_
      (try simp only [layB])
      refine wpAnyH_ready (rs := [15]) (by kernel_rfl) (by simp) ?_
      refine consL rfl (fun K hK => ?_) AllReadyH.nil
      have he : wr.cell? ⟨gp, k, none⟩ = some (.int .u8 (y1 : Int)) := ((uh HBW1).cell (by rw [addK_len, smL_len]; exact hkl)).trans (by rw [addK_at (by rw [smL_len]; exact hkl), uh Hy1])
      have hf4 : wr.frozen? ⟨gp, k, none⟩ = false := (uh HBW1).free
      go_simp
      have HBW2 : Hid (Blk (wr.setCell ⟨gp, k, none⟩ (.int .u8 ((y1 ^^^ x : Nat) : Int))).drew gp _) := ((uh HBW1).set k (y1 ^^^ x) (by rw [addK_len, smL_len]; exact hkl)).of rfl
      have HKW2 : Hid (Kp [gp] wr (wr.setCell ⟨gp, k, none⟩ (.int .u8 ((y1 ^^^ x : Nat) : Int))).drew) := ((Kp.refl [gp] wr).setCell ⟨gp, k, none⟩ (.int .u8 ((y1 ^^^ x : Nat) : Int)) (.inl (by simp))).drew
      refine hK.out _ _ (uh HKW2) (fun hHeld => ?_)
      clear hHeld hK K HH he hf4
      (try simp only [layB])
      refine wpAnyH_done (by kernel_rfl) ?_ _
      refine NoPanic.normal ?_
      generalize (wr.setCell ⟨gp, k, none⟩ (.int .u8 ((y1 ^^^ x : Nat) : Int))).drew = w6 at HBW2 HKW2 ⊢
      have HBP : Hid (Blk w6 gp (addK (smL (fun _ => 1) l (List.range i) n) (l.getD i []) 1 (k + 1))) := by
       show Blk _ _ _
       rw [← uh HST1]; exact uh HBW2
      have HB6q : Hid (Blk w6 gq (addK (smL E l (List.range i) n) (l.getD i []) (E i) k)) := (uh HBq).of ((uh HKW2).block gq (uh HBq).lt (by simp; omega))
      have HK6 : Hid (Kp [gp, gq] W w6) := (uh HKr).trans (uh HKW2) (by simp)
      have HX3 := hide ((uh HKW2).cell (uh HX1) (by simp; omega))
      have HX4 := hide ((uh HKW2).cell (uh HX2) (by simp; omega))
      clear HBW2 HKW2
      have hx3 := uh HX3
      go_wp2_with fail
      clear hx3
      refine wp_region_noPanic ?_
      refine wp_region_held_drew (S := fun W => Kp [gq] w6 W) (by kernel_rfl) ((Kp.refl _ _).drew) (fun hHeld => ?_)
      have HH := hide hHeld
      clear hHeld
      refine tkL 0 (uh HH) ?_
      (try simp only [layB])
      refine tkL 1 (uh HH) ?_
      (try simp only [layB])
      refine tkL 2 (uh HH) ?_
      (try simp only [layB])
      refine tkL 3 (uh HH) ?_
      (try simp only [layB])
      refine tkL 4 (uh HH) ?_
      (try simp only [layB])
      refine tkL 6 (uh HH) ?_
      (try simp only [layB])
      refine tkL 7 (uh HH) ?_
      (try simp only [layB])
      refine tkL 8 (uh HH) ?_
      (try simp only [layB])
      refine tkL 9 (uh HH) ?_
      (try simp only [layB])
      refine tkW 10 (v := ?_) ?_ (uh HH) ?_
      rotate_left 1
      ·intro W1 hSW; have hc := hSW.cell (uh HX3) (by simp; omega); clear hSW; go_simp; all_goals (with_reducible rfl)
      (try simp only [layB])
      refine tkL 11 (uh HH) ?_
      (try simp only [layB])
      refine tkL 12 (uh HH) ?_
      (try simp only [layB])
      refine tkW 13 (v := ?_) ?_ (uh HH) ?_
      rotate_left 1
      ·intro W1 hSW; have hc := hSW.cell (uh HX4) (by simp; omega); clear hSW; go_simp; all_goals (with_reducible rfl)
      (try simp only [layB])
      refine wpAnyH_ready (rs := [5, 14]) (by kernel_rfl) (by simp) ?_
      refine consL rfl (fun K hK => ?_) (consL rfl (fun K hK => ?_) AllReadyH.nil)
      focus
       have he : w6.cell? ⟨gq, k, none⟩ = some (.int .u8 (y2 : Int)) := ((uh HB6q).cell (by rw [addK_len, smL_len]; exact hkl)).trans (by rw [addK_at (by rw [smL_len]; exact hkl), uh Hy2])
       go_simp
       refine hK.out _ _ (uh HH) (fun hHeld => ?_)
       clear hK K HH
       have HH := hide hHeld
       clear hHeld
       (try simp only [layB])
       clear he
       refine wpAnyH_ready (rs := [14]) (by kernel_rfl) (by simp) ?_
       refine consL rfl (fun K hK => ?_) AllReadyH.nil
       go_simp
       refine (rmul_any (X (i : Int)) x (X_lt _) hx8 _).mono ?_
       rintro e w4 ⟨rfl, hw4⟩
       subst hw4
       go_wp2_with fail
       refine hK.out _ _ (uh HH) (fun hHeld => ?_)
       clear hK K HH
       have HH := hide hHeld
       clear hHeld
       (try simp only [layB])
       refine tkL 15 (uh HH) ?_
       (try simp only [layB])
       refine tkL 16 (uh HH) ?_
       (try simp only [layB])
       refine wpAnyH_ready (rs := [17]) (by kernel_rfl) (by simp) ?_
       refine consL rfl (fun K hK => ?_) AllReadyH.nil
       have he : w6.cell? ⟨gq, k, none⟩ = some (.int .u8 (y2 : Int)) := ((uh HB6q).cell (by rw [addK_len, smL_len]; exact hkl)).trans (by rw [addK_at (by rw [smL_len]; exact hkl), uh Hy2])
       have hf4 : w6.frozen? ⟨gq, k, none⟩ = false := (uh HB6q).free
       go_simp
       have HBW2 : Hid (Blk (w6.setCell ⟨gq, k, none⟩ (.int .u8 ((y2 ^^^ gmul (X (i : Int)) x : Nat) : Int))).drew gq _) := ((uh HB6q).set k (y2 ^^^ gmul (X (i : Int)) x) (by rw [addK_len, smL_len]; exact hkl)).of rfl
       have HKW2 : Hid (Kp [gq] w6 (w6.setCell ⟨gq, k, none⟩ (.int .u8 ((y2 ^^^ gmul (X (i : Int)) x : Nat) : Int))).drew) := ((Kp.refl [gq] w6).setCell ⟨gq, k, none⟩ (.int .u8 ((y2 ^^^ gmul (X (i : Int)) x : Nat) : Int)) (.inl (by simp))).drew
       refine hK.out _ _ (uh HKW2) (fun hHeld => ?_)
       clear hHeld hK K HH he hf4
       (try simp only [layB])
       refine wpAnyH_done (by kernel_rfl) ?_ _
       refine NoPanic.normal ?_
       generalize (w6.setCell ⟨gq, k, none⟩ (.int .u8 ((y2 ^^^ gmul (X (i : Int)) x : Nat) : Int))).drew = w7 at HBW2 HKW2 ⊢
       go_wp2_with fail
       go_roundw
       case rel =>
        refine ⟨k + 1, by go_num, by omega, ?_, ?_, ?_⟩
        ·exact (uh HBP).of ((uh HKW2).block gp (uh HBP).lt (by simp; omega))
        ·rw [← uh HST2]; exact uh HBW2
        exact (uh HK6).trans (uh HKW2) (by simp)
       case measure => simp [intOf]; omega
      focus
       go_simp
       refine (rmul_any (X (i : Int)) x (X_lt _) hx8 _).mono ?_
       rintro e w4 ⟨rfl, hw4⟩
       subst hw4
       go_wp2_with fail
       refine hK.out _ _ (uh HH) (fun hHeld => ?_)
       clear hK K HH
       have HH := hide hHeld
       clear hHeld
       (try simp only [layB])
       refine wpAnyH_ready (rs := [5]) (by kernel_rfl) (by simp) ?_
       refine consL rfl (fun K hK => ?_) AllReadyH.nil
       have he : w6.cell? ⟨gq, k, none⟩ = some (.int .u8 (y2 : Int)) := ((uh HB6q).cell (by rw [addK_len, smL_len]; exact hkl)).trans (by rw [addK_at (by rw [smL_len]; exact hkl), uh Hy2])
       go_simp
       refine hK.out _ _ (uh HH) (fun hHeld => ?_)
       clear hK K HH
       have HH := hide hHeld
       clear hHeld
       (try simp only [layB])
       clear he
       refine tkL 15 (uh HH) ?_
       (try simp only [layB])
       refine tkL 16 (uh HH) ?_
       (try simp only [layB])
       refine wpAnyH_ready (rs := [17]) (by kernel_rfl) (by simp) ?_
       refine consL rfl (fun K hK => ?_) AllReadyH.nil
       have he : w6.cell? ⟨gq, k, none⟩ = some (.int .u8 (y2 : Int)) := ((uh HB6q).cell (by rw [addK_len, smL_len]; exact hkl)).trans (by rw [addK_at (by rw [smL_len]; exact hkl), uh Hy2])
       have hf4 : w6.frozen? ⟨gq, k, none⟩ = false := (uh HB6q).free
       go_simp
       have HBW2 : Hid (Blk (w6.setCell ⟨gq, k, none⟩ (.int .u8 ((y2 ^^^ gmul (X (i : Int)) x : Nat) : Int))).drew gq _) := ((uh HB6q).set k (y2 ^^^ gmul (X (i : Int)) x) (by rw [addK_len, smL_len]; exact hkl)).of rfl
       have HKW2 : Hid (Kp [gq] w6 (w6.setCell ⟨gq, k, none⟩ (.int .u8 ((y2 ^^^ gmul (X (i : Int)) x : Nat) : Int))).drew) := ((Kp.refl [gq] w6).setCell ⟨gq, k, none⟩ (.int .u8 ((y2 ^^^ gmul (X (i : Int)) x : Nat) : Int)) (.inl (by simp))).drew
       refine hK.out _ _ (uh HKW2) (fun hHeld => ?_)
       clear hHeld hK K HH he hf4
       (try simp only [layB])
       refine wpAnyH_done (by kernel_rfl) ?_ _
       refine NoPanic.normal ?_
       generalize (w6.setCell ⟨gq, k, none⟩ (.int .u8 ((y2 ^^^ gmul (X (i : Int)) x : Nat) : Int))).drew = w7 at HBW2 HKW2 ⊢
       go_wp2_with fail
       go_roundw
       case rel =>
        refine ⟨k + 1, by go_num, by omega, ?_, ?_, ?_⟩
        ·exact (uh HBP).of ((uh HKW2).block gp (uh HBP).lt (by simp; omega))
        ·rw [← uh HST2]; exact uh HBW2
        exact (uh HK6).trans (uh HKW2) (by simp)
       case measure => simp [intOf]; omega
     have hk2 : k = n := by omega
     subst hk2
     go_wp2_with fail
     go_roundw
     case rel => exact ⟨i + 1, by go_num, by omega, by rw [← addK_row, ← addK_all (k := k) (by rw [smL_len]; exact Nat.le_refl _)]; exact uh HBW1, by rw [← addK_row, ← addK_all (k := k) (by rw [smL_len]; exact Nat.le_refl _)]; exact uh HBq, uh HKr⟩
     case measure => simp [intOf]; omega
   have hi2 : i = N := by omega
   subst hi2
   have hB1 : Below w1.heap.size w1 wr := below_kp (uh HBW) (uh HKi) (by simp; omega) hzW
   have HBF := hide ((uh HB).trans (hB1.mono (uh HB).size))
   have HP9 : Hid (Blk wr gp (pP l) ∧ (pP l).length = n) := by show _ ∧ _; rw [(par_of (uh HOK)).1, uh HN, uh HNS]; exact ⟨uh HPi, smL_len _ _ _ _⟩
   have HQ9 : Hid (Blk wr gq (pQ l) ∧ (pQ l).length = n) := by show _ ∧ _; rw [(par_of (uh HOK)).2, uh HN, uh HNS]; exact ⟨uh HQi, smL_len _ _ _ _⟩
   have hz1 := (uh HB).size
   clear hB1
   go_wp2_with fail
   go_returns
   exact ⟨_, _, rfl, .inr ⟨gp, n, by rw [(uh HP9).2]; rfl, by rw [(uh HP9).2]; exact Nat.le_refl _, by unfold maxLen; omega, (uh HP9).1, by omega⟩, .inr ⟨gq, n, by rw [(uh HQ9).2]; rfl, by rw [(uh HQ9).2]; exact Nat.le_refl _, by unfold maxLen; omega, (uh HQ9).1, by omega⟩, uh HBF⟩
theorem RArg.take {w : World} {ao : Option Addr} {N c G d : Nat} {A : Nat → Option Addr} {C : Nat → Nat} {l : List (List Nat)} (h : RArg w (.slice ao N c) G A C l) (hd : d ≤ l.length) : RArg w (.slice ao d c) G A C (l.take d) := by
 obtain ⟨⟨ao', c', h1, h2, h3, h4, h5⟩, hr⟩ := h
 cases h1
 have hl : (l.take d).length = d := by simp; omega
 refine ⟨⟨ao, c, by rw [hl], by omega, h3, h4, ?_⟩, fun i hi => ?_⟩
 ·rw [hl]
  rcases h5 with h0 | ⟨o, ho, hc⟩
  ·exact .inl (by omega)
  exact .inr ⟨o, ho, fun j hj => by rw [hc j (by omega)]; simp only [getD_take hj]⟩
 rw [hl] at hi
 rw [getD_take hi]
 exact hr i (by omega)
set_option maxRecDepth 100000 in
set_option maxHeartbeats 8000000 in
theorem rcheck_any (v : Value) (G : Nat) (A : Nat → Option Addr) (C : Nat → Nat) (l : List (List Nat)) (w : World) (hA : RArg w v G A C l) (hlen : ∀ i, (l.getD i []).length ≤ 100000) :
  Calls Tryz.prog 20 #[v] w fun e w' => e = .returned (.bool (chk l)) ∧ Below w.heap.size w w' := by
 obtain ⟨ao, c, hv, hc1, hc2, hnil, hrow⟩ := hA.ex
 have HA := hide hA
 have HLEN := hide hlen
 clear hrow hlen hA hnil
 subst hv
 obtain ⟨N, hN⟩ : ∃ N, l.length = N := ⟨_, rfl⟩
 have HEV := hide (even_any _ G A C l 4 16 (by omega) (by omega) w (uh HA))
 rw [hN] at hc1 HA HEV ⊢
 have HN := hide hN
 clear hN
 have hNm : (N : Int) ≤ 9223372036854775807 := by unfold maxLen at hc2; omega
 have HOKe : Hid (okC l = (decide (4 ≤ N) && decide (N ≤ 16) && evnB l)) := by show _ = _; unfold okC; rw [uh HN]
 go_enter Tryz.func20, Tryz.ntmps20
 go_wp2_with fail
 refine (uh HEV).mono ?_
 rintro e w1 ⟨rfl, hk⟩
 rw [← uh HOKe]
 have HB := hide hk
 replace HA := hide ((uh HA).below hk)
 clear hk HEV
 cases hok : okC l with
 | false =>
  have HR : Hid (chk l = false) := by show _ = _; unfold chk; rw [hok]; rfl
  clear hok
  go_wp2_with fail
  go_ret
  rw [uh HR]
  exact ⟨rfl, uh HB⟩
 | true =>
  obtain ⟨h4, h16, hs⟩ := okC_parts hok
  rw [uh HN] at h4 h16
  obtain ⟨d, hd⟩ : ∃ d, N = d + 2 := ⟨N - 2, by omega⟩
  have HCE := hide (chk_eq (by rw [uh HN, hd]) (uh HA).bs hok)
  have hd1 : (N : Int) - 2 = (d : Int) := by omega
  have hd2 : (N : Int) - 1 = (d : Int) + 1 := by omega
  have hd3 : (d : Int) ≤ (c : Int) := by omega
  have hdN : (d : Int) < (N : Int) := by omega
  have hdN1 : (d : Int) + 1 < (N : Int) := by omega
  have HBS : Hid (∀ i, Bs (l.getD i [])) := (uh HA).bs
  have HDN := hide hd
  obtain ⟨o, hao, _⟩ : ∃ o, ao = some ⟨G, o, none⟩ ∧ True := by
   obtain ⟨ao', c', h1, _, _, _, h5⟩ := (uh HA).ex
   cases h1
   obtain ⟨o, ho, _⟩ := h5.at (by rw [uh HN]; omega)
   exact ⟨o, ho, trivial⟩
  subst hao
  have hlm1 := uh HLEN d
  have hlm2 := uh HLEN (d + 1)
  clear hok hs hd
  go_wp2_with fail
  refine (rparity_any _ G A C (l.take d) w1 ((uh HA).take (by rw [uh HN]; have := uh HDN; omega)) (fun i => by
   by_cases hi : i < d
   ·rw [getD_take hi]; exact uh HLEN i
   rw [List.getD_eq_getElem?_getD, List.getElem?_eq_none (by simp; omega)]; simp)).mono ?_
  rintro e w2 ⟨v1, v2, rfl, hP, hQ, hk⟩
  replace HB := hide ((uh HB).trans (hk.mono (uh HB).size))
  replace HA := hide ((uh HA).below hk)
  clear hk
  obtain ⟨bP, bQ⟩ := par_bs (l := l.take d) (fun i => by
   by_cases hi : i < d
   ·rw [getD_take hi]; exact uh HBS i
   rw [List.getD_eq_getElem?_getD, List.getElem?_eq_none (by simp; omega)]; exact Bs.nil)
  obtain ⟨g1, hA1, _⟩ := hP.arg bP
  obtain ⟨g2, hA2, _⟩ := hQ.arg bQ
  have hAx := hA1
  obtain ⟨⟨ao1, c1, rfl, _⟩, _⟩ := hAx
  have hAx := hA2
  obtain ⟨⟨ao2, c2, rfl, _⟩, _⟩ := hAx
  obtain ⟨g3, hA3⟩ := (uh HA).rows d (by rw [uh HN]; have := uh HDN; omega)
  obtain ⟨g4, hA4⟩ := (uh HA).rows (d + 1) (by rw [uh HN]; have := uh HDN; omega)
  have hh1 := rarg_head (uh HA) (uh HN) (i := d) (by have := uh HDN; omega)
  have hh2 := rarg_head (uh HA) (uh HN) (i := d + 1) (by have := uh HDN; omega)
  have b3 := uh HBS d
  have b4 := uh HBS (d + 1)
  have hcv1 := fun m => conv_arg (hA1.below (below_drewN5 (Below.refl _ w2) m))
  have hcv2 := fun m => conv_arg (hA2.below (below_drewN5 (Below.refl _ w2) m))
  have hcv3 := fun m => conv_arg (hA3.below (below_drewN5 (Below.refl _ w2) m))
  have hcv4 := fun m => conv_arg (hA4.below (below_drewN5 (Below.refl _ w2) m))
  have HC := HCE
  obtain ⟨P, hPe⟩ : ∃ P, pP (l.take d) = P := ⟨_, rfl⟩
  obtain ⟨Q, hQe⟩ : ∃ Q, pQ (l.take d) = Q := ⟨_, rfl⟩
  obtain ⟨R3, hR3⟩ : ∃ P, l.getD d [] = P := ⟨_, rfl⟩
  obtain ⟨R4, hR4⟩ : ∃ P, l.getD (d + 1) [] = P := ⟨_, rfl⟩
  rw [hPe] at hcv1 bP HC ⊢
  rw [hQe] at hcv2 bQ HC ⊢
  rw [hR3] at hcv3 hh1 b3 HC
  rw [hR4] at hcv4 hh2 b4 HC
  clear hA1 hA2 hA3 hA4 hP hQ hPe hQe hR3 hR4 HCE hlm1 hlm2
  by_cases e1 : P = R3
  ·by_cases e2 : Q = R4
   ·have HR : Hid (chk l = true) := by show _ = _; rw [uh HC, e1, e2]; simp
    subst e1
    subst e2
    clear bP bQ b3 b4
    go_wp2_with fail
    go_quiet (fail)
    go_wp2_with fail
    go_ret
    rw [uh HR]
    exact ⟨rfl, below_drewN5 (uh HB) _⟩
   have HR : Hid (chk l = false) := by show _ = _; rw [uh HC]; simp [e2]
   have hs2 := str_ne bQ b4 e2
   subst e1
   clear bP bQ b3 b4 e2
   go_wp2_with fail
   go_quiet (fail)
   go_wp2_with fail
   go_ret
   rw [uh HR]
   exact ⟨rfl, below_drewN5 (uh HB) _⟩
  have HR : Hid (chk l = false) := by show _ = _; rw [uh HC]; simp [e1]
  have hs1 := str_ne bP b3 e1
  clear bP bQ b3 b4 e1
  go_wp2_with fail
  go_quiet (fail)
  go_wp2_with fail
  go_ret
  rw [uh HR]
  exact ⟨rfl, below_drewN5 (uh HB) _⟩
end Go.Proofs.YtjdikhelabibnaaGreat

namespace Go.Proofs.YtjdikhelabibnaaGreat
open Go.RowKit
structure Tn (W : World) (gT N : Nat) (ps : List (Option Addr × Nat)) (t : List (List Nat)) : Prop where
 cells : ∃ cur, W.heap[gT]? = some (.cells cur 47 (0, 0)) ∧ ∀ j, j < N → cur[j]? = some (.slice (psA ps j) (t.getD j []).length (psC ps j))
 pl : ps.length = N
 tl : t.length = N
 rows : ∀ j, j < N → ∃ g, Arg W (.slice (psA ps j) (t.getD j []).length (psC ps j)) g (t.getD j []) ∧ (t.getD j [] ≠ [] → g ≠ gT)
theorem Tn.lt {W : World} {gT N : Nat} {ps : List (Option Addr × Nat)} {t : List (List Nat)} (h : Tn W gT N ps t) : gT < W.heap.size := by
 obtain ⟨cur, h1, _⟩ := h.cells
 exact lt_of_block h1
theorem Tn.cell {W : World} {gT N : Nat} {ps : List (Option Addr × Nat)} {t : List (List Nat)} (h : Tn W gT N ps t) {j : Nat} (hj : j < N) : W.cell? ⟨gT, j, none⟩ = some (.slice (psA ps j) (t.getD j []).length (psC ps j)) ∧ W.frozen? ⟨gT, j, none⟩ = false := by
 obtain ⟨cur, h1, h2⟩ := h.cells
 exact ⟨by simp [World.cell?, h1, h2 j hj], by simp [World.frozen?, h1]⟩
theorem Tn.below {W W' : World} {gT N : Nat} {ps : List (Option Addr × Nat)} {t : List (List Nat)} (h : Tn W gT N ps t) (k : Below W.heap.size W W') : Tn W' gT N ps t := by
 obtain ⟨cur, h1, h2⟩ := h.cells
 exact ⟨⟨cur, (k.block gT h.lt).trans h1, h2⟩, h.pl, h.tl, fun j hj => by obtain ⟨g, h3, h4⟩ := h.rows j hj; exact ⟨g, h3.below k, h4⟩⟩
theorem arg_kp {S : List Nat} {w w' : World} {v : Value} {g : Nat} {s : List Nat} (h : Arg w v g s) (k : Kp S w w') (hn : s ≠ [] → g ∉ S) : Arg w' v g s := by
 obtain ⟨⟨ao, c, h1, h2, h3, h4, h5⟩, hb⟩ := h
 refine ⟨⟨ao, c, h1, h2, h3, h4, ?_⟩, hb⟩
 by_cases h0 : s = []
 ·subst h0; exact .inl rfl
 exact h5.keep k (hn h0)
theorem Tn.set {W : World} {gT N : Nat} {ps : List (Option Addr × Nat)} {t : List (List Nat)} (h : Tn W gT N ps t) {i : Nat} (hi : i < N) {a : Option Addr} {c g : Nat} {r : List Nat} (hr : Arg W (.slice a r.length c) g r) (hg : r ≠ [] → g ≠ gT) : Tn (W.setCell ⟨gT, i, none⟩ (.slice a r.length c)) gT N (ps.set i (a, c)) (t.set i r) := by
 have hpl : i < ps.length := by rw [h.pl]; exact hi
 have htl : i < t.length := by rw [h.tl]; exact hi
 have hk : Kp [gT] W (W.setCell ⟨gT, i, none⟩ (.slice a r.length c)) := (Kp.refl _ W).setCell _ _ (.inl (by simp))
 refine ⟨?_, by rw [List.length_set]; exact h.pl, by rw [List.length_set]; exact h.tl, fun j hj => ?_⟩
 ·obtain ⟨cur, h1, h2⟩ := h.cells
  refine ⟨cur.setIfInBounds i (.slice a r.length c), heap_setCell_same W gT i _ _ _ h1, fun j hj => ?_⟩
  rw [(ps_set hpl).1, (ps_set hpl).2, getD_set htl, Array.getElem?_setIfInBounds]
  by_cases e : i = j
  ·subst e
   have : i < cur.size := (Array.getElem?_eq_some_iff.1 (h2 i hi)).1
   simp [this]
  rw [if_neg e, if_neg e, if_neg e, if_neg e]
  exact h2 j hj
 rw [(ps_set hpl).1, (ps_set hpl).2, getD_set htl]
 by_cases e : i = j
 ·rw [if_pos e, if_pos e, if_pos e]
  exact ⟨g, arg_kp hr hk (fun h0 => by simpa using hg h0), hg⟩
 rw [if_neg e, if_neg e, if_neg e]
 obtain ⟨g', h3, h4⟩ := h.rows j hj
 exact ⟨g', arg_kp h3 hk (fun h0 => by simpa using h4 h0), h4⟩
theorem Tn.arg {W : World} {gT N c : Nat} {ps : List (Option Addr × Nat)} {t : List (List Nat)} (h : Tn W gT N ps t) (h1 : N ≤ c) (h2 : c ≤ maxLen) : RArg W (.slice (some ⟨gT, 0, none⟩) N c) gT (psA ps) (psC ps) t :=
 ⟨⟨some ⟨gT, 0, none⟩, c, by rw [h.tl], by rw [h.tl]; exact h1, h2, (fun h => by cases h), .inr ⟨0, rfl, fun j hj => by rw [Nat.zero_add]; exact (h.cell (by rw [← h.tl]; exact hj)).1⟩⟩, fun i hi => by
  obtain ⟨g, hg, _⟩ := h.rows i (by rw [← h.tl]; exact hi)
  exact ⟨g, hg⟩⟩
end Go.Proofs.YtjdikhelabibnaaGreat

namespace Go.Proofs.YtjdikhelabibnaaGreat
open Go.RowKit
theorem lg_at {a i : Nat} (h : E i = a) (hi : i < 255) : lg a = i := by
 have h0 := E_ne i
 unfold lg
 rw [if_neg (by omega), ← h, L_E hi]
theorem lg_none {a : Nat} (ha : a < 256) (h : ∀ i, i < 255 → E i ≠ a) : lg a = -1 := by
 unfold lg
 by_cases h0 : a = 0
 ·rw [if_pos h0]
 exact absurd (E_L (by omega) ha).1 (h _ (E_L (by omega) ha).2)
set_option maxRecDepth 100000 in
set_option maxHeartbeats 2000000 in
theorem rlog_any (a : Nat) (ha : a < 256) (w : World) : Calls Tryz.prog 109 #[.int .u8 a] w fun e w' => e = .returned (.int .i64 (lg a)) ∧ w' = w := by
 go_enter Tryz.func109, Tryz.ntmps109
 go_wp2_with fail
 go_loop [3, 4] (fun x i => ∃ i' : Nat, i' ≤ 255 ∧ i = .int .i64 i' ∧ x = .int .u8 (E i' : Nat) ∧ ∀ k, k < i' → E k ≠ a) (fun _ i => 255 - (intOf i).toNat)
 case atStart => exact ⟨0, by omega, rfl, rfl, fun k hk => by omega⟩
 case round =>
  obtain ⟨i, hi, rfl, rfl, hall⟩ := hrel
  have HA := hide hall
  clear hall
  have hE := E_lt i
  by_cases hlt : i < 255
  ·have hlt' : (i : Int) < 255 := by omega
   by_cases hEa : E i = a
   ·have hEa' : (((E i : Nat) : Int) == (a : Int)) = true := by rw [beq_iff_eq, hEa]
    go_wp2
    go_ret
    rw [lg_at hEa hlt]
    exact ⟨rfl, rfl⟩
   have hEa' : (((E i : Nat) : Int) == (a : Int)) = false := by rw [beq_eq_false_iff_ne]; omega
   go_wp2_with fail
   refine (rmul_any (E i) 2 hE (by omega) _).mono ?_
   rintro e w' ⟨rfl, rfl⟩
   rw [gmul_two_E]
   go_wp2
   go_round
   case rel => exact ⟨i + 1, by omega, by go_num, rfl, fun k hk => by
    by_cases e : k = i
    ·rw [e]; exact hEa
    exact uh HA k (by omega)⟩
   case measure => simp [intOf]; omega
  have e : i = 255 := by omega
  subst e
  go_wp2
  go_ret
  rw [lg_none ha (uh HA)]
  exact ⟨rfl, rfl⟩
theorem pw_inv {a : Nat} (h0 : 0 < a) : X (255 - lg a) = pw a (-1) := by
 unfold pw lg
 rw [if_neg (by omega), if_neg (by omega), if_neg (by omega)]
 exact X_congr (by omega)
theorem lg_bounds {a : Nat} (ha : a < 256) : -1 ≤ lg a ∧ lg a < 255 := by
 unfold lg
 split
 ·omega
 have := (E_L (a := a) (by omega) ha).2
 omega
set_option maxRecDepth 100000 in
set_option maxHeartbeats 2000000 in
theorem rinv_any (a : Nat) (ha : a < 256) (w : World) : Calls Tryz.prog 73 #[.int .u8 a] w fun e w' => e = .returned (.int .u8 (pw a (-1) : Nat)) ∧ w' = w := by
 by_cases h0 : a = 0
 ·subst h0
  rw [pw_zero (by omega)]
  go_enter Tryz.func73, Tryz.ntmps73
  go_wp2
  go_ret
  exact ⟨rfl, rfl⟩
 have h0' : ((a : Int) == 0) = false := by rw [beq_eq_false_iff_ne]; omega
 obtain ⟨hl0, hl1⟩ := lg_bounds ha
 go_enter Tryz.func73, Tryz.ntmps73
 go_wp2_with fail
 refine (rlog_any a ha w).mono ?_
 rintro e w' ⟨rfl, rfl⟩
 go_wp2_with fail
 refine (rexp_any (255 - lg a) _).mono ?_
 rintro e w' ⟨rfl, rfl⟩
 rw [pw_inv (by omega)]
 go_wp2
 go_ret
 exact ⟨rfl, rfl⟩
def BBlk (w : World) (g N : Nat) (p : Nat → Bool) : Prop := ∃ cur, w.heap[g]? = some (.cells cur 4 (0, 0)) ∧ ∀ j, j < N → cur[j]? = some (.bool (p j))
theorem BBlk.lt {w : World} {g N : Nat} {p : Nat → Bool} (h : BBlk w g N p) : g < w.heap.size := by
 obtain ⟨cur, h, _⟩ := h
 exact lt_of_block h
theorem BBlk.cell {w : World} {g N : Nat} {p : Nat → Bool} (h : BBlk w g N p) {j : Nat} (hj : j < N) : w.cell? ⟨g, j, none⟩ = some (.bool (p j)) := by
 obtain ⟨cur, h, hc⟩ := h
 simp [World.cell?, h, hc j hj]
theorem BBlk.free {w : World} {g N : Nat} {p : Nat → Bool} (h : BBlk w g N p) {j : Nat} : w.frozen? ⟨g, j, none⟩ = false := by
 obtain ⟨cur, h, hc⟩ := h
 simp [World.frozen?, h]
theorem BBlk.of {w w' : World} {g N : Nat} {p : Nat → Bool} (h : BBlk w g N p) (e : w'.heap[g]? = w.heap[g]?) : BBlk w' g N p := by
 obtain ⟨cur, h, hc⟩ := h
 exact ⟨cur, e.trans h, hc⟩
theorem BBlk.congr {w : World} {g N : Nat} {p q : Nat → Bool} (h : BBlk w g N p) (e : ∀ i, i < N → p i = q i) : BBlk w g N q := by
 obtain ⟨cur, h, hc⟩ := h
 exact ⟨cur, h, fun j hj => by rw [← e j hj]; exact hc j hj⟩
theorem BBlk.set {w : World} {g N : Nat} {p : Nat → Bool} (h : BBlk w g N p) (j : Nat) (b : Bool) (hj : j < N) : BBlk (w.setCell ⟨g, j, none⟩ (.bool b)) g N (fun i => if i = j then b else p i) := by
 obtain ⟨cur, h, hc⟩ := h
 refine ⟨cur.setIfInBounds j (.bool b), heap_setCell_same w g j _ _ _ h, fun i hi => ?_⟩
 have hj2 : j < cur.size := (Array.getElem?_eq_some_iff.1 (hc j hj)).1
 rw [Array.getElem?_setIfInBounds]
 by_cases e : j = i
 ·subst e; dsimp only; rw [if_pos rfl, if_pos hj2, if_pos rfl]
 dsimp only; rw [if_neg e, if_neg (fun k => e k.symm)]; exact hc i hi
theorem infoO : (Tryz.prog.info? 4).map (fun i => (i.zero, i.size, i.bytes)) = some (some (.bool false), 1, 1) := by kernel_rfl
theorem made_nots (m : Nat) : madeCells (Value.cells (.bool false)) (m * 1) = (List.replicate m (Value.bool false)).toArray := by
 apply Array.ext'
 apply List.ext_getElem?
 intro j
 by_cases hj : j < m
 ·simp [madeCells, Value.cells, hj, Nat.mod_one]
 simp [madeCells, Value.cells, hj]
theorem run_nots (m : Nat) (hm : m ≤ 1000000) (w : World) : (Instr.makeSlice 123 (.int .i64 (m : Int)) (.int .i64 (m : Int))).run Tryz.prog w = .ok (.slice (some ⟨w.heap.size, 0, none⟩) m m) (w.alloc (.cells (List.replicate m (Value.bool false)).toArray 4)) := by
 obtain ⟨i0, hi0, hz0, hz1, hz2⟩ := info_parts infoO
 have h := run_make (P := Tryz.prog) w 123 4 i0 (.bool false) Tryz.underlying123 hi0 hz0 .i64 .i64 m m (by omega) (by omega) (by rw [hz2]; omega) (by omega)
 rw [hz1, Int.toNat_natCast, made_nots] at h
 exact h
theorem bblk_nots (m : Nat) (w : World) : BBlk (w.alloc (.cells (List.replicate m (Value.bool false)).toArray 4)) w.heap.size m (fun _ => false) := by
 refine ⟨_, World.alloc_heap_new w _, fun j hj => ?_⟩
 simp [hj]
structure OutS (W : World) (base gO N n : Nat) (G C : Nat → Nat) (out : List (List Nat)) : Prop where
 len : out.length = N
 cur : ∃ cur, W.heap[gO]? = some (.cells cur 47 (0, 0)) ∧ ∀ i, i < N → cur[i]? = some (.slice (some ⟨G i, 0, none⟩) n (C i))
 rows : ∀ i, i < N → Blk W (G i) (out.getD i [])
 rl : ∀ i, i < N → (out.getD i []).length = n
 cap : ∀ i, i < N → n ≤ C i ∧ C i ≤ maxLen
 lo : ∀ i, i < N → base ≤ G i
 inj : ∀ i j, i < j → j < N → G i < G j
 bs : ∀ i, Bs (out.getD i [])
 ob : base ≤ gO
theorem OutS.ne {W : World} {base gO N n : Nat} {G C : Nat → Nat} {out : List (List Nat)} (h : OutS W base gO N n G C out) {i j : Nat} (hi : i < N) (hj : j < N) (e : i ≠ j) : G i ≠ G j := by
 by_cases h1 : i < j
 ·have := h.inj i j h1 hj; omega
 have := h.inj j i (by omega) hi; omega
theorem OutS.gne {W : World} {base gO N n : Nat} {G C : Nat → Nat} {out : List (List Nat)} (h : OutS W base gO N n G C out) {i : Nat} (hi : i < N) : gO ≠ G i := by
 intro e
 obtain ⟨cur, h1, _⟩ := h.cur
 obtain ⟨c2, h2, _⟩ := h.rows i hi
 rw [← e, h1] at h2
 injection h2 with h3
 injection h3 with h4 h5
 exact absurd h5 (by decide)
theorem OutS.bne {W : World} {base gO N n : Nat} {G C : Nat → Nat} {out : List (List Nat)} (h : OutS W base gO N n G C out) {i g M : Nat} {p : Nat → Bool} (hb : BBlk W g M p) (hi : i < N) : g ≠ G i := by
 intro e
 obtain ⟨cur, h1, _⟩ := hb
 obtain ⟨c2, h2, _⟩ := h.rows i hi
 rw [← e, h1] at h2
 injection h2 with h3
 injection h3 with h4 h5
 exact absurd h5 (by decide)
theorem OutS.head {W : World} {base gO N n : Nat} {G C : Nat → Nat} {out : List (List Nat)} (h : OutS W base gO N n G C out) {i : Nat} (hi : i < N) : W.cell? ⟨gO, i, none⟩ = some (.slice (some ⟨G i, 0, none⟩) n (C i)) := by
 obtain ⟨cur, h1, h2⟩ := h.cur
 simp [World.cell?, h1, h2 i hi]
theorem OutS.byte {W : World} {base gO N n : Nat} {G C : Nat → Nat} {out : List (List Nat)} (h : OutS W base gO N n G C out) {i k : Nat} (hi : i < N) (hk : k < n) : W.cell? ⟨G i, k, none⟩ = some (.int .u8 ((rc out i k : Nat) : Int)) := (h.rows i hi).cell (by rw [h.rl i hi]; exact hk)
theorem OutS.of {W W' : World} {base gO N n : Nat} {G C : Nat → Nat} {out : List (List Nat)} (h : OutS W base gO N n G C out) (e : W'.heap[gO]? = W.heap[gO]?) (e2 : ∀ i, i < N → W'.heap[G i]? = W.heap[G i]?) : OutS W' base gO N n G C out := by
 obtain ⟨cur, h1, h2⟩ := h.cur
 exact ⟨h.len, ⟨cur, e.trans h1, h2⟩, fun i hi => (h.rows i hi).of (e2 i hi), h.rl, h.cap, h.lo, h.inj, h.bs, h.ob⟩
theorem OutS.lt {W : World} {base gO N n : Nat} {G C : Nat → Nat} {out : List (List Nat)} (h : OutS W base gO N n G C out) : gO < W.heap.size := by
 obtain ⟨cur, h1, _⟩ := h.cur
 exact lt_of_block h1
theorem OutS.below {W W' : World} {base gO N n : Nat} {G C : Nat → Nat} {out : List (List Nat)} (h : OutS W base gO N n G C out) (k : Below W.heap.size W W') : OutS W' base gO N n G C out :=
 h.of (k.block gO h.lt) (fun i hi => k.block _ (h.rows i hi).lt)
theorem OutS.set {W : World} {base gO N n : Nat} {G C : Nat → Nat} {out : List (List Nat)} (h : OutS W base gO N n G C out) {x k v : Nat} (hx : x < N) (hk : k < n) (hv : v < 256) :
  OutS (W.setCell ⟨G x, k, none⟩ (.int .u8 (v : Int))) base gO N n G C (out.set x ((out.getD x []).set k v)) := by
 have hxl : x < out.length := by rw [h.len]; exact hx
 have hkp : Kp [G x] W (W.setCell ⟨G x, k, none⟩ (.int .u8 (v : Int))) := (Kp.refl _ W).setCell _ _ (.inl (by simp))
 obtain ⟨cur, h1, h2⟩ := h.cur
 refine ⟨by rw [List.length_set]; exact h.len, ⟨cur, hkp.heap h1 (by simpa using h.gne hx), h2⟩, fun i hi => ?_, fun i hi => ?_, h.cap, h.lo, h.inj, fun i => ?_, h.ob⟩
 ·rw [getD_set hxl]
  by_cases e : x = i
  ·subst e
   rw [if_pos rfl]
   exact (h.rows x hx).set k v (by rw [h.rl x hx]; exact hk)
  rw [if_neg e]
  exact (h.rows i hi).of (hkp.block _ (h.rows i hi).lt (by simpa using fun e2 => h.ne hi hx (fun e3 => e e3.symm) e2))
 ·rw [getD_set hxl]
  split
  ·rw [List.length_set]; exact h.rl x hx
  exact h.rl i hi
 rw [getD_set hxl]
 split
 ·intro j
  rw [cf_set _ _ _ _ (by rw [h.rl x hx]; exact hk)]
  split
  ·exact hv
  exact h.bs x j
 exact h.bs i
theorem OutS.rows_arg {W : World} {base gO N n : Nat} {G C : Nat → Nat} {out : List (List Nat)} (h : OutS W base gO N n G C out) {i : Nat} (hi : i < N) : Arg W (.slice (some ⟨G i, 0, none⟩) (out.getD i []).length (C i)) (G i) (out.getD i []) :=
 (h.rows i hi).arg (h.bs i) (by rw [h.rl i hi]; exact (h.cap i hi).1) (h.cap i hi).2
theorem OutS.front {W : World} {base gO N n c d : Nat} {G C : Nat → Nat} {out : List (List Nat)} (h : OutS W base gO N n G C out) (hd : d ≤ N) (h1 : N ≤ c) (h2 : c ≤ maxLen) : RArg W (.slice (some ⟨gO, 0, none⟩) d c) gO (fun i => some ⟨G i, 0, none⟩) C (out.take d) := by
 have hl : (out.take d).length = d := by rw [List.length_take, h.len]; omega
 refine ⟨⟨some ⟨gO, 0, none⟩, c, by rw [hl], by rw [hl]; omega, h2, (fun h => by cases h), .inr ⟨0, rfl, fun j hj => ?_⟩⟩, fun i hi => ?_⟩
 ·rw [hl] at hj
  rw [Nat.zero_add, h.head (by omega)]
  show _ = some (Value.slice _ ((out.take d).getD j []).length _)
  rw [getD_take hj, h.rl j (by omega)]
 rw [hl] at hi
 rw [getD_take hi]
 exact ⟨G i, h.rows_arg (by omega)⟩
theorem OutS.tn {W : World} {base gO N n : Nat} {G C : Nat → Nat} {out : List (List Nat)} (h : OutS W base gO N n G C out) : Tn W gO N ((List.range N).map (fun i => (some (⟨G i, 0, none⟩ : Addr), C i))) out := by
 have hp : ∀ j, j < N → psA ((List.range N).map (fun i => (some (⟨G i, 0, none⟩ : Addr), C i))) j = some ⟨G j, 0, none⟩ ∧ psC ((List.range N).map (fun i => (some (⟨G i, 0, none⟩ : Addr), C i))) j = C j := fun j hj => by
  unfold psA psC
  rw [List.getD_eq_getElem?_getD, List.getElem?_map, List.getElem?_range hj]
  exact ⟨rfl, rfl⟩
 obtain ⟨cur, h1, h2⟩ := h.cur
 refine ⟨⟨cur, h1, fun j hj => ?_⟩, by simp, h.len, fun j hj => ?_⟩
 ·rw [(hp j hj).1, (hp j hj).2, h.rl j hj]; exact h2 j hj
 rw [(hp j hj).1, (hp j hj).2]
 exact ⟨G j, h.rows_arg hj, fun _ e => h.gne hj e.symm⟩
def sP (out : List (List Nat)) (p : Nat → Bool) (d c : Nat) : Nat := xsum (fun i => if p i = true then 0 else rc out i c) (List.range d)
def sQ (out : List (List Nat)) (p : Nat → Bool) (d c : Nat) : Nat := xsum (fun i => if p i = true then 0 else gmul (E i) (rc out i c)) (List.range d)
theorem sP_succ (out : List (List Nat)) (p : Nat → Bool) (d c : Nat) : sP out p (d + 1) c = sP out p d c ^^^ (if p d = true then 0 else rc out d c) := by
 unfold sP; rw [List.range_succ, xsum_append]; simp
theorem sQ_succ (out : List (List Nat)) (p : Nat → Bool) (d c : Nat) : sQ out p (d + 1) c = sQ out p d c ^^^ (if p d = true then 0 else gmul (E d) (rc out d c)) := by
 unfold sQ; rw [List.range_succ, xsum_append]; simp
theorem sP_lt {out : List (List Nat)} {p : Nat → Bool} {d c : Nat} (h : ∀ i, Bs (out.getD i [])) : sP out p d c < 256 := xsum_lt (fun i _ => by split; omega; exact h i c)
theorem sQ_lt {out : List (List Nat)} {p : Nat → Bool} {d c : Nat} : sQ out p d c < 256 := xsum_lt (fun i _ => by split; omega; exact gmul_lt (E_lt i))
set_option maxRecDepth 100000 in
set_option maxHeartbeats 8000000 in
theorem rsums_any {w : World} {base gO N n gg cO cG k : Nat} {G C : Nat → Nat} {out : List (List Nat)} {p : Nat → Bool} (hO : OutS w base gO N n G C out) (hB : BBlk w gg N p) (hN2 : 2 ≤ N) (hN16 : N ≤ 16) (hk : k < n) :
  Calls Tryz.prog 72 #[.slice (some ⟨gO, 0, none⟩) N cO, .slice (some ⟨gg, 0, none⟩) N cG, .int .i64 (k : Int)] w fun e w' => e = .returned (.tuple #[.int .u8 ((sP out p (N - 2) k : Nat) : Int), .int .u8 ((sQ out p (N - 2) k : Nat) : Int)]) ∧ Below w.heap.size w w' := by
 have HO := hide hO
 have HB := hide hB
 have HBS : Hid (∀ i, Bs (out.getD i [])) := hO.bs
 clear hO hB
 obtain ⟨d, hd⟩ : ∃ d, N - 2 = d := ⟨_, rfl⟩
 have hd1 : (N : Int) - 2 = (d : Int) := by omega
 have hd2 : d + 2 = N := by omega
 rw [hd]
 clear hd
 have hk1 : (k : Int) < (n : Int) := by omega
 go_enter Tryz.func72, Tryz.ntmps72
 go_wp2_with fail
 go_loopw [9, 10, 11] (fun a b q wr => ∃ i : Nat, a = .int .u8 ((sP out p i k : Nat) : Int) ∧ b = .int .u8 ((sQ out p i k : Nat) : Int) ∧ q = .int .i64 i ∧ i ≤ d ∧ Kp [] w wr) (fun _ _ q _ => d - (intOf q).toNat)
 case atStart => exact ⟨0, rfl, rfl, rfl, by omega, Kp.refl _ _⟩
 case round =>
  obtain ⟨i, rfl, rfl, rfl, hi, hK⟩ := hrel
  have HK := hide hK
  clear hK
  obtain ⟨s, hs⟩ : ∃ s, sP out p i k = s := ⟨_, rfl⟩
  obtain ⟨t, ht⟩ : ∃ t, sQ out p i k = t := ⟨_, rfl⟩
  have hs8 : s < 256 := by rw [← hs]; exact sP_lt (uh HBS)
  have ht8 : t < 256 := by rw [← ht]; exact sQ_lt
  rw [hs, ht]
  have HS := hide hs
  have HT := hide ht
  clear hs ht
  by_cases hlt : i < d
  ·have hi1 : (i : Int) < (d : Int) := by omega
   have hi2 : (i : Int) < (N : Int) := by omega
   have hb := (uh HK).cell ((uh HB).cell (j := i) (by omega)) (by simp)
   have hh := (uh HK).cell ((uh HO).head (i := i) (by omega)) (by simp)
   have hy := (uh HK).cell ((uh HO).byte (i := i) (k := k) (by omega) hk) (by simp)
   cases hp : p i with
   | true =>
    rw [hp] at hb
    have HP := hide hp
    clear hp hh hy
    go_wp2_with fail
    go_roundw
    case rel => exact ⟨i + 1, by rw [sP_succ, uh HS, if_pos (uh HP), Nat.xor_zero], by rw [sQ_succ, uh HT, if_pos (uh HP), Nat.xor_zero], by go_num, by omega, uh HK⟩
    case measure => simp [intOf]; omega
   | false =>
    rw [hp] at hb
    have HP := hide hp
    clear hp
    obtain ⟨x, hx⟩ : ∃ x, rc out i k = x := ⟨_, rfl⟩
    have hx8 : x < 256 := by rw [← hx]; exact uh HBS i k
    rw [hx] at hy
    have HX := hide hx
    have hxor1 := bits_xor_u8 hs8 hx8
    have hxor2 := bits_xor_u8 ht8 (gmul_lt (a := X (i : Int)) (b := x) (X_lt _))
    have HH1 := hide hh
    have HH2 := hide hy
    clear hx
    go_wp2_with fail
    clear hb hh hy
    refine wp_region_noPanic ?_
    refine wp_region_held_drew (S := fun W => Kp [] wr W) (by kernel_rfl) ((Kp.refl _ _).drew) (fun hHeld => ?_)
    have HH := hide hHeld
    clear hHeld
    refine tkL 0 (uh HH) ?_
    (try simp only [layB])
    refine tkL 1 (uh HH) ?_
    (try simp only [layB])
    refine tkL 3 (uh HH) ?_
    (try simp only [layB])
    refine tkL 4 (uh HH) ?_
    (try simp only [layB])
    refine tkL 5 (uh HH) ?_
    (try simp only [layB])
    refine tkW 6 (v := ?_) ?_ (uh HH) ?_
    rotate_left 1
    ·intro W1 hSW; have hc := hSW.cell (uh HH1) (by simp); clear hSW; go_simp; all_goals (with_reducible rfl)
    (try simp only [layB])
    refine tkL 7 (uh HH) ?_
    (try simp only [layB])
    refine tkL 8 (uh HH) ?_
    (try simp only [layB])
    refine tkW 9 (v := ?_) ?_ (uh HH) ?_
    rotate_left 1
    ·intro W1 hSW; have hc := hSW.cell (uh HH2) (by simp); clear hSW; go_simp; all_goals (with_reducible rfl)
    (try simp only [layB])
    refine wpAnyH_ready (rs := [2]) (by kernel_rfl) (by simp) ?_
    refine consL rfl (fun K hK => ?_) AllReadyH.nil
    go_simp
    refine (rexp_any (i : Int) _).mono ?_
    rintro e w4 ⟨rfl, hw4⟩
    subst hw4
    go_wp2_with fail
    refine hK.out _ _ (uh HH) (fun hHeld => ?_)
    clear hK K HH
    have HH := hide hHeld
    clear hHeld
    (try simp only [layB])
    refine wpAnyH_ready (rs := [10]) (by kernel_rfl) (by simp) ?_
    refine consL rfl (fun K hK => ?_) AllReadyH.nil
    go_simp
    refine (rmul_any (X (i : Int)) x (X_lt _) hx8 _).mono ?_
    rintro e w5 ⟨rfl, hw5⟩
    subst hw5
    go_wp2_with fail
    refine hK.out _ _ (uh HH) (fun hHeld => ?_)
    clear hK K HH
    have HH := hide hHeld
    clear hHeld
    (try simp only [layB])
    refine tkL 11 (uh HH) ?_
    (try simp only [layB])
    refine tkL 12 (uh HH) ?_
    (try simp only [layB])
    refine wpAnyH_done (by kernel_rfl) ?_ _
    refine NoPanic.normal ?_
    go_wp2_with fail
    go_roundw
    case rel => exact ⟨i + 1, by rw [sP_succ, uh HS, if_neg (by rw [uh HP]; simp), uh HX], by rw [sQ_succ, uh HT, if_neg (by rw [uh HP]; simp), uh HX, X_nat], by go_num, by omega, (uh HK).drew⟩
    case measure => simp [intOf]; omega
  have e : i = d := by omega
  subst e
  have H := hide (below_kp (Below.refl w.heap.size w) (uh HK) (by simp) (Nat.le_refl _))
  go_wp2_with fail
  go_returns
  rw [uh HS, uh HT]
  exact ⟨rfl, uh H⟩
end Go.Proofs.YtjdikhelabibnaaGreat
