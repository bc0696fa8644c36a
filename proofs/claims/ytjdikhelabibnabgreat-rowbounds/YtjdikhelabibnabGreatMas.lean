/-
  ramekinref5's even, Parity, Check.
  The laws' Rows, and where they lie; rows of which one is put in another's place.
-/
import Derived.Test.YtjdikhelabibnabGreatMao
import Derived.Test.YtjdikhelabibnabGreatMar
namespace Go.Proofs.YtjdikhelabibnabGreat
open Go.RowKit

set_option maxRecDepth 100000 in
set_option maxHeartbeats 4000000 in
theorem even_any (v : Value) (G : Nat) (A : Nat → Option Addr) (C : Nat → Nat) (l : List (List Nat)) (low high : Nat) (h1 : 2 ≤ low) (h2 : high ≤ 100) (w : World) (hA : RArg w v G A C l) :
    Calls Tryz.prog 32 #[v, .int .i64 (low : Int), .int .i64 (high : Int)] w fun e w' => e = .returned (.bool (decide (low ≤ l.length) && decide (l.length ≤ high) && evnB l)) ∧ Below w.heap.size w w' := by
  obtain ⟨ao, c, hv, hc1, hc2, hnil, hrow⟩ := hA.ex
  have HROW := hide hrow
  clear hrow hA hnil
  subst hv
  obtain ⟨N, hN⟩ : ∃ N, l.length = N := ⟨_, rfl⟩
  rw [hN] at hc1 HROW ⊢
  have HN := hide hN
  clear hN
  have hNm : (N : Int) ≤ 9223372036854775807 := by unfold maxLen at hc2; omega
  by_cases hlo : N < low
  · have e1 : (N : Int) < (low : Int) := by omega
    have HD : Hid (decide (low ≤ N) = false) := by show _ = _; simp; omega
    go_enter Tryz.func32, Tryz.ntmps32
    go_wp2_with fail
    go_ret
    rw [unhide HD]
    exact ⟨by simp, Below.refl _ _⟩
  by_cases hhi : high < N
  · have e1 : (low : Int) ≤ (N : Int) := by omega
    have e2 : (high : Int) < (N : Int) := by omega
    have HD : Hid (decide (N ≤ high) = false) := by show _ = _; simp; omega
    go_enter Tryz.func32, Tryz.ntmps32
    go_wp2_with fail
    go_ret
    rw [unhide HD]
    exact ⟨by simp, Below.refl _ _⟩
  have e1 : (low : Int) ≤ (N : Int) := by omega
  have e2 : (N : Int) ≤ (high : Int) := by omega
  have HD : Hid ((decide (low ≤ N) && decide (N ≤ high)) = true) := by show _ = _; simp; omega
  go_enter Tryz.func32, Tryz.ntmps32
  go_wp2_with fail
  go_loopw [7] (fun p wr => ∃ i : Nat, p = .int .i64 i ∧ 1 ≤ i ∧ i ≤ N ∧ (∀ k, k < i → (l.getD k []).length = size l) ∧ Below w.heap.size w wr) (fun p _ => N - (intOf p).toNat)
  case atStart => exact ⟨1, rfl, by omega, by omega, fun k hk => by rw [show k = 0 from by omega]; rfl, Below.refl _ _⟩
  case round =>
    obtain ⟨i, rfl, hi0, hi, hz, hK⟩ := hrel
    have HZ := hide hz
    have HK := hide hK
    clear hz hK
    by_cases hlt : i < N
    · have hi1 : (i : Int) < (N : Int) := by omega
      have hN0 : (0 : Int) < (N : Int) := by omega
      obtain ⟨o, rfl, hcl⟩ := ((unhide HROW).below (unhide HK)).at (by omega)
      have hc := hcl i hlt
      have hc0 := hcl 0 (by omega)
      rw [Nat.add_zero] at hc0
      obtain ⟨m, hm⟩ : ∃ m, (l.getD i []).length = m := ⟨_, rfl⟩
      obtain ⟨s, hs⟩ : ∃ s, (l.getD 0 []).length = s := ⟨_, rfl⟩
      rw [hm] at hc
      rw [hs] at hc0
      have HM := hide hm
      have HS := hide hs
      clear hcl hm hs
      by_cases he : m = s
      · have e3 : ((m : Int) != (s : Int)) = false := by rw [he]; simp
        have HE := hide he
        clear he
        go_wp2_with fail
        go_quiet (fail)
        go_wp2_with fail
        go_roundw
        case rel => exact ⟨i + 1, by go_num, by omega, by omega, fun k hk => by
          by_cases e : k = i
          · rw [e, unhide HM, unhide HE]; exact (unhide HS).symm
          · exact unhide HZ k (by omega), below_drewN5 (unhide HK) _⟩
        case measure => simp [intOf]; omega
      · have e3 : ((m : Int) != (s : Int)) = true := by rw [bne_iff_ne]; omega
        have HEV : Hid (evnB l = false) := not_evn (i := i) (j := 0) (by rw [unhide HN]; exact hlt) (by rw [unhide HN]; omega) (by rw [unhide HM, unhide HS]; exact he)
        clear he
        go_wp2_with fail
        go_quiet (fail)
        go_wp2_with fail
        go_ret
        rw [unhide HEV]
        exact ⟨by simp, below_drewN5 (unhide HK) _⟩
    · have hi2 : i = N := by omega
      subst hi2
      have HEV : Hid (evnB l = true) := (evn_iff l).2 (fun k hk => unhide HZ k (by rw [← unhide HN]; exact hk))
      go_wp2_with fail
      go_ret
      rw [unhide HD, unhide HEV]
      exact ⟨rfl, unhide HK⟩

theorem rarg_byte {w : World} {G N c o : Nat} {A : Nat → Option Addr} {C : Nat → Nat} {l : List (List Nat)} {s i : Nat} (h : RArg w (.slice (some ⟨G, o, none⟩) N c) G A C l) (hl : l.length = N) (hi : i < N) (hs : (l.getD i []).length = s) (h0 : 0 < s) :
    ∃ gx ox cx, w.cell? ⟨G, o + i, none⟩ = some (.slice (some ⟨gx, ox, none⟩) s cx) ∧ ∀ k, k < s → w.cell? ⟨gx, ox + k, none⟩ = some (.int .u8 ((rc l i k : Nat) : Int)) := by
  obtain ⟨gx, hA⟩ := h.rows i (by omega)
  obtain ⟨ao, c', h1, _, _, _, h5⟩ := h.ex
  cases h1
  obtain ⟨o', ho, hc⟩ := h5.at (by omega)
  cases ho
  obtain ⟨ox, hao, hb⟩ := hA.cells (fun e => by rw [e] at hs; simp at hs; omega)
  have hc := hc i (by omega)
  rw [hao, hs] at hc
  exact ⟨gx, ox, _, hc, fun k hk => hb k (by rw [hs]; exact hk)⟩
theorem rarg_head {w : World} {G N c o : Nat} {A : Nat → Option Addr} {C : Nat → Nat} {l : List (List Nat)} {i : Nat} (h : RArg w (.slice (some ⟨G, o, none⟩) N c) G A C l) (hl : l.length = N) (hi : i < N) : w.cell? ⟨G, o + i, none⟩ = some (.slice (A i) (l.getD i []).length (C i)) := by
  obtain ⟨ao, c', h1, _, _, _, h5⟩ := h.ex
  cases h1
  obtain ⟨o', ho, hc⟩ := h5.at (by omega)
  cases ho
  exact hc i (by omega)

theorem two_new (w : World) (o0 o1 : Obj) : (((w.alloc o0).alloc o1).drew).heap[w.heap.size]? = some o0 ∧ (((w.alloc o0).alloc o1).drew).heap[w.heap.size + 1]? = some o1 ∧ Below w.heap.size w (((w.alloc o0).alloc o1).drew) := by
  refine ⟨?_, ?_, (((Below.refl _ w).alloc (Nat.le_refl _) _).alloc (by simp) _).drew⟩
  · exact (Below.heap_alloc _ _ _ (by simp)).trans (World.alloc_heap_new w o0)
  · have := World.alloc_heap_new (w.alloc o0) o1
    rw [World.size_alloc] at this
    exact this
theorem addK_row {l : List (List Nat)} {c : Nat → Nat} {i n : Nat} : addF (smL c l (List.range i) n) (l.getD i []) (c i) = smL c l (List.range (i + 1)) n := by
  rw [addF_smL, List.range_succ]

set_option maxRecDepth 100000 in
set_option maxHeartbeats 8000000 in
theorem rparity_any (v : Value) (G : Nat) (A : Nat → Option Addr) (C : Nat → Nat) (l : List (List Nat)) (w : World) (hA : RArg w v G A C l) (hlen : ∀ i, (l.getD i []).length ≤ 100000) :
    Calls Tryz.prog 16 #[v] w fun e w' => ∃ v1 v2, e = .returned (.tuple #[v1, v2]) ∧ Fr w.heap.size w' v1 (pP l) ∧ Fr w.heap.size w' v2 (pQ l) ∧ Below w.heap.size w w' := by
  obtain ⟨ao, c, hv, hc1, hc2, hnil, hrow⟩ := hA.ex
  have HA := hide hA
  have HLEN := hide hlen
  clear hrow hlen hA hnil
  subst hv
  obtain ⟨N, hN⟩ : ∃ N, l.length = N := ⟨_, rfl⟩
  have HEV := hide (even_any _ G A C l 2 14 (by omega) (by omega) w (unhide HA))
  rw [hN] at hc1 HA HEV ⊢
  have HN := hide hN
  clear hN
  have hNm : (N : Int) ≤ 9223372036854775807 := by unfold maxLen at hc2; omega
  have HOKe : Hid (okP l = (decide (2 ≤ N) && decide (N ≤ 14) && evnB l)) := by show _ = _; unfold okP; rw [unhide HN]
  go_enter Tryz.func16, Tryz.ntmps16
  go_wp2_with fail
  refine (unhide HEV).mono ?_
  rintro e w1 ⟨rfl, hk⟩
  rw [← unhide HOKe]
  have HB := hide hk
  replace HA := hide ((unhide HA).below hk)
  clear hk HEV
  cases hok : okP l with
  | false =>
    have HOK := hide hok
    clear hok
    go_wp2_with fail
    go_returns
    exact ⟨_, _, rfl, .inl ⟨by simp [pP, unhide HOK], rfl⟩, .inl ⟨by simp [pQ, unhide HOK], rfl⟩, unhide HB⟩
  | true =>
    have HOK := hide hok
    have hok2 := hok
    unfold okP at hok2
    rw [unhide HN, Bool.and_eq_true, Bool.and_eq_true, decide_eq_true_eq, decide_eq_true_eq] at hok2
    obtain ⟨⟨hN2, hN14⟩, hev⟩ := hok2
    have HEVN := hide ((evn_iff l).1 hev)
    clear hok hev
    obtain ⟨o, hao, _⟩ : ∃ o, ao = some ⟨G, o, none⟩ ∧ True := by
      obtain ⟨ao', c', h1, _, _, _, h5⟩ := (unhide HA).ex
      cases h1
      obtain ⟨o, ho, _⟩ := h5.at (by rw [unhide HN]; omega)
      exact ⟨o, ho, trivial⟩
    subst hao
    obtain ⟨n, hn⟩ : ∃ n, size l = n := ⟨_, rfl⟩
    have hn5 : n ≤ 100000 := by rw [← hn]; exact unhide HLEN 0
    have HSZ : Hid (∀ i, i < N → (l.getD i []).length = n) := fun i hi => by rw [unhide HEVN i (by rw [unhide HN]; exact hi)]; exact hn
    have HH0 := hide (rarg_head (unhide HA) (unhide HN) (i := 0) (by omega))
    rw [Nat.add_zero, unhide HSZ 0 (by omega)] at HH0
    have HNS := hide hn
    clear hn
    have hN0 : (0 : Int) < (N : Int) := by omega
    go_wp2_with fail
    refine wp_mono (Q := fun e a' W => e = .normal ∧ ∃ gp gq, a' = { tmps := #[.slice (some ⟨G, o, none⟩) N c, undef, .slice none 0 0, .slice none 0 0, .slice (some ⟨gp, 0, none⟩) n n, .slice (some ⟨gq, 0, none⟩) n n, undef, undef, undef, .slice (some ⟨G, o, none⟩) N c, .bool true, .bool false, .slice (some ⟨G, o, none⟩) N c, .pointer (some ⟨G, o, none⟩), .slice (A 0) n (C 0), .int .i64 (n : Int), .slice (some ⟨gp, 0, none⟩) n n, .slice (some ⟨G, o, none⟩) N c, .pointer (some ⟨G, o, none⟩), .slice (A 0) n (C 0), .int .i64 (n : Int), .slice (some ⟨gq, 0, none⟩) n n,
      undef, undef, undef, undef, undef, undef, undef, undef, undef, undef, undef, undef, undef, undef, undef, undef, undef, undef, undef, undef, undef, undef, undef, undef, undef, undef, undef, undef, undef, undef, undef, undef, undef, undef, undef, undef, undef, undef, undef, undef, undef, undef, undef, undef, undef, undef, undef, undef, undef, undef, undef], defers := [] } ∧
      Blk W gp (List.replicate n 0) ∧ Blk W gq (List.replicate n 0) ∧ gp ≠ gq ∧ w1.heap.size ≤ gp ∧ w1.heap.size ≤ gq ∧ Below w1.heap.size w1 W) ?_ ?_
    · have hmk := run_zeros n (by omega)
      have HZC := hide (zeros_cells n)
      obtain ⟨zz, hzz⟩ : ∃ z, (List.replicate n (Value.int .u8 0)).toArray = z := ⟨_, rfl⟩
      rw [hzz] at hmk HZC
      clear hzz
      have hc0 := unhide HH0
      have hc0' : (w1.alloc (.cells zz 5)).cell? ⟨G, o, none⟩ = _ := (World.cell?_of_block (Below.heap_alloc _ _ _ (block_lt_of_cell hc0))).trans hc0
      have hN0' : 0 < N := by omega
      go_region
      all_goals obtain ⟨h0, h1, hB⟩ := two_new w1 (.cells zz 5) (.cells zz 5)
      all_goals refine ⟨rfl, _, _, rfl, ⟨zz, by first | exact h0 | exact h1, unhide HZC⟩, ⟨zz, by first | exact h1 | exact h0, unhide HZC⟩, by omega, by omega, by omega, hB⟩
    · rintro e a' W ⟨rfl, gp, gq, rfl, hP, hQ, hpq, hgp, hgq, hk⟩
      have HP := hide hP
      have HQ := hide hQ
      have HBW := hide hk
      have hzW := hk.size
      clear hP hQ hk
      have HBL : Hid (∀ i, Bs (l.getD i [])) := (unhide HA).bs
      go_wp2_with fail
      go_loopw [6] (fun p wr => ∃ i : Nat, p = .int .i64 i ∧ i ≤ N ∧ Blk wr gp (smL (fun _ => 1) l (List.range i) n) ∧ Blk wr gq (smL E l (List.range i) n) ∧ Kp [gp, gq] W wr) (fun p _ => N - (intOf p).toNat)
      case atStart => exact ⟨0, rfl, by omega, by rw [List.range_zero, smL_nil]; exact unhide HP, by rw [List.range_zero, smL_nil]; exact unhide HQ, Kp.refl _ _⟩
      case round =>
        obtain ⟨i, rfl, hi, hP, hQ, hK⟩ := hrel
        have HPi := hide hP
        have HQi := hide hQ
        have HKi := hide hK
        clear hP hQ hK
        by_cases hlt : i < N
        · have hi1 : (i : Int) < (N : Int) := by omega
          go_wp2_with fail
          refine (rexp_any (i : Int) wr).mono ?_
          rintro e w3 ⟨rfl, hw3⟩
          subst hw3
          go_wp2_with fail
          go_loopw [8] (fun p wx => ∃ k : Nat, p = .int .i64 k ∧ k ≤ n ∧ Blk wx gp (addK (smL (fun _ => 1) l (List.range i) n) (l.getD i []) 1 k) ∧ Blk wx gq (addK (smL E l (List.range i) n) (l.getD i []) (E i) k) ∧ Kp [gp, gq] W wx) (fun p _ => n - (intOf p).toNat)
          case atStart => exact ⟨0, rfl, by omega, by rw [addK_zero]; exact unhide HPi, by rw [addK_zero]; exact unhide HQi, unhide HKi⟩
          case round =>
            obtain ⟨k, rfl, hk, hP, hQ, hK⟩ := hrel
            have HBW1 := hide hP
            have HBq := hide hQ
            have HKr := hide hK
            have hB1 : Below w1.heap.size w1 wr := below_kp (unhide HBW) hK (by simp; omega) hzW
            have hzr := hB1.size
            clear hP hQ hK
            have hh := (hB1.cell (p := ⟨G, o + i, none⟩) (block_lt_of_cell (rarg_head (unhide HA) (unhide HN) hlt))).trans (rarg_head (unhide HA) (unhide HN) hlt)
            rw [unhide HSZ i hlt] at hh
            by_cases hkl : k < n
            · have hk1 : (k : Int) < (n : Int) := by omega
              obtain ⟨gx, ox, cx, hx1, hx2⟩ := rarg_byte (unhide HA) (unhide HN) hlt (unhide HSZ i hlt) (by omega)
              have hlx1 := block_lt_of_cell hx1
              have hlx2 := block_lt_of_cell (hx2 k hkl)
              dsimp only at hlx1 hlx2
              have hx1' := (hB1.cell (p := ⟨G, o + i, none⟩) hlx1).trans hx1
              have HX1 := hide hx1'
              have HX2 := hide ((hB1.cell (p := ⟨gx, ox + k, none⟩) hlx2).trans (hx2 k hkl))
              have hx8 : rc l i k < 256 := unhide HBL i k
              have hxe : cf (l.getD i []) k = rc l i k := rfl
              obtain ⟨x, hx⟩ : ∃ x, rc l i k = x := ⟨_, rfl⟩
              rw [hx] at HX2 hx8 hxe
              have HXE := hide hxe
              obtain ⟨y1, hy1⟩ : ∃ y, cf (smL (fun _ => 1) l (List.range i) n) k = y := ⟨_, rfl⟩
              have h1 : y1 < 256 := by rw [← hy1]; exact smL_bs (unhide HBL) k
              have Hy1 := hide hy1
              obtain ⟨y2, hy2⟩ : ∃ y, cf (smL E l (List.range i) n) k = y := ⟨_, rfl⟩
              have h2 : y2 < 256 := by rw [← hy2]; exact smL_bs (unhide HBL) k
              have Hy2 := hide hy2
              have HST1 : Hid ((addK (smL (fun _ => 1) l (List.range i) n) (l.getD i []) 1 k).set k (y1 ^^^ x) = addK (smL (fun _ => 1) l (List.range i) n) (l.getD i []) 1 (k + 1)) := by
                show _ = _
                rw [← addK_step (by rw [smL_len]; exact hkl), hy1, hxe, gmul_one hx8]
              have HST2 : Hid ((addK (smL E l (List.range i) n) (l.getD i []) (E i) k).set k (y2 ^^^ gmul (X (i : Int)) x) = addK (smL E l (List.range i) n) (l.getD i []) (E i) (k + 1)) := by
                show _ = _
                rw [← addK_step (by rw [smL_len]; exact hkl), hy2, hxe, gmul_comm hx8 (E_lt i), X_nat]
              have hxor1 := bits_xor_u8 h1 hx8
              have hxor2 := bits_xor_u8 h2 (gmul_lt (a := X (i : Int)) (b := x) (X_lt _))
              have hgx : G < w1.heap.size ∧ gx < w1.heap.size := ⟨hlx1, hlx2⟩
              clear hh hx hy1 hy2 hxe hx1 hx2
              go_wp2_with fail
              clear hx1'
              refine wp_region_noPanic ?_
              refine wp_region_held_drew (S := fun W => Kp [gp] wr W) (by kernel_rfl) ((Kp.refl _ _).drew) (fun hHeld => ?_)
              have HH := hide hHeld
              clear hHeld
              refine takeL (i := 0) (v := ?_) rfl (by kernel_rfl) (by kernel_rfl) (by kernel_rfl) (fun _ _ _ h => h) (Or.inl ⟨by rfl, ?_⟩) (unhide HH) ?_
              rotate_left 1
              · intro W hSW; go_simp; all_goals (with_reducible rfl)
              (try simp only [Act.put, List.setIfInBounds_toArray, List.set_cons_zero, List.set_cons_succ])
              refine takeL (i := 1) (v := ?_) rfl (by kernel_rfl) (by kernel_rfl) (by kernel_rfl) (fun _ _ _ h => h) (Or.inl ⟨by rfl, ?_⟩) (unhide HH) ?_
              rotate_left 1
              · intro W hSW; go_simp; all_goals (with_reducible rfl)
              (try simp only [Act.put, List.setIfInBounds_toArray, List.set_cons_zero, List.set_cons_succ])
              refine takeL (i := 2) (v := ?_) rfl (by kernel_rfl) (by kernel_rfl) (by kernel_rfl) (fun _ _ _ h => h) (Or.inl ⟨by rfl, ?_⟩) (unhide HH) ?_
              rotate_left 1
              · intro W hSW; go_simp; all_goals (with_reducible rfl)
              (try simp only [Act.put, List.setIfInBounds_toArray, List.set_cons_zero, List.set_cons_succ])
              refine takeL (i := 3) (v := ?_) rfl (by kernel_rfl) (by kernel_rfl) (by kernel_rfl) (fun _ _ _ h => h) (Or.inl ⟨by rfl, ?_⟩) (unhide HH) ?_
              rotate_left 1
              · intro W hSW; go_simp; all_goals (with_reducible rfl)
              (try simp only [Act.put, List.setIfInBounds_toArray, List.set_cons_zero, List.set_cons_succ])
              refine takeL (i := 4) (v := ?_) rfl (by kernel_rfl) (by kernel_rfl) (by kernel_rfl) (fun _ _ _ h => h) (Or.inl ⟨by rfl, ?_⟩) (unhide HH) ?_
              rotate_left 1
              · intro W hSW; go_simp; all_goals (with_reducible rfl)
              (try simp only [Act.put, List.setIfInBounds_toArray, List.set_cons_zero, List.set_cons_succ])
              refine takeL (i := 6) (v := ?_) rfl (by kernel_rfl) (by kernel_rfl) (by kernel_rfl) (fun _ _ _ h => h) (Or.inl ⟨by rfl, ?_⟩) (unhide HH) ?_
              rotate_left 1
              · intro W hSW; go_simp; all_goals (with_reducible rfl)
              (try simp only [Act.put, List.setIfInBounds_toArray, List.set_cons_zero, List.set_cons_succ])
              refine takeL (i := 7) (v := ?_) rfl (by kernel_rfl) (by kernel_rfl) (by kernel_rfl) (fun _ _ _ h => h) (Or.inl ⟨by rfl, ?_⟩) (unhide HH) ?_
              rotate_left 1
              · intro W hSW; go_simp; all_goals (with_reducible rfl)
              (try simp only [Act.put, List.setIfInBounds_toArray, List.set_cons_zero, List.set_cons_succ])
              refine takeL (i := 8) (v := ?_) rfl (by kernel_rfl) (by kernel_rfl) (by kernel_rfl) (fun _ _ _ h => h) (Or.inl ⟨by rfl, ?_⟩) (unhide HH) ?_
              rotate_left 1
              · intro W hSW; go_simp; all_goals (with_reducible rfl)
              (try simp only [Act.put, List.setIfInBounds_toArray, List.set_cons_zero, List.set_cons_succ])
              refine takeL (i := 9) (v := ?_) rfl (by kernel_rfl) (by kernel_rfl) (by kernel_rfl) (fun _ _ _ h => h) (Or.inl ⟨by rfl, ?_⟩) (unhide HH) ?_
              rotate_left 1
              · intro W1 hSW; have hc := hSW.cell (unhide HX1) (by simp; omega); clear hSW; go_simp; all_goals (with_reducible rfl)
              (try simp only [Act.put, List.setIfInBounds_toArray, List.set_cons_zero, List.set_cons_succ])
              refine takeL (i := 10) (v := ?_) rfl (by kernel_rfl) (by kernel_rfl) (by kernel_rfl) (fun _ _ _ h => h) (Or.inl ⟨by rfl, ?_⟩) (unhide HH) ?_
              rotate_left 1
              · intro W hSW; go_simp; all_goals (with_reducible rfl)
              (try simp only [Act.put, List.setIfInBounds_toArray, List.set_cons_zero, List.set_cons_succ])
              refine takeL (i := 11) (v := ?_) rfl (by kernel_rfl) (by kernel_rfl) (by kernel_rfl) (fun _ _ _ h => h) (Or.inl ⟨by rfl, ?_⟩) (unhide HH) ?_
              rotate_left 1
              · intro W hSW; go_simp; all_goals (with_reducible rfl)
              (try simp only [Act.put, List.setIfInBounds_toArray, List.set_cons_zero, List.set_cons_succ])
              refine takeL (i := 12) (v := ?_) rfl (by kernel_rfl) (by kernel_rfl) (by kernel_rfl) (fun _ _ _ h => h) (Or.inl ⟨by rfl, ?_⟩) (unhide HH) ?_
              rotate_left 1
              · intro W1 hSW; have hc := hSW.cell (unhide HX2) (by simp; omega); clear hSW; go_simp; all_goals (with_reducible rfl)
              (try simp only [Act.put, List.setIfInBounds_toArray, List.set_cons_zero, List.set_cons_succ])
              refine wpAnyH_ready (rs := [5]) (by kernel_rfl) (by simp) ?_
              refine consL rfl (fun K hK => ?_) AllReadyH.nil
              have he : wr.cell? ⟨gp, k, none⟩ = some (.int .u8 (y1 : Int)) := ((unhide HBW1).cell (by rw [addK_len, smL_len]; exact hkl)).trans (by rw [addK_at (by rw [smL_len]; exact hkl), unhide Hy1])
              go_simp
              refine hK.out _ _ (unhide HH) (fun hHeld => ?_)
              clear hK K HH
              have HH := hide hHeld
              clear hHeld
              (try simp only [Act.put, List.setIfInBounds_toArray, List.set_cons_zero, List.set_cons_succ])
              clear he
              refine takeL (i := 13) (v := ?_) rfl (by kernel_rfl) (by kernel_rfl) (by kernel_rfl) (fun _ _ _ h => h) (Or.inl ⟨by rfl, ?_⟩) (unhide HH) ?_
              rotate_left 1
              · intro W hSW; go_simp; all_goals (with_reducible rfl)
              (try simp only [Act.put, List.setIfInBounds_toArray, List.set_cons_zero, List.set_cons_succ])
              refine takeL (i := 14) (v := ?_) rfl (by kernel_rfl) (by kernel_rfl) (by kernel_rfl) (fun _ _ _ h => h) (Or.inl ⟨by rfl, ?_⟩) (unhide HH) ?_
              rotate_left 1
              · intro W hSW; go_simp; all_goals (with_reducible rfl)
              (try simp only [Act.put, List.setIfInBounds_toArray, List.set_cons_zero, List.set_cons_succ])
              refine wpAnyH_ready (rs := [15]) (by kernel_rfl) (by simp) ?_
              refine consL rfl (fun K hK => ?_) AllReadyH.nil
              have he : wr.cell? ⟨gp, k, none⟩ = some (.int .u8 (y1 : Int)) := ((unhide HBW1).cell (by rw [addK_len, smL_len]; exact hkl)).trans (by rw [addK_at (by rw [smL_len]; exact hkl), unhide Hy1])
              have hf4 : wr.frozen? ⟨gp, k, none⟩ = false := (unhide HBW1).free
              go_simp
              have HBW2 : Hid (Blk (wr.setCell ⟨gp, k, none⟩ (.int .u8 ((y1 ^^^ x : Nat) : Int))).drew gp _) := ((unhide HBW1).set k (y1 ^^^ x) (by rw [addK_len, smL_len]; exact hkl)).of rfl
              have HKW2 : Hid (Kp [gp] wr (wr.setCell ⟨gp, k, none⟩ (.int .u8 ((y1 ^^^ x : Nat) : Int))).drew) := ((Kp.refl [gp] wr).setCell ⟨gp, k, none⟩ (.int .u8 ((y1 ^^^ x : Nat) : Int)) (.inl (by simp))).drew
              refine hK.out _ _ (unhide HKW2) (fun hHeld => ?_)
              clear hHeld hK K HH he hf4
              (try simp only [Act.put, List.setIfInBounds_toArray, List.set_cons_zero, List.set_cons_succ])
              refine wpAnyH_done (by kernel_rfl) ?_ _
              refine NoPanic.normal ?_
              generalize (wr.setCell ⟨gp, k, none⟩ (.int .u8 ((y1 ^^^ x : Nat) : Int))).drew = w6 at HBW2 HKW2 ⊢
              have HBP : Hid (Blk w6 gp (addK (smL (fun _ => 1) l (List.range i) n) (l.getD i []) 1 (k + 1))) := by
                show Blk _ _ _
                rw [← unhide HST1]; exact unhide HBW2
              have HB6q : Hid (Blk w6 gq (addK (smL E l (List.range i) n) (l.getD i []) (E i) k)) := (unhide HBq).of ((unhide HKW2).block gq (unhide HBq).lt (by simp; omega))
              have HK6 : Hid (Kp [gp, gq] W w6) := (unhide HKr).trans (unhide HKW2) (by simp)
              have HX3 := hide ((unhide HKW2).cell (unhide HX1) (by simp; omega))
              have HX4 := hide ((unhide HKW2).cell (unhide HX2) (by simp; omega))
              clear HBW2 HKW2
              have hx3 := unhide HX3
              go_wp2_with fail
              clear hx3
              refine wp_region_noPanic ?_
              refine wp_region_held_drew (S := fun W => Kp [gq] w6 W) (by kernel_rfl) ((Kp.refl _ _).drew) (fun hHeld => ?_)
              have HH := hide hHeld
              clear hHeld
              refine takeL (i := 0) (v := ?_) rfl (by kernel_rfl) (by kernel_rfl) (by kernel_rfl) (fun _ _ _ h => h) (Or.inl ⟨by rfl, ?_⟩) (unhide HH) ?_
              rotate_left 1
              · intro W hSW; go_simp; all_goals (with_reducible rfl)
              (try simp only [Act.put, List.setIfInBounds_toArray, List.set_cons_zero, List.set_cons_succ])
              refine takeL (i := 1) (v := ?_) rfl (by kernel_rfl) (by kernel_rfl) (by kernel_rfl) (fun _ _ _ h => h) (Or.inl ⟨by rfl, ?_⟩) (unhide HH) ?_
              rotate_left 1
              · intro W hSW; go_simp; all_goals (with_reducible rfl)
              (try simp only [Act.put, List.setIfInBounds_toArray, List.set_cons_zero, List.set_cons_succ])
              refine takeL (i := 2) (v := ?_) rfl (by kernel_rfl) (by kernel_rfl) (by kernel_rfl) (fun _ _ _ h => h) (Or.inl ⟨by rfl, ?_⟩) (unhide HH) ?_
              rotate_left 1
              · intro W hSW; go_simp; all_goals (with_reducible rfl)
              (try simp only [Act.put, List.setIfInBounds_toArray, List.set_cons_zero, List.set_cons_succ])
              refine takeL (i := 3) (v := ?_) rfl (by kernel_rfl) (by kernel_rfl) (by kernel_rfl) (fun _ _ _ h => h) (Or.inl ⟨by rfl, ?_⟩) (unhide HH) ?_
              rotate_left 1
              · intro W hSW; go_simp; all_goals (with_reducible rfl)
              (try simp only [Act.put, List.setIfInBounds_toArray, List.set_cons_zero, List.set_cons_succ])
              refine takeL (i := 4) (v := ?_) rfl (by kernel_rfl) (by kernel_rfl) (by kernel_rfl) (fun _ _ _ h => h) (Or.inl ⟨by rfl, ?_⟩) (unhide HH) ?_
              rotate_left 1
              · intro W hSW; go_simp; all_goals (with_reducible rfl)
              (try simp only [Act.put, List.setIfInBounds_toArray, List.set_cons_zero, List.set_cons_succ])
              refine takeL (i := 6) (v := ?_) rfl (by kernel_rfl) (by kernel_rfl) (by kernel_rfl) (fun _ _ _ h => h) (Or.inl ⟨by rfl, ?_⟩) (unhide HH) ?_
              rotate_left 1
              · intro W hSW; go_simp; all_goals (with_reducible rfl)
              (try simp only [Act.put, List.setIfInBounds_toArray, List.set_cons_zero, List.set_cons_succ])
              refine takeL (i := 7) (v := ?_) rfl (by kernel_rfl) (by kernel_rfl) (by kernel_rfl) (fun _ _ _ h => h) (Or.inl ⟨by rfl, ?_⟩) (unhide HH) ?_
              rotate_left 1
              · intro W hSW; go_simp; all_goals (with_reducible rfl)
              (try simp only [Act.put, List.setIfInBounds_toArray, List.set_cons_zero, List.set_cons_succ])
              refine takeL (i := 8) (v := ?_) rfl (by kernel_rfl) (by kernel_rfl) (by kernel_rfl) (fun _ _ _ h => h) (Or.inl ⟨by rfl, ?_⟩) (unhide HH) ?_
              rotate_left 1
              · intro W hSW; go_simp; all_goals (with_reducible rfl)
              (try simp only [Act.put, List.setIfInBounds_toArray, List.set_cons_zero, List.set_cons_succ])
              refine takeL (i := 9) (v := ?_) rfl (by kernel_rfl) (by kernel_rfl) (by kernel_rfl) (fun _ _ _ h => h) (Or.inl ⟨by rfl, ?_⟩) (unhide HH) ?_
              rotate_left 1
              · intro W hSW; go_simp; all_goals (with_reducible rfl)
              (try simp only [Act.put, List.setIfInBounds_toArray, List.set_cons_zero, List.set_cons_succ])
              refine takeL (i := 10) (v := ?_) rfl (by kernel_rfl) (by kernel_rfl) (by kernel_rfl) (fun _ _ _ h => h) (Or.inl ⟨by rfl, ?_⟩) (unhide HH) ?_
              rotate_left 1
              · intro W1 hSW; have hc := hSW.cell (unhide HX3) (by simp; omega); clear hSW; go_simp; all_goals (with_reducible rfl)
              (try simp only [Act.put, List.setIfInBounds_toArray, List.set_cons_zero, List.set_cons_succ])
              refine takeL (i := 11) (v := ?_) rfl (by kernel_rfl) (by kernel_rfl) (by kernel_rfl) (fun _ _ _ h => h) (Or.inl ⟨by rfl, ?_⟩) (unhide HH) ?_
              rotate_left 1
              · intro W hSW; go_simp; all_goals (with_reducible rfl)
              (try simp only [Act.put, List.setIfInBounds_toArray, List.set_cons_zero, List.set_cons_succ])
              refine takeL (i := 12) (v := ?_) rfl (by kernel_rfl) (by kernel_rfl) (by kernel_rfl) (fun _ _ _ h => h) (Or.inl ⟨by rfl, ?_⟩) (unhide HH) ?_
              rotate_left 1
              · intro W hSW; go_simp; all_goals (with_reducible rfl)
              (try simp only [Act.put, List.setIfInBounds_toArray, List.set_cons_zero, List.set_cons_succ])
              refine takeL (i := 13) (v := ?_) rfl (by kernel_rfl) (by kernel_rfl) (by kernel_rfl) (fun _ _ _ h => h) (Or.inl ⟨by rfl, ?_⟩) (unhide HH) ?_
              rotate_left 1
              · intro W1 hSW; have hc := hSW.cell (unhide HX4) (by simp; omega); clear hSW; go_simp; all_goals (with_reducible rfl)
              (try simp only [Act.put, List.setIfInBounds_toArray, List.set_cons_zero, List.set_cons_succ])
              refine wpAnyH_ready (rs := [5, 14]) (by kernel_rfl) (by simp) ?_
              refine consL rfl (fun K hK => ?_) (consL rfl (fun K hK => ?_) AllReadyH.nil)
              focus
                have he : w6.cell? ⟨gq, k, none⟩ = some (.int .u8 (y2 : Int)) := ((unhide HB6q).cell (by rw [addK_len, smL_len]; exact hkl)).trans (by rw [addK_at (by rw [smL_len]; exact hkl), unhide Hy2])
                go_simp
                refine hK.out _ _ (unhide HH) (fun hHeld => ?_)
                clear hK K HH
                have HH := hide hHeld
                clear hHeld
                (try simp only [Act.put, List.setIfInBounds_toArray, List.set_cons_zero, List.set_cons_succ])
                clear he
                refine wpAnyH_ready (rs := [14]) (by kernel_rfl) (by simp) ?_
                refine consL rfl (fun K hK => ?_) AllReadyH.nil
                go_simp
                refine (rmul_any (X (i : Int)) x (X_lt _) hx8 _).mono ?_
                rintro e w4 ⟨rfl, hw4⟩
                subst hw4
                go_wp2_with fail
                refine hK.out _ _ (unhide HH) (fun hHeld => ?_)
                clear hK K HH
                have HH := hide hHeld
                clear hHeld
                (try simp only [Act.put, List.setIfInBounds_toArray, List.set_cons_zero, List.set_cons_succ])
                refine takeL (i := 15) (v := ?_) rfl (by kernel_rfl) (by kernel_rfl) (by kernel_rfl) (fun _ _ _ h => h) (Or.inl ⟨by rfl, ?_⟩) (unhide HH) ?_
                rotate_left 1
                · intro W hSW; go_simp; all_goals (with_reducible rfl)
                (try simp only [Act.put, List.setIfInBounds_toArray, List.set_cons_zero, List.set_cons_succ])
                refine takeL (i := 16) (v := ?_) rfl (by kernel_rfl) (by kernel_rfl) (by kernel_rfl) (fun _ _ _ h => h) (Or.inl ⟨by rfl, ?_⟩) (unhide HH) ?_
                rotate_left 1
                · intro W hSW; go_simp; all_goals (with_reducible rfl)
                (try simp only [Act.put, List.setIfInBounds_toArray, List.set_cons_zero, List.set_cons_succ])
                refine wpAnyH_ready (rs := [17]) (by kernel_rfl) (by simp) ?_
                refine consL rfl (fun K hK => ?_) AllReadyH.nil
                have he : w6.cell? ⟨gq, k, none⟩ = some (.int .u8 (y2 : Int)) := ((unhide HB6q).cell (by rw [addK_len, smL_len]; exact hkl)).trans (by rw [addK_at (by rw [smL_len]; exact hkl), unhide Hy2])
                have hf4 : w6.frozen? ⟨gq, k, none⟩ = false := (unhide HB6q).free
                go_simp
                have HBW2 : Hid (Blk (w6.setCell ⟨gq, k, none⟩ (.int .u8 ((y2 ^^^ gmul (X (i : Int)) x : Nat) : Int))).drew gq _) := ((unhide HB6q).set k (y2 ^^^ gmul (X (i : Int)) x) (by rw [addK_len, smL_len]; exact hkl)).of rfl
                have HKW2 : Hid (Kp [gq] w6 (w6.setCell ⟨gq, k, none⟩ (.int .u8 ((y2 ^^^ gmul (X (i : Int)) x : Nat) : Int))).drew) := ((Kp.refl [gq] w6).setCell ⟨gq, k, none⟩ (.int .u8 ((y2 ^^^ gmul (X (i : Int)) x : Nat) : Int)) (.inl (by simp))).drew
                refine hK.out _ _ (unhide HKW2) (fun hHeld => ?_)
                clear hHeld hK K HH he hf4
                (try simp only [Act.put, List.setIfInBounds_toArray, List.set_cons_zero, List.set_cons_succ])
                refine wpAnyH_done (by kernel_rfl) ?_ _
                refine NoPanic.normal ?_
                generalize (w6.setCell ⟨gq, k, none⟩ (.int .u8 ((y2 ^^^ gmul (X (i : Int)) x : Nat) : Int))).drew = w7 at HBW2 HKW2 ⊢
                go_wp2_with fail
                go_roundw
                case rel =>
                  refine ⟨k + 1, by go_num, by omega, ?_, ?_, ?_⟩
                  · exact (unhide HBP).of ((unhide HKW2).block gp (unhide HBP).lt (by simp; omega))
                  · rw [← unhide HST2]; exact unhide HBW2
                  · exact (unhide HK6).trans (unhide HKW2) (by simp)
                case measure => simp [intOf]; omega
              focus
                go_simp
                refine (rmul_any (X (i : Int)) x (X_lt _) hx8 _).mono ?_
                rintro e w4 ⟨rfl, hw4⟩
                subst hw4
                go_wp2_with fail
                refine hK.out _ _ (unhide HH) (fun hHeld => ?_)
                clear hK K HH
                have HH := hide hHeld
                clear hHeld
                (try simp only [Act.put, List.setIfInBounds_toArray, List.set_cons_zero, List.set_cons_succ])
                refine wpAnyH_ready (rs := [5]) (by kernel_rfl) (by simp) ?_
                refine consL rfl (fun K hK => ?_) AllReadyH.nil
                have he : w6.cell? ⟨gq, k, none⟩ = some (.int .u8 (y2 : Int)) := ((unhide HB6q).cell (by rw [addK_len, smL_len]; exact hkl)).trans (by rw [addK_at (by rw [smL_len]; exact hkl), unhide Hy2])
                go_simp
                refine hK.out _ _ (unhide HH) (fun hHeld => ?_)
                clear hK K HH
                have HH := hide hHeld
                clear hHeld
                (try simp only [Act.put, List.setIfInBounds_toArray, List.set_cons_zero, List.set_cons_succ])
                clear he
                refine takeL (i := 15) (v := ?_) rfl (by kernel_rfl) (by kernel_rfl) (by kernel_rfl) (fun _ _ _ h => h) (Or.inl ⟨by rfl, ?_⟩) (unhide HH) ?_
                rotate_left 1
                · intro W hSW; go_simp; all_goals (with_reducible rfl)
                (try simp only [Act.put, List.setIfInBounds_toArray, List.set_cons_zero, List.set_cons_succ])
                refine takeL (i := 16) (v := ?_) rfl (by kernel_rfl) (by kernel_rfl) (by kernel_rfl) (fun _ _ _ h => h) (Or.inl ⟨by rfl, ?_⟩) (unhide HH) ?_
                rotate_left 1
                · intro W hSW; go_simp; all_goals (with_reducible rfl)
                (try simp only [Act.put, List.setIfInBounds_toArray, List.set_cons_zero, List.set_cons_succ])
                refine wpAnyH_ready (rs := [17]) (by kernel_rfl) (by simp) ?_
                refine consL rfl (fun K hK => ?_) AllReadyH.nil
                have he : w6.cell? ⟨gq, k, none⟩ = some (.int .u8 (y2 : Int)) := ((unhide HB6q).cell (by rw [addK_len, smL_len]; exact hkl)).trans (by rw [addK_at (by rw [smL_len]; exact hkl), unhide Hy2])
                have hf4 : w6.frozen? ⟨gq, k, none⟩ = false := (unhide HB6q).free
                go_simp
                have HBW2 : Hid (Blk (w6.setCell ⟨gq, k, none⟩ (.int .u8 ((y2 ^^^ gmul (X (i : Int)) x : Nat) : Int))).drew gq _) := ((unhide HB6q).set k (y2 ^^^ gmul (X (i : Int)) x) (by rw [addK_len, smL_len]; exact hkl)).of rfl
                have HKW2 : Hid (Kp [gq] w6 (w6.setCell ⟨gq, k, none⟩ (.int .u8 ((y2 ^^^ gmul (X (i : Int)) x : Nat) : Int))).drew) := ((Kp.refl [gq] w6).setCell ⟨gq, k, none⟩ (.int .u8 ((y2 ^^^ gmul (X (i : Int)) x : Nat) : Int)) (.inl (by simp))).drew
                refine hK.out _ _ (unhide HKW2) (fun hHeld => ?_)
                clear hHeld hK K HH he hf4
                (try simp only [Act.put, List.setIfInBounds_toArray, List.set_cons_zero, List.set_cons_succ])
                refine wpAnyH_done (by kernel_rfl) ?_ _
                refine NoPanic.normal ?_
                generalize (w6.setCell ⟨gq, k, none⟩ (.int .u8 ((y2 ^^^ gmul (X (i : Int)) x : Nat) : Int))).drew = w7 at HBW2 HKW2 ⊢
                go_wp2_with fail
                go_roundw
                case rel =>
                  refine ⟨k + 1, by go_num, by omega, ?_, ?_, ?_⟩
                  · exact (unhide HBP).of ((unhide HKW2).block gp (unhide HBP).lt (by simp; omega))
                  · rw [← unhide HST2]; exact unhide HBW2
                  · exact (unhide HK6).trans (unhide HKW2) (by simp)
                case measure => simp [intOf]; omega
            · have hk2 : k = n := by omega
              subst hk2
              go_wp2_with fail
              go_roundw
              case rel => exact ⟨i + 1, by go_num, by omega, by rw [← addK_row, ← addK_all (k := k) (by rw [smL_len]; exact Nat.le_refl _)]; exact unhide HBW1, by rw [← addK_row, ← addK_all (k := k) (by rw [smL_len]; exact Nat.le_refl _)]; exact unhide HBq, unhide HKr⟩
              case measure => simp [intOf]; omega
        · have hi2 : i = N := by omega
          subst hi2
          have hB1 : Below w1.heap.size w1 wr := below_kp (unhide HBW) (unhide HKi) (by simp; omega) hzW
          have HBF := hide ((unhide HB).trans (hB1.mono (unhide HB).size))
          have HP9 : Hid (Blk wr gp (pP l) ∧ (pP l).length = n) := by show _ ∧ _; rw [(par_of (unhide HOK)).1, unhide HN, unhide HNS]; exact ⟨unhide HPi, smL_len _ _ _ _⟩
          have HQ9 : Hid (Blk wr gq (pQ l) ∧ (pQ l).length = n) := by show _ ∧ _; rw [(par_of (unhide HOK)).2, unhide HN, unhide HNS]; exact ⟨unhide HQi, smL_len _ _ _ _⟩
          have hz1 := (unhide HB).size
          clear hB1
          go_wp2_with fail
          go_returns
          exact ⟨_, _, rfl, .inr ⟨gp, n, by rw [(unhide HP9).2]; rfl, by rw [(unhide HP9).2]; exact Nat.le_refl _, by unfold maxLen; omega, (unhide HP9).1, by omega⟩, .inr ⟨gq, n, by rw [(unhide HQ9).2]; rfl, by rw [(unhide HQ9).2]; exact Nat.le_refl _, by unfold maxLen; omega, (unhide HQ9).1, by omega⟩, unhide HBF⟩

theorem RArg.take {w : World} {ao : Option Addr} {N c G d : Nat} {A : Nat → Option Addr} {C : Nat → Nat} {l : List (List Nat)} (h : RArg w (.slice ao N c) G A C l) (hd : d ≤ l.length) : RArg w (.slice ao d c) G A C (l.take d) := by
  obtain ⟨⟨ao', c', h1, h2, h3, h4, h5⟩, hr⟩ := h
  cases h1
  have hl : (l.take d).length = d := by simp; omega
  refine ⟨⟨ao, c, by rw [hl], by omega, h3, h4, ?_⟩, fun i hi => ?_⟩
  · rw [hl]
    rcases h5 with h0 | ⟨o, ho, hc⟩
    · exact .inl (by omega)
    · exact .inr ⟨o, ho, fun j hj => by rw [hc j (by omega)]; simp only [getD_take hj]⟩
  · rw [hl] at hi
    rw [getD_take hi]
    exact hr i (by omega)

end Go.Proofs.YtjdikhelabibnabGreat

namespace Go.Proofs.YtjdikhelabibnabGreat
open Go.RowKit

/-- Rows whose slices lie in block gT, and what they say elsewhere. -/
structure Tn (W : World) (gT N : Nat) (ps : List (Option Addr × Nat)) (t : List (List Nat)) : Prop where
  cells : ∃ cur, W.heap[gT]? = some (.cells cur 33 (0, 0)) ∧ ∀ j, j < N → cur[j]? = some (.slice (psA ps j) (t.getD j []).length (psC ps j))
  pl : ps.length = N
  tl : t.length = N
  rows : ∀ j, j < N → ∃ g, Arg W (.slice (psA ps j) (t.getD j []).length (psC ps j)) g (t.getD j []) ∧ (t.getD j [] ≠ [] → g ≠ gT)
theorem tn_of {base g n cap : Nat} {W : World} {ps : List (Option Addr × Nat)} {l : List (List Nat)} (h : OwnR base W (.slice (some ⟨g, 0, none⟩) n cap) ps l) (hl : l.length = n) (hrows : ∀ j, j < n → ∃ g', Arg W (.slice (psA ps j) (l.getD j []).length (psC ps j)) g' (l.getD j []) ∧ (l.getD j [] ≠ [] → g' ≠ g)) : Tn W g n ps l := by
  refine ⟨?_, by rw [h.len, hl], hl, hrows⟩
  rcases h.own.2 with ⟨h', _⟩ | ⟨g', cap', cur, h1, h2, h3, h4, h5, h6, h7⟩
  · cases h'
  · cases h1
    refine ⟨cur, h3, fun j hj => ?_⟩
    have e : (cur.toList.take (l.length * 1))[j]? = (vals5 ps l)[j]? := by rw [h7]
    rw [List.getElem?_take, if_pos (by omega), Array.getElem?_toList, vals_get h.len (by omega)] at e
    exact e
theorem Tn.lt {W : World} {gT N : Nat} {ps : List (Option Addr × Nat)} {t : List (List Nat)} (h : Tn W gT N ps t) : gT < W.heap.size := by
  obtain ⟨cur, h1, _⟩ := h.cells
  exact lt_of_block h1
theorem Tn.cell {W : World} {gT N : Nat} {ps : List (Option Addr × Nat)} {t : List (List Nat)} (h : Tn W gT N ps t) {j : Nat} (hj : j < N) : W.cell? ⟨gT, j, none⟩ = some (.slice (psA ps j) (t.getD j []).length (psC ps j)) ∧ W.frozen? ⟨gT, j, none⟩ = false := by
  obtain ⟨cur, h1, h2⟩ := h.cells
  exact ⟨by simp [World.cell?, h1, h2 j hj], by simp [World.frozen?, h1]⟩
theorem Tn.below {W W' : World} {gT N : Nat} {ps : List (Option Addr × Nat)} {t : List (List Nat)} (h : Tn W gT N ps t) (k : Below W.heap.size W W') : Tn W' gT N ps t := by
  obtain ⟨cur, h1, h2⟩ := h.cells
  exact ⟨⟨cur, (k.block gT h.lt).trans h1, h2⟩, h.pl, h.tl, fun j hj => by obtain ⟨g, h3, h4⟩ := h.rows j hj; exact ⟨g, h3.below k, h4⟩⟩
theorem arg_kp {S : List Nat} {w w' : World} {v : Value} {g : Nat} {s : List Nat} (h : Arg w v g s) (k : Kp S w w') (hn : s ≠ [] → g ∉ S) : Arg w' v g s := by
  obtain ⟨⟨ao, c, h1, h2, h3, h4, h5⟩, hb⟩ := h
  refine ⟨⟨ao, c, h1, h2, h3, h4, ?_⟩, hb⟩
  by_cases h0 : s = []
  · subst h0; exact .inl rfl
  · exact h5.keep k (hn h0)
theorem Tn.set {W : World} {gT N : Nat} {ps : List (Option Addr × Nat)} {t : List (List Nat)} (h : Tn W gT N ps t) {i : Nat} (hi : i < N) {a : Option Addr} {c g : Nat} {r : List Nat} (hr : Arg W (.slice a r.length c) g r) (hg : r ≠ [] → g ≠ gT) : Tn (W.setCell ⟨gT, i, none⟩ (.slice a r.length c)) gT N (ps.set i (a, c)) (t.set i r) := by
  have hpl : i < ps.length := by rw [h.pl]; exact hi
  have htl : i < t.length := by rw [h.tl]; exact hi
  have hk : Kp [gT] W (W.setCell ⟨gT, i, none⟩ (.slice a r.length c)) := (Kp.refl _ W).setCell _ _ (.inl (by simp))
  refine ⟨?_, by rw [List.length_set]; exact h.pl, by rw [List.length_set]; exact h.tl, fun j hj => ?_⟩
  · obtain ⟨cur, h1, h2⟩ := h.cells
    refine ⟨cur.setIfInBounds i (.slice a r.length c), heap_setCell_same W gT i _ _ _ h1, fun j hj => ?_⟩
    rw [(ps_set hpl).1, (ps_set hpl).2, getD_set htl, Array.getElem?_setIfInBounds]
    by_cases e : i = j
    · subst e
      have : i < cur.size := (Array.getElem?_eq_some_iff.1 (h2 i hi)).1
      simp [this]
    · rw [if_neg e, if_neg e, if_neg e, if_neg e]
      exact h2 j hj
  · rw [(ps_set hpl).1, (ps_set hpl).2, getD_set htl]
    by_cases e : i = j
    · rw [if_pos e, if_pos e, if_pos e]
      exact ⟨g, arg_kp hr hk (fun h0 => by simpa using hg h0), hg⟩
    · rw [if_neg e, if_neg e, if_neg e]
      obtain ⟨g', h3, h4⟩ := h.rows j hj
      exact ⟨g', arg_kp h3 hk (fun h0 => by simpa using h4 h0), h4⟩
theorem Tn.arg {W : World} {gT N c : Nat} {ps : List (Option Addr × Nat)} {t : List (List Nat)} (h : Tn W gT N ps t) (h1 : N ≤ c) (h2 : c ≤ maxLen) : RArg W (.slice (some ⟨gT, 0, none⟩) N c) gT (psA ps) (psC ps) t :=
  ⟨⟨some ⟨gT, 0, none⟩, c, by rw [h.tl], by rw [h.tl]; exact h1, h2, (fun h => by cases h), .inr ⟨0, rfl, fun j hj => by rw [Nat.zero_add]; exact (h.cell (by rw [← h.tl]; exact hj)).1⟩⟩, fun i hi => by
    obtain ⟨g, hg, _⟩ := h.rows i (by rw [← h.tl]; exact hi)
    exact ⟨g, hg⟩⟩

end Go.Proofs.YtjdikhelabibnabGreat
