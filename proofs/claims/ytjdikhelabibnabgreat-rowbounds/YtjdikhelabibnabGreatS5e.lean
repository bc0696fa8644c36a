/-
  rs.nought, rs.Parity, rs.Check.
-/
import Derived.Test.YtjdikhelabibnabGreatS5d
namespace Go.Proofs.YtjdikhelabibnabGreat
open Go.RowKit Go.Shelf

set_option maxHeartbeats 1000000 in
theorem nought1_any (x : Nat) (w : World) : Calls Tryz.prog 100 #[.int .u8 (x : Int)] w fun e w' => e = .returned (.bool ((x : Int) != 0)) ∧ w' = w := by
  go_enter Tryz.func100, Tryz.ntmps100
  go_wp2
  go_ret
  exact ⟨rfl, rfl⟩

set_option maxRecDepth 100000 in
set_option maxHeartbeats 2000000 in
theorem ifb_any (v : Value) (g : Nat) (s : List Nat) (w : World) (hA : Arg w v g s) :
    Calls Tryz.prog 128 #[v, .func (.func 100) #[] #[]] w fun e w' => ∃ r : Int, e = .returned (.int .i64 r) ∧ w' = w ∧ ((r = -1 ∧ nil0 s = true) ∨ (0 ≤ r ∧ nil0 s = false)) := by
  obtain ⟨⟨ao, c, rfl, hc1, hc2, hnil, hr⟩, hbs⟩ := hA
  have HR := hide hr
  have HBS := hide hbs
  obtain ⟨n, hn⟩ : ∃ n, s.length = n := ⟨_, rfl⟩
  rw [hn] at hc1 ⊢
  have HN := hide hn
  have hnm : (n : Int) ≤ 9223372036854775807 := by unfold maxLen at hc2; omega
  clear hr hnil hn hbs
  go_enter Tryz.func128, Tryz.ntmps128
  go_wp2_with fail
  go_loop [8] (fun p => ∃ i : Nat, p = .int .i64 i ∧ i ≤ n ∧ ∀ k, k < i → cf s k = 0) (fun p => n - (intOf p).toNat)
  case atStart => exact ⟨0, rfl, by omega, by simp⟩
  case round =>
    obtain ⟨i, rfl, hi, hz⟩ := hrel
    have HZ := hide hz
    clear hz
    by_cases hlt : i < n
    · have hi1 : (i : Int) < (n : Int) := by omega
      obtain ⟨o, rfl⟩ := row_some (unhide HR) (by rw [unhide HN]; omega)
      have hc := row_cell (unhide HR) (j := i) (by rw [unhide HN]; exact hlt)
      obtain ⟨y, hy⟩ : ∃ y, cf s i = y := ⟨_, rfl⟩
      have HY := hide hy
      rw [hy] at hc
      clear hy
      go_wp2_with fail
      refine (nought1_any y w).mono ?_
      rintro e w' ⟨rfl, hw'⟩
      subst hw'
      by_cases h0 : y = 0
      · have e1 : ((y : Int) != 0) = false := by rw [h0]; rfl
        have H0 := hide h0
        clear h0
        go_wp2_with fail
        go_round
        case rel => exact ⟨i + 1, by go_num, by omega, fun k hk => by
          by_cases e : k = i
          · rw [e, unhide HY]; exact unhide H0
          · exact unhide HZ k (by omega)⟩
        case measure => simp [intOf]; omega
      · have e1 : ((y : Int) != 0) = true := by rw [bne_iff_ne]; omega
        have H0 := hide h0
        clear h0
        go_wp2_with fail
        go_ret
        refine ⟨i, rfl, rfl, .inr ⟨by omega, ?_⟩⟩
        cases hnl : nil0 s with
        | false => rfl
        | true => exact absurd ((unhide HY).symm.trans ((nil0_iff s).1 hnl i (by rw [unhide HN]; exact hlt))) (unhide H0)
    · have hi2 : i = n := by omega
      subst hi2
      go_wp2
      go_ret
      exact ⟨-1, rfl, rfl, .inl ⟨rfl, (nil0_iff s).2 (fun k hk => unhide HZ k (by rw [← unhide HN]; exact hk))⟩⟩

set_option maxHeartbeats 1000000 in
theorem cfb_any (v : Value) (g : Nat) (s : List Nat) (w : World) (hA : Arg w v g s) :
    Calls Tryz.prog 99 #[v, .func (.func 100) #[] #[]] w fun e w' => e = .returned (.bool (!nil0 s)) ∧ w' = w := by
  obtain ⟨ao, c, hv, _⟩ := hA.ex
  have HA := hide hA
  subst hv
  clear hA
  go_enter Tryz.func99, Tryz.ntmps99
  go_wp2_with fail
  refine (ifb_any _ g s w (unhide HA)).mono ?_
  rintro e w' ⟨r, rfl, rfl, h⟩
  rcases h with ⟨hr, hz⟩ | ⟨hr, hz⟩
  · subst hr
    have HD := hide hz
    clear hz
    go_wp2
    go_ret
    rw [unhide HD]
    exact ⟨rfl, rfl⟩
  · have HD := hide hz
    clear hz
    go_wp2
    go_ret
    rw [unhide HD]
    exact ⟨rfl, rfl⟩

set_option maxHeartbeats 1000000 in
theorem nought_any (v : Value) (g : Nat) (s : List Nat) (w : World) (hA : Arg w v g s) :
    Calls Tryz.prog 63 #[v] w fun e w' => e = .returned (.bool (nil0 s)) ∧ w' = w := by
  obtain ⟨ao, c, hv, _⟩ := hA.ex
  have HA := hide hA
  subst hv
  clear hA
  go_enter Tryz.func63, Tryz.ntmps63
  go_wp2_with fail
  refine (cfb_any _ g s w (unhide HA)).mono ?_
  rintro e w' ⟨rfl, rfl⟩
  go_wp2
  go_ret
  exact ⟨by simp, rfl⟩

theorem below_drewN5 {n : Nat} {a w : World} (h : Below n a w) (m : Nat) : Below n a (w.drewN m) := ⟨h.os, h.tape, h.output, h.size, h.block⟩

theorem filter_true (N : Nat) : (List.range N).filter (fun _ => true) = List.range N := List.filter_eq_self.2 (fun _ _ => rfl)

theorem RArg.slice {w : World} {v : Value} {G : Nat} {A : Nat → Option Addr} {C : Nat → Nat} {l : List (List Nat)} (h : RArg w v G A C l) : ∃ ao n c, v = .slice ao n c := by
  obtain ⟨ao, c, h1, _⟩ := h.ex
  exact ⟨ao, _, c, h1⟩

set_option maxRecDepth 100000 in
set_option maxHeartbeats 4000000 in
theorem parity_any (v : Value) (G : Nat) (A : Nat → Option Addr) (C : Nat → Nat) (l : List (List Nat)) (w : World) (hA : RArg w v G A C l) (hlen : ∀ i, (l.getD i []).length ≤ 100000) :
    Calls Tryz.prog 28 #[v] w fun e w' => ∃ v1 v2, e = .returned (.tuple #[v1, v2]) ∧ Fr w.heap.size w' v1 (pP l) ∧ Fr w.heap.size w' v2 (pQ l) ∧ Below w.heap.size w w' := by
  obtain ⟨ao, c, hv, hc1, hc2, hnil, hrow⟩ := hA.ex
  have HA := hide hA
  have HLEN := hide hlen
  have HROW := hide hrow
  clear hrow hlen hA hnil
  subst hv
  obtain ⟨N, hN⟩ : ∃ N, l.length = N := ⟨_, rfl⟩
  rw [hN] at hc1 ⊢
  have HN := hide hN
  clear hN
  have hNm : (N : Int) ≤ 9223372036854775807 := by unfold maxLen at hc2; omega
  go_enter Tryz.func28, Tryz.ntmps28
  go_wp2_with fail
  refine (all_any5 _ w ⟨_, _, _, rfl⟩).mono ?_
  rintro e w1 ⟨rfl, hcb, hlt, hk⟩
  have HB1 := hide hk
  have HCB := hide hcb
  clear hk hcb
  go_wp2_with fail
  by_cases hd : 2 ≤ N ∧ N ≤ 14
  · obtain ⟨hd1, hd2⟩ := hd
    have hseq : Seq5 90 _ N A (fun i => (l.getD i []).length) C (fun _ => true) w1 := all_seq (by omega) (unhide HCB) (by have h := unhide HROW; rw [unhide HN] at h; exact h.below (unhide HB1))
    refine (sumsOf_any _ _ N A C (fun _ => true) l N w1 hseq (fun i hi => by obtain ⟨g, hg⟩ := (unhide HA).rows i (by rw [unhide HN]; exact hi); exact ⟨g, hg.below (unhide HB1)⟩) (unhide HA).bs hd1 hd2 (by omega) ⟨0, by omega, rfl⟩ (unhide HLEN)).mono ?_
    clear hseq
    rintro e w2 ⟨hk, h⟩
    have HB2 := hide ((unhide HB1).trans (hk.mono (unhide HB1).size))
    clear hk
    rcases h with ⟨n, gp, gq, rfl, hn, hpq, hgp, hgq, hP, hQ⟩ | ⟨rfl, i, j, hi, hj, _, _, hne⟩
    · have hev : evn l := evn_of (n := n) (fun i hi => hn i (by rw [← unhide HN]; exact hi) rfl)
      have hsz : size l = n := hn 0 (by omega) rfl
      have HOK : Hid (okP l = true) := by show _ = _; unfold okP; rw [(evn_iff l).2 hev, unhide HN]; simp; omega
      rw [filter_true] at hP hQ
      have HP : Hid (Blk w2 gp (pP l)) := by show Blk _ _ _; unfold pP; rw [if_pos (unhide HOK), ← smL_parP, unhide HN, hsz]; exact hP
      have HQ : Hid (Blk w2 gq (pQ l)) := by show Blk _ _ _; unfold pQ; rw [if_pos (unhide HOK), ← smL_parQ, unhide HN, hsz]; exact hQ
      have HL1 : Hid ((pP l).length = n) := by show _ = _; unfold pP; rw [if_pos (unhide HOK), parP, smL_len, hsz]
      have HL2 : Hid ((pQ l).length = n) := by show _ = _; unfold pQ; rw [if_pos (unhide HOK), parQ, smL_len, hsz]
      have hn5 : n ≤ 100000 := by rw [← hsz]; exact unhide HLEN 0
      have hgp' : w.heap.size ≤ gp := by omega
      have hgq' : w.heap.size ≤ gq := by omega
      clear hn hev hsz hP hQ hpq hgp hgq
      unfold sv
      go_wp2_with fail
      have HB3 := hide ((unhide HB2).trans ((Below.refl _ w2).alloc (Nat.le_refl _) (.cells #[.int .i64 (N : Int), .slice (some ⟨gp, 0, none⟩) n n, .slice (some ⟨gq, 0, none⟩) n n] 105) |>.mono (unhide HB2).size))
      replace HP := hide ((unhide HP).below ((Below.refl _ w2).alloc (Nat.le_refl _) (.cells #[.int .i64 (N : Int), .slice (some ⟨gp, 0, none⟩) n n, .slice (some ⟨gq, 0, none⟩) n n] 105)) (unhide HP).lt)
      replace HQ := hide ((unhide HQ).below ((Below.refl _ w2).alloc (Nat.le_refl _) (.cells #[.int .i64 (N : Int), .slice (some ⟨gp, 0, none⟩) n n, .slice (some ⟨gq, 0, none⟩) n n] 105)) (unhide HQ).lt)
      obtain ⟨hb0, hb1, hb2⟩ := sums_box w2 N (.slice (some ⟨gp, 0, none⟩) n n) (.slice (some ⟨gq, 0, none⟩) n n)
      generalize w2.alloc (.cells #[.int .i64 (N : Int), .slice (some ⟨gp, 0, none⟩) n n, .slice (some ⟨gq, 0, none⟩) n n] 105) = w3 at HB3 HP HQ hb0 hb1 hb2 ⊢
      go_quiet (fail)
      go_wp2
      go_returns
      exact ⟨_, _, rfl, .inr ⟨gp, n, by rw [unhide HL1]; rfl, by rw [unhide HL1]; exact Nat.le_refl _, by unfold maxLen; omega, (unhide HP).of rfl, hgp'⟩, .inr ⟨gq, n, by rw [unhide HL2]; rfl, by rw [unhide HL2]; exact Nat.le_refl _, by unfold maxLen; omega, (unhide HQ).of rfl, hgq'⟩, below_drewN5 (unhide HB3) _⟩
    · have HNO : Hid (okP l = false) := by
        show _ = _
        unfold okP
        rw [not_evn (by rw [unhide HN]; exact hi) (by rw [unhide HN]; exact hj) hne, Bool.and_false]
      clear hi hj hne
      unfold zsv
      go_wp2_with fail
      have HB3 := hide ((unhide HB2).trans ((Below.refl _ w2).alloc (Nat.le_refl _) (.cells #[.int .i64 0, .slice none 0 0, .slice none 0 0] 105) |>.mono (unhide HB2).size))
      go_returns
      exact ⟨_, _, rfl, .inl ⟨by simp [pP, unhide HNO], rfl⟩, .inl ⟨by simp [pQ, unhide HNO], rfl⟩, unhide HB3⟩
  · have HNO : Hid (okP l = false) := by
      show _ = _
      unfold okP
      rw [unhide HN]
      simp
      intro h1 h2
      exact absurd ⟨h1, h2⟩ hd
    refine (sumsOf_not _ ⟨_, _, rfl⟩ (N : Int) (by omega) w1).mono ?_
    rintro e w2 ⟨rfl, hk⟩
    have HB2 := hide ((unhide HB1).trans (hk.mono (unhide HB1).size))
    clear hk hd
    unfold zsv
    go_wp2_with fail
    have HB3 := hide ((unhide HB2).trans ((Below.refl _ w2).alloc (Nat.le_refl _) (.cells #[.int .i64 0, .slice none 0 0, .slice none 0 0] 105) |>.mono (unhide HB2).size))
    go_returns
    exact ⟨_, _, rfl, .inl ⟨by simp [pP, unhide HNO], rfl⟩, .inl ⟨by simp [pQ, unhide HNO], rfl⟩, unhide HB3⟩

set_option maxRecDepth 100000 in
set_option maxHeartbeats 4000000 in
theorem check_any5 (v : Value) (G : Nat) (A : Nat → Option Addr) (C : Nat → Nat) (l : List (List Nat)) (w : World) (hA : RArg w v G A C l) (hlen : ∀ i, (l.getD i []).length ≤ 100000) :
    Calls Tryz.prog 43 #[v] w fun e w' => e = .returned (.bool (chk l)) ∧ Below w.heap.size w w' := by
  obtain ⟨ao, c, hv, hc1, hc2, hnil, hrow⟩ := hA.ex
  have HA := hide hA
  have HLEN := hide hlen
  have HROW := hide hrow
  clear hrow hlen hA hnil
  subst hv
  obtain ⟨N, hN⟩ : ∃ N, l.length = N := ⟨_, rfl⟩
  rw [hN] at hc1 ⊢
  have HN := hide hN
  clear hN
  have hNm : (N : Int) ≤ 9223372036854775807 := by unfold maxLen at hc2; omega
  go_enter Tryz.func43, Tryz.ntmps43
  go_wp2_with fail
  refine (all_any5 _ w ⟨_, _, _, rfl⟩).mono ?_
  rintro e w1 ⟨rfl, hcb, hlt, hk⟩
  have HB1 := hide hk
  have HCB := hide hcb
  clear hk hcb
  by_cases hd : 4 ≤ N ∧ N ≤ 16
  · obtain ⟨hd1, hd2⟩ := hd
    have e2 : (N : Int) - 2 = ((N - 2 : Nat) : Int) := by omega
    obtain ⟨d, hdd⟩ : ∃ d, N - 2 = d := ⟨_, rfl⟩
    rw [hdd] at e2
    have HDD := hide hdd
    have hd3 : 2 ≤ d ∧ d ≤ 14 := by omega
    obtain ⟨hd3, hd4⟩ := hd3
    clear hdd
    go_wp2_with fail
    (try rw [e2])
    have hseq : Seq5 90 _ N A (fun i => (l.getD i []).length) C (fun _ => true) w1 := all_seq (by omega) (unhide HCB) (by have h := unhide HROW; rw [unhide HN] at h; exact h.below (unhide HB1))
    refine (sumsOf_any _ _ N A C (fun _ => true) l d w1 hseq (fun i hi => by obtain ⟨g, hg⟩ := (unhide HA).rows i (by rw [unhide HN]; exact hi); exact ⟨g, hg.below (unhide HB1)⟩) (unhide HA).bs hd3 hd4 (by omega) ⟨0, by omega, rfl⟩ (unhide HLEN)).mono ?_
    clear hseq
    rintro e w2 ⟨hk, h⟩
    have HB2 := hide ((unhide HB1).trans (hk.mono (unhide HB1).size))
    clear hk
    rcases h with ⟨n, gp, gq, rfl, hn, hpq, hgp, hgq, hP, hQ⟩ | ⟨rfl, i, j, hi, hj, _, _, hne⟩
    · have hev : evn l := evn_of (n := n) (fun i hi => hn i (by rw [← unhide HN]; exact hi) rfl)
      have hsz : size l = n := hn 0 (by omega) rfl
      have HOK : Hid (okC l = true) := by show _ = _; unfold okC; rw [(evn_iff l).2 hev, unhide HN]; simp; omega
      rw [filter_true] at hP hQ
      have hP' : Blk w2 gp (allP l) := by unfold allP; rw [unhide HN, unhide HDD, hsz]; exact hP
      have hQ' : Blk w2 gq (allQ l) := by unfold allQ; rw [unhide HN, unhide HDD, hsz]; exact hQ
      have hn5 : n ≤ 100000 := by rw [← hsz]; exact unhide HLEN 0
      have hl1 : (allP l).length = n := by unfold allP; rw [smL_len, hsz]
      have hl2 : (allQ l).length = n := by unfold allQ; rw [smL_len, hsz]
      have hA1 : Arg w2 (.slice (some ⟨gp, 0, none⟩) n n) gp (allP l) := by
        have := hP'.arg (c := n) (smL_bs (unhide HA).bs) (by rw [hl1]; exact Nat.le_refl _) (by unfold maxLen; omega)
        rwa [hl1] at this
      have hA2 : Arg w2 (.slice (some ⟨gq, 0, none⟩) n n) gq (allQ l) := by
        have := hQ'.arg (c := n) (smL_bs (unhide HA).bs) (by rw [hl2]; exact Nat.le_refl _) (by unfold maxLen; omega)
        rwa [hl2] at this
      have HA1 := hide hA1
      have HA2 := hide hA2
      clear hn hev hsz hP hQ hpq hgp hgq hP' hQ' hl1 hl2 hA1 hA2
      unfold sv
      go_wp2_with fail
      have hk3 : Below w2.heap.size w2 (w2.alloc (.cells #[.int .i64 (d : Int), .slice (some ⟨gp, 0, none⟩) n n, .slice (some ⟨gq, 0, none⟩) n n] 105)) := (Below.refl _ w2).alloc (Nat.le_refl _) _
      have HB3 := hide ((unhide HB2).trans (hk3.mono (unhide HB2).size))
      replace HA1 := hide ((unhide HA1).below hk3)
      replace HA2 := hide ((unhide HA2).below hk3)
      obtain ⟨hb0, hb1, hb2⟩ := sums_box w2 d (.slice (some ⟨gp, 0, none⟩) n n) (.slice (some ⟨gq, 0, none⟩) n n)
      clear hk3
      generalize w2.alloc (.cells #[.int .i64 (d : Int), .slice (some ⟨gp, 0, none⟩) n n, .slice (some ⟨gq, 0, none⟩) n n] 105) = w3 at HB3 HA1 HA2 hb0 hb1 hb2 ⊢
      refine (nought_any _ gp _ w3 (unhide HA1)).mono ?_
      rintro e w4 ⟨rfl, hw4⟩
      subst hw4
      cases h1 : nil0 (allP l) with
      | false =>
        have HR : Hid (chk l = false) := by show _ = _; unfold chk; rw [h1]; simp
        clear h1
        go_wp2
        go_ret
        rw [unhide HR]
        exact ⟨rfl, unhide HB3⟩
      | true =>
        have HR : Hid (chk l = nil0 (allQ l)) := by show _ = _; unfold chk; rw [h1, unhide HOK]; simp
        clear h1
        go_wp2_with fail
        refine (nought_any _ gq _ _ (unhide HA2)).mono ?_
        rintro e w5 ⟨rfl, hw5⟩
        subst hw5
        go_wp2
        go_ret
        rw [unhide HR]
        exact ⟨by simp, unhide HB3⟩
    · have HNO : Hid (chk l = false) := by
        show _ = _
        unfold chk okC
        rw [not_evn (by rw [unhide HN]; exact hi) (by rw [unhide HN]; exact hj) hne]
        simp
      clear hi hj hne
      unfold zsv
      go_wp2_with fail
      have HB3 := hide ((unhide HB2).trans ((Below.refl _ w2).alloc (Nat.le_refl _) (.cells #[.int .i64 0, .slice none 0 0, .slice none 0 0] 105) |>.mono (unhide HB2).size))
      go_ret
      rw [unhide HNO]
      exact ⟨rfl, unhide HB3⟩
  · have HNO : Hid (chk l = false) := by
      show _ = _
      unfold chk okC
      rw [unhide HN]
      simp
      intro h1 h2
      exact absurd ⟨h1, h2⟩ hd
    go_wp2_with fail
    refine (sumsOf_not _ ⟨_, _, rfl⟩ ((N : Int) - 2) (by omega) w1).mono ?_
    rintro e w2 ⟨rfl, hk⟩
    have HB2 := hide ((unhide HB1).trans (hk.mono (unhide HB1).size))
    clear hk hd
    unfold zsv
    go_wp2_with fail
    have HB3 := hide ((unhide HB2).trans ((Below.refl _ w2).alloc (Nat.le_refl _) (.cells #[.int .i64 0, .slice none 0 0, .slice none 0 0] 105) |>.mono (unhide HB2).size))
    go_ret
    rw [unhide HNO]
    exact ⟨rfl, unhide HB3⟩

end Go.Proofs.YtjdikhelabibnabGreat
