/-
  rs.nought, rs.Parity, rs.Check.
  The laws' own within and Data.
  Rows of rows that the call owns: append; the laws' Rows, Few, same, known.
  The laws' own known, Few, same.
-/
import Derived.Test.YtjdikhelabibnabGreatMal
import Derived.Test.YtjdikhelabibnabGreatMai
import Derived.Test.YtjdikhelabibnabGreatMag
import Derived.Test.YtjdikhelabibnabGreatMah
import Derived.Test.YtjdikhelabibnabGreatMak
namespace Go.Proofs.YtjdikhelabibnabGreat
open Go.RowKit Go.Shelf

set_option maxHeartbeats 1000000 in
theorem nought1_any (x : Nat) (w : World) : Calls Tryz.prog 100 #[.int .u8 (x : Int)] w fun e w' => e = .returned (.bool ((x : Int) != 0)) ∧ w' = w := by
  go_enter Tryz.func100, Tryz.ntmps100
  go_wp2
  go_ret
  exact ⟨rfl, rfl⟩

set_option maxRecDepth 100000 in
set_option maxHeartbeats 2000000 in
theorem ifb_any (v : Value) (g : Nat) (s : List Nat) (w : World) (hA : Arg w v g s) :
    Calls Tryz.prog 128 #[v, .func (.func 100) #[] #[]] w fun e w' => ∃ r : Int, e = .returned (.int .i64 r) ∧ w' = w ∧ ((r = -1 ∧ nil0 s = true) ∨ (0 ≤ r ∧ nil0 s = false)) := by
  obtain ⟨⟨ao, c, rfl, hc1, hc2, hnil, hr⟩, hbs⟩ := hA
  have HR := hide hr
  have HBS := hide hbs
  obtain ⟨n, hn⟩ : ∃ n, s.length = n := ⟨_, rfl⟩
  rw [hn] at hc1 ⊢
  have HN := hide hn
  have hnm : (n : Int) ≤ 9223372036854775807 := by unfold maxLen at hc2; omega
  clear hr hnil hn hbs
  go_enter Tryz.func128, Tryz.ntmps128
  go_wp2_with fail
  go_loop [8] (fun p => ∃ i : Nat, p = .int .i64 i ∧ i ≤ n ∧ ∀ k, k < i → cf s k = 0) (fun p => n - (intOf p).toNat)
  case atStart => exact ⟨0, rfl, by omega, by simp⟩
  case round =>
    obtain ⟨i, rfl, hi, hz⟩ := hrel
    have HZ := hide hz
    clear hz
    by_cases hlt : i < n
    · have hi1 : (i : Int) < (n : Int) := by omega
      obtain ⟨o, rfl⟩ := row_some (unhide HR) (by rw [unhide HN]; omega)
      have hc := row_cell (unhide HR) (j := i) (by rw [unhide HN]; exact hlt)
      obtain ⟨y, hy⟩ : ∃ y, cf s i = y := ⟨_, rfl⟩
      have HY := hide hy
      rw [hy] at hc
      clear hy
      go_wp2_with fail
      refine (nought1_any y w).mono ?_
      rintro e w' ⟨rfl, hw'⟩
      subst hw'
      by_cases h0 : y = 0
      · have e1 : ((y : Int) != 0) = false := by rw [h0]; rfl
        have H0 := hide h0
        clear h0
        go_wp2_with fail
        go_round
        case rel => exact ⟨i + 1, by go_num, by omega, fun k hk => by
          by_cases e : k = i
          · rw [e, unhide HY]; exact unhide H0
          · exact unhide HZ k (by omega)⟩
        case measure => simp [intOf]; omega
      · have e1 : ((y : Int) != 0) = true := by rw [bne_iff_ne]; omega
        have H0 := hide h0
        clear h0
        go_wp2_with fail
        go_ret
        refine ⟨i, rfl, rfl, .inr ⟨by omega, ?_⟩⟩
        cases hnl : nil0 s with
        | false => rfl
        | true => exact absurd ((unhide HY).symm.trans ((nil0_iff s).1 hnl i (by rw [unhide HN]; exact hlt))) (unhide H0)
    · have hi2 : i = n := by omega
      subst hi2
      go_wp2
      go_ret
      exact ⟨-1, rfl, rfl, .inl ⟨rfl, (nil0_iff s).2 (fun k hk => unhide HZ k (by rw [← unhide HN]; exact hk))⟩⟩

set_option maxHeartbeats 1000000 in
theorem cfb_any (v : Value) (g : Nat) (s : List Nat) (w : World) (hA : Arg w v g s) :
    Calls Tryz.prog 99 #[v, .func (.func 100) #[] #[]] w fun e w' => e = .returned (.bool (!nil0 s)) ∧ w' = w := by
  obtain ⟨ao, c, hv, _⟩ := hA.ex
  have HA := hide hA
  subst hv
  clear hA
  go_enter Tryz.func99, Tryz.ntmps99
  go_wp2_with fail
  refine (ifb_any _ g s w (unhide HA)).mono ?_
  rintro e w' ⟨r, rfl, rfl, h⟩
  rcases h with ⟨hr, hz⟩ | ⟨hr, hz⟩
  · subst hr
    have HD := hide hz
    clear hz
    go_wp2
    go_ret
    rw [unhide HD]
    exact ⟨rfl, rfl⟩
  · have HD := hide hz
    clear hz
    go_wp2
    go_ret
    rw [unhide HD]
    exact ⟨rfl, rfl⟩

set_option maxHeartbeats 1000000 in
theorem nought_any (v : Value) (g : Nat) (s : List Nat) (w : World) (hA : Arg w v g s) :
    Calls Tryz.prog 63 #[v] w fun e w' => e = .returned (.bool (nil0 s)) ∧ w' = w := by
  obtain ⟨ao, c, hv, _⟩ := hA.ex
  have HA := hide hA
  subst hv
  clear hA
  go_enter Tryz.func63, Tryz.ntmps63
  go_wp2_with fail
  refine (cfb_any _ g s w (unhide HA)).mono ?_
  rintro e w' ⟨rfl, rfl⟩
  go_wp2
  go_ret
  exact ⟨by simp, rfl⟩

theorem below_drewN5 {n : Nat} {a w : World} (h : Below n a w) (m : Nat) : Below n a (w.drewN m) := ⟨h.os, h.tape, h.output, h.size, h.block⟩

theorem filter_true (N : Nat) : (List.range N).filter (fun _ => true) = List.range N := List.filter_eq_self.2 (fun _ _ => rfl)

theorem RArg.slice {w : World} {v : Value} {G : Nat} {A : Nat → Option Addr} {C : Nat → Nat} {l : List (List Nat)} (h : RArg w v G A C l) : ∃ ao n c, v = .slice ao n c := by
  obtain ⟨ao, c, h1, _⟩ := h.ex
  exact ⟨ao, _, c, h1⟩

set_option maxRecDepth 100000 in
set_option maxHeartbeats 4000000 in
theorem parity_any (v : Value) (G : Nat) (A : Nat → Option Addr) (C : Nat → Nat) (l : List (List Nat)) (w : World) (hA : RArg w v G A C l) (hlen : ∀ i, (l.getD i []).length ≤ 100000) :
    Calls Tryz.prog 28 #[v] w fun e w' => ∃ v1 v2, e = .returned (.tuple #[v1, v2]) ∧ Fr w.heap.size w' v1 (pP l) ∧ Fr w.heap.size w' v2 (pQ l) ∧ Below w.heap.size w w' := by
  obtain ⟨ao, c, hv, hc1, hc2, hnil, hrow⟩ := hA.ex
  have HA := hide hA
  have HLEN := hide hlen
  have HROW := hide hrow
  clear hrow hlen hA hnil
  subst hv
  obtain ⟨N, hN⟩ : ∃ N, l.length = N := ⟨_, rfl⟩
  rw [hN] at hc1 ⊢
  have HN := hide hN
  clear hN
  have hNm : (N : Int) ≤ 9223372036854775807 := by unfold maxLen at hc2; omega
  go_enter Tryz.func28, Tryz.ntmps28
  go_wp2_with fail
  refine (all_any5 _ w ⟨_, _, _, rfl⟩).mono ?_
  rintro e w1 ⟨rfl, hcb, hlt, hk⟩
  have HB1 := hide hk
  have HCB := hide hcb
  clear hk hcb
  go_wp2_with fail
  by_cases hd : 2 ≤ N ∧ N ≤ 14
  · obtain ⟨hd1, hd2⟩ := hd
    have hseq : Seq5 90 _ N A (fun i => (l.getD i []).length) C (fun _ => true) w1 := all_seq (by omega) (unhide HCB) (by have h := unhide HROW; rw [unhide HN] at h; exact h.below (unhide HB1))
    refine (sumsOf_any _ _ N A C (fun _ => true) l N w1 hseq (fun i hi => by obtain ⟨g, hg⟩ := (unhide HA).rows i (by rw [unhide HN]; exact hi); exact ⟨g, hg.below (unhide HB1)⟩) (unhide HA).bs hd1 hd2 (by omega) ⟨0, by omega, rfl⟩ (unhide HLEN)).mono ?_
    clear hseq
    rintro e w2 ⟨hk, h⟩
    have HB2 := hide ((unhide HB1).trans (hk.mono (unhide HB1).size))
    clear hk
    rcases h with ⟨n, gp, gq, rfl, hn, hpq, hgp, hgq, hP, hQ⟩ | ⟨rfl, i, j, hi, hj, _, _, hne⟩
    · have hev : evn l := evn_of (n := n) (fun i hi => hn i (by rw [← unhide HN]; exact hi) rfl)
      have hsz : size l = n := hn 0 (by omega) rfl
      have HOK : Hid (okP l = true) := by show _ = _; unfold okP; rw [(evn_iff l).2 hev, unhide HN]; simp; omega
      rw [filter_true] at hP hQ
      have HP : Hid (Blk w2 gp (pP l)) := by show Blk _ _ _; unfold pP; rw [if_pos (unhide HOK), ← smL_parP, unhide HN, hsz]; exact hP
      have HQ : Hid (Blk w2 gq (pQ l)) := by show Blk _ _ _; unfold pQ; rw [if_pos (unhide HOK), ← smL_parQ, unhide HN, hsz]; exact hQ
      have HL1 : Hid ((pP l).length = n) := by show _ = _; unfold pP; rw [if_pos (unhide HOK), parP, smL_len, hsz]
      have HL2 : Hid ((pQ l).length = n) := by show _ = _; unfold pQ; rw [if_pos (unhide HOK), parQ, smL_len, hsz]
      have hn5 : n ≤ 100000 := by rw [← hsz]; exact unhide HLEN 0
      have hgp' : w.heap.size ≤ gp := by omega
      have hgq' : w.heap.size ≤ gq := by omega
      clear hn hev hsz hP hQ hpq hgp hgq
      unfold sv
      go_wp2_with fail
      have HB3 := hide ((unhide HB2).trans ((Below.refl _ w2).alloc (Nat.le_refl _) (.cells #[.int .i64 (N : Int), .slice (some ⟨gp, 0, none⟩) n n, .slice (some ⟨gq, 0, none⟩) n n] 105) |>.mono (unhide HB2).size))
      replace HP := hide ((unhide HP).below ((Below.refl _ w2).alloc (Nat.le_refl _) (.cells #[.int .i64 (N : Int), .slice (some ⟨gp, 0, none⟩) n n, .slice (some ⟨gq, 0, none⟩) n n] 105)) (unhide HP).lt)
      replace HQ := hide ((unhide HQ).below ((Below.refl _ w2).alloc (Nat.le_refl _) (.cells #[.int .i64 (N : Int), .slice (some ⟨gp, 0, none⟩) n n, .slice (some ⟨gq, 0, none⟩) n n] 105)) (unhide HQ).lt)
      obtain ⟨hb0, hb1, hb2⟩ := sums_box w2 N (.slice (some ⟨gp, 0, none⟩) n n) (.slice (some ⟨gq, 0, none⟩) n n)
      generalize w2.alloc (.cells #[.int .i64 (N : Int), .slice (some ⟨gp, 0, none⟩) n n, .slice (some ⟨gq, 0, none⟩) n n] 105) = w3 at HB3 HP HQ hb0 hb1 hb2 ⊢
      go_quiet (fail)
      go_wp2
      go_returns
      exact ⟨_, _, rfl, .inr ⟨gp, n, by rw [unhide HL1]; rfl, by rw [unhide HL1]; exact Nat.le_refl _, by unfold maxLen; omega, (unhide HP).of rfl, hgp'⟩, .inr ⟨gq, n, by rw [unhide HL2]; rfl, by rw [unhide HL2]; exact Nat.le_refl _, by unfold maxLen; omega, (unhide HQ).of rfl, hgq'⟩, below_drewN5 (unhide HB3) _⟩
    · have HNO : Hid (okP l = false) := by
        show _ = _
        unfold okP
        rw [not_evn (by rw [unhide HN]; exact hi) (by rw [unhide HN]; exact hj) hne, Bool.and_false]
      clear hi hj hne
      unfold zsv
      go_wp2_with fail
      have HB3 := hide ((unhide HB2).trans ((Below.refl _ w2).alloc (Nat.le_refl _) (.cells #[.int .i64 0, .slice none 0 0, .slice none 0 0] 105) |>.mono (unhide HB2).size))
      go_returns
      exact ⟨_, _, rfl, .inl ⟨by simp [pP, unhide HNO], rfl⟩, .inl ⟨by simp [pQ, unhide HNO], rfl⟩, unhide HB3⟩
  · have HNO : Hid (okP l = false) := by
      show _ = _
      unfold okP
      rw [unhide HN]
      simp
      intro h1 h2
      exact absurd ⟨h1, h2⟩ hd
    refine (sumsOf_not _ ⟨_, _, rfl⟩ (N : Int) (by omega) w1).mono ?_
    rintro e w2 ⟨rfl, hk⟩
    have HB2 := hide ((unhide HB1).trans (hk.mono (unhide HB1).size))
    clear hk hd
    unfold zsv
    go_wp2_with fail
    have HB3 := hide ((unhide HB2).trans ((Below.refl _ w2).alloc (Nat.le_refl _) (.cells #[.int .i64 0, .slice none 0 0, .slice none 0 0] 105) |>.mono (unhide HB2).size))
    go_returns
    exact ⟨_, _, rfl, .inl ⟨by simp [pP, unhide HNO], rfl⟩, .inl ⟨by simp [pQ, unhide HNO], rfl⟩, unhide HB3⟩

set_option maxRecDepth 100000 in
set_option maxHeartbeats 4000000 in
theorem check_any5 (v : Value) (G : Nat) (A : Nat → Option Addr) (C : Nat → Nat) (l : List (List Nat)) (w : World) (hA : RArg w v G A C l) (hlen : ∀ i, (l.getD i []).length ≤ 100000) :
    Calls Tryz.prog 43 #[v] w fun e w' => e = .returned (.bool (chk l)) ∧ Below w.heap.size w w' := by
  obtain ⟨ao, c, hv, hc1, hc2, hnil, hrow⟩ := hA.ex
  have HA := hide hA
  have HLEN := hide hlen
  have HROW := hide hrow
  clear hrow hlen hA hnil
  subst hv
  obtain ⟨N, hN⟩ : ∃ N, l.length = N := ⟨_, rfl⟩
  rw [hN] at hc1 ⊢
  have HN := hide hN
  clear hN
  have hNm : (N : Int) ≤ 9223372036854775807 := by unfold maxLen at hc2; omega
  go_enter Tryz.func43, Tryz.ntmps43
  go_wp2_with fail
  refine (all_any5 _ w ⟨_, _, _, rfl⟩).mono ?_
  rintro e w1 ⟨rfl, hcb, hlt, hk⟩
  have HB1 := hide hk
  have HCB := hide hcb
  clear hk hcb
  by_cases hd : 4 ≤ N ∧ N ≤ 16
  · obtain ⟨hd1, hd2⟩ := hd
    have e2 : (N : Int) - 2 = ((N - 2 : Nat) : Int) := by omega
    obtain ⟨d, hdd⟩ : ∃ d, N - 2 = d := ⟨_, rfl⟩
    rw [hdd] at e2
    have HDD := hide hdd
    have hd3 : 2 ≤ d ∧ d ≤ 14 := by omega
    obtain ⟨hd3, hd4⟩ := hd3
    clear hdd
    go_wp2_with fail
    (try rw [e2])
    have hseq : Seq5 90 _ N A (fun i => (l.getD i []).length) C (fun _ => true) w1 := all_seq (by omega) (unhide HCB) (by have h := unhide HROW; rw [unhide HN] at h; exact h.below (unhide HB1))
    refine (sumsOf_any _ _ N A C (fun _ => true) l d w1 hseq (fun i hi => by obtain ⟨g, hg⟩ := (unhide HA).rows i (by rw [unhide HN]; exact hi); exact ⟨g, hg.below (unhide HB1)⟩) (unhide HA).bs hd3 hd4 (by omega) ⟨0, by omega, rfl⟩ (unhide HLEN)).mono ?_
    clear hseq
    rintro e w2 ⟨hk, h⟩
    have HB2 := hide ((unhide HB1).trans (hk.mono (unhide HB1).size))
    clear hk
    rcases h with ⟨n, gp, gq, rfl, hn, hpq, hgp, hgq, hP, hQ⟩ | ⟨rfl, i, j, hi, hj, _, _, hne⟩
    · have hev : evn l := evn_of (n := n) (fun i hi => hn i (by rw [← unhide HN]; exact hi) rfl)
      have hsz : size l = n := hn 0 (by omega) rfl
      have HOK : Hid (okC l = true) := by show _ = _; unfold okC; rw [(evn_iff l).2 hev, unhide HN]; simp; omega
      rw [filter_true] at hP hQ
      have hP' : Blk w2 gp (allP l) := by unfold allP; rw [unhide HN, unhide HDD, hsz]; exact hP
      have hQ' : Blk w2 gq (allQ l) := by unfold allQ; rw [unhide HN, unhide HDD, hsz]; exact hQ
      have hn5 : n ≤ 100000 := by rw [← hsz]; exact unhide HLEN 0
      have hl1 : (allP l).length = n := by unfold allP; rw [smL_len, hsz]
      have hl2 : (allQ l).length = n := by unfold allQ; rw [smL_len, hsz]
      have hA1 : Arg w2 (.slice (some ⟨gp, 0, none⟩) n n) gp (allP l) := by
        have := hP'.arg (c := n) (smL_bs (unhide HA).bs) (by rw [hl1]; exact Nat.le_refl _) (by unfold maxLen; omega)
        rwa [hl1] at this
      have hA2 : Arg w2 (.slice (some ⟨gq, 0, none⟩) n n) gq (allQ l) := by
        have := hQ'.arg (c := n) (smL_bs (unhide HA).bs) (by rw [hl2]; exact Nat.le_refl _) (by unfold maxLen; omega)
        rwa [hl2] at this
      have HA1 := hide hA1
      have HA2 := hide hA2
      clear hn hev hsz hP hQ hpq hgp hgq hP' hQ' hl1 hl2 hA1 hA2
      unfold sv
      go_wp2_with fail
      have hk3 : Below w2.heap.size w2 (w2.alloc (.cells #[.int .i64 (d : Int), .slice (some ⟨gp, 0, none⟩) n n, .slice (some ⟨gq, 0, none⟩) n n] 105)) := (Below.refl _ w2).alloc (Nat.le_refl _) _
      have HB3 := hide ((unhide HB2).trans (hk3.mono (unhide HB2).size))
      replace HA1 := hide ((unhide HA1).below hk3)
      replace HA2 := hide ((unhide HA2).below hk3)
      obtain ⟨hb0, hb1, hb2⟩ := sums_box w2 d (.slice (some ⟨gp, 0, none⟩) n n) (.slice (some ⟨gq, 0, none⟩) n n)
      clear hk3
      generalize w2.alloc (.cells #[.int .i64 (d : Int), .slice (some ⟨gp, 0, none⟩) n n, .slice (some ⟨gq, 0, none⟩) n n] 105) = w3 at HB3 HA1 HA2 hb0 hb1 hb2 ⊢
      refine (nought_any _ gp _ w3 (unhide HA1)).mono ?_
      rintro e w4 ⟨rfl, hw4⟩
      subst hw4
      cases h1 : nil0 (allP l) with
      | false =>
        have HR : Hid (chk l = false) := by show _ = _; unfold chk; rw [h1]; simp
        clear h1
        go_wp2
        go_ret
        rw [unhide HR]
        exact ⟨rfl, unhide HB3⟩
      | true =>
        have HR : Hid (chk l = nil0 (allQ l)) := by show _ = _; unfold chk; rw [h1, unhide HOK]; simp
        clear h1
        go_wp2_with fail
        refine (nought_any _ gq _ _ (unhide HA2)).mono ?_
        rintro e w5 ⟨rfl, hw5⟩
        subst hw5
        go_wp2
        go_ret
        rw [unhide HR]
        exact ⟨by simp, unhide HB3⟩
    · have HNO : Hid (chk l = false) := by
        show _ = _
        unfold chk okC
        rw [not_evn (by rw [unhide HN]; exact hi) (by rw [unhide HN]; exact hj) hne]
        simp
      clear hi hj hne
      unfold zsv
      go_wp2_with fail
      have HB3 := hide ((unhide HB2).trans ((Below.refl _ w2).alloc (Nat.le_refl _) (.cells #[.int .i64 0, .slice none 0 0, .slice none 0 0] 105) |>.mono (unhide HB2).size))
      go_ret
      rw [unhide HNO]
      exact ⟨rfl, unhide HB3⟩
  · have HNO : Hid (chk l = false) := by
      show _ = _
      unfold chk okC
      rw [unhide HN]
      simp
      intro h1 h2
      exact absurd ⟨h1, h2⟩ hd
    go_wp2_with fail
    refine (sumsOf_not _ ⟨_, _, rfl⟩ ((N : Int) - 2) (by omega) w1).mono ?_
    rintro e w2 ⟨rfl, hk⟩
    have HB2 := hide ((unhide HB1).trans (hk.mono (unhide HB1).size))
    clear hk hd
    unfold zsv
    go_wp2_with fail
    have HB3 := hide ((unhide HB2).trans ((Below.refl _ w2).alloc (Nat.le_refl _) (.cells #[.int .i64 0, .slice none 0 0, .slice none 0 0] 105) |>.mono (unhide HB2).size))
    go_ret
    rw [unhide HNO]
    exact ⟨rfl, unhide HB3⟩

end Go.Proofs.YtjdikhelabibnabGreat

namespace Go.Proofs.YtjdikhelabibnabGreat
open Go.RowKit

end Go.Proofs.YtjdikhelabibnabGreat

namespace Go.Proofs.YtjdikhelabibnabGreat
open Go.RowKit

/-- Slices as values: of each its address and capacity, its bytes. -/
def vals5 (ps : List (Option Addr × Nat)) (l : List (List Nat)) : List Value := List.zipWith (fun p r => Value.slice p.1 r.length p.2) ps l
def psA (ps : List (Option Addr × Nat)) (i : Nat) : Option Addr := (ps.getD i (none, 0)).1
def psC (ps : List (Option Addr × Nat)) (i : Nat) : Nat := (ps.getD i (none, 0)).2
theorem vals_len {ps : List (Option Addr × Nat)} {l : List (List Nat)} (h : ps.length = l.length) : (vals5 ps l).length = l.length := by simp [vals5, h]
theorem vals_get {ps : List (Option Addr × Nat)} {l : List (List Nat)} (h : ps.length = l.length) {i : Nat} (hi : i < l.length) : (vals5 ps l)[i]? = some (.slice (psA ps i) (l.getD i []).length (psC ps i)) := by
  unfold vals5 psA psC
  rw [List.getElem?_zipWith, List.getD_eq_getElem?_getD, List.getD_eq_getElem?_getD, List.getElem?_eq_getElem (by omega : i < ps.length), List.getElem?_eq_getElem hi]
  rfl
theorem vals_one (ps : List (Option Addr × Nat)) (l : List (List Nat)) : ∀ u ∈ vals5 ps l, u.oneCell' = true := by
  intro u hu
  unfold vals5 at hu
  rw [List.mem_iff_getElem] at hu
  obtain ⟨i, hi, rfl⟩ := hu
  rw [List.getElem_zipWith]
  rfl
theorem vals_snoc {ps : List (Option Addr × Nat)} {l : List (List Nat)} (h : ps.length = l.length) (a : Option Addr) (c : Nat) (r : List Nat) : vals5 (ps ++ [(a, c)]) (l ++ [r]) = vals5 ps l ++ [.slice a r.length c] := by
  unfold vals5
  rw [List.zipWith_append h]
  rfl

/-- The values news lie at ao. -/
def SrcV (w : World) (ao : Option Addr) (g : Nat) (news : List Value) : Prop := news = [] ∨ ∃ o, ao = some ⟨g, o, none⟩ ∧ ∀ j u, news[j]? = some u → w.cell? ⟨g, o + j, none⟩ = some u

section
variable {P : Program} (w : World)
theorem run_append_vals (base : Nat) (t ty e : TypeId) (i : TypeInfo) (ht : P.underlying t = some (.slice e)) (hi : P.info? e = some i) (hz : i.zero = some (.slice none 0 0)) (hsize : i.size = 1) (hby : i.bytes = 24)
    (v : Value) (n : Nat) (xs : List Value) (hown : w.ownsRow base e 1 v n xs) (ao : Option Addr) (g m c : Nat) (news : List Value) (hl : news.length = m) (hsrc : SrcV w ao g news) (hone : ∀ u ∈ news, u.oneCell' = true) (hnil : ao = none → m = 0 ∧ c = 0)
    (hb : n + m ≤ 1000000) (hbase : base ≤ w.heap.size) :
    ∃ v' w', (Builtin.append_ #[t, t] ty #[v, .slice ao m c]).run P w = .ok v' w' ∧ w'.ownsRow base e 1 v' (n + m) (xs ++ news) ∧ w.grownBy w' v.ownBlock := by
  cases ao with
  | none =>
    obtain ⟨rfl, rfl⟩ := hnil rfl
    have hz0 : news = [] := List.eq_nil_of_length_eq_zero hl
    subst hz0
    exact ⟨v, w, run_append_owned_none (P := P) w base t ty e i 1 ht hi v n xs hown, by simpa using hown, World.grownBy.refl _ _⟩
  | some ad =>
    obtain ⟨v', w', h1, h2, h3, _⟩ := run_append_own (P := P) w base t ty e i (.slice none 0 0) 1 24 ht hi hz hsize hby rfl (by decide) v n xs hown ad m c news (by simp [hl]) (by
      intro j u hu
      rcases hsrc with rfl | ⟨o, ho, hc⟩
      · simp at hu
      · cases ho
        rw [Addr.add_lit]
        exact hc j u hu) hone (by unfold maxLen; omega) (by omega) hbase
    exact ⟨v', w', h1, h2, h3⟩

theorem wpList_append_vals {ops : Array Oper} {rest : List Oper} {o : Oper} {a : Act} {Q : Exit → Act → World → Prop} (hgd : o.guard = none) (s x : Operand) (t : TypeId)
    (ho : o.op = .call { callee := .builtin .append, args := #[s, x], argTypes := #[t, t] })
    (base : Nat) (e : TypeId) (i : TypeInfo) (ht : P.underlying t = some (.slice e)) (hi : P.info? e = some i) (hz : i.zero = some (.slice none 0 0)) (hsize : i.size = 1) (hby : i.bytes = 24)
    (v : Value) (n : Nat) (xs : List Value) (hs : a.eval s = v) (hown : w.ownsRow base e 1 v n xs) (ao : Option Addr) (g m c : Nat) (news : List Value) (hx : a.eval x = .slice ao m c) (hl : news.length = m) (hsrc : SrcV w ao g news) (hone : ∀ u ∈ news, u.oneCell' = true)
    (hnil : ao = none → m = 0 ∧ c = 0) (hb : n + m ≤ 1000000) (hbase : base ≤ w.heap.size)
    (h : ∀ v' w', w'.ownsRow base e 1 v' (n + m) (xs ++ news) → w.grownBy w' v.ownBlock → wpList P ops Q rest (a.put o.dst v') w') : wpList P ops Q (o :: rest) a w := by
  refine wpList_plain hgd fun K hK => ?_
  obtain ⟨v', w', hr, h2, h3⟩ := run_append_vals (P := P) w base t o.type e i ht hi hz hsize hby v n xs hown ao g m c news hl hsrc hone hnil hb hbase
  unfold Oper.wp
  simp [execOp, ho, resolve, invoke, builtin, hs, hx, hr, Result.andThen]
  exact hK _ _ (h v' w' h2 h3)
end

theorem infoR : (Tryz.prog.info? 33).map (fun i => (i.zero, i.size, i.bytes)) = some (some (.slice none 0 0), 1, 24) := by kernel_rfl

/-- The call owns these rows' slices (the bytes themselves lie anywhere). -/
structure OwnR (base : Nat) (w : World) (v : Value) (ps : List (Option Addr × Nat)) (l : List (List Nat)) : Prop where
  len : ps.length = l.length
  own : w.ownsRow base 33 1 v l.length (vals5 ps l)
  rows : ∀ i, i < l.length → ∃ g, Arg w (.slice (psA ps i) (l.getD i []).length (psC ps i)) g (l.getD i [])

theorem OwnR.nil (base : Nat) (w : World) : OwnR base w (.slice none 0 0) [] [] := ⟨rfl, World.ownsRow_nil _ _ _ _, fun i hi => by simp at hi⟩
theorem OwnR.shape {base : Nat} {w : World} {v : Value} {ps : List (Option Addr × Nat)} {l : List (List Nat)} (h : OwnR base w v ps l) : (v = .slice none 0 0 ∧ l = []) ∨ ∃ g cap, v = .slice (some ⟨g, 0, none⟩) l.length cap ∧ base ≤ g ∧ g < w.heap.size ∧ l.length ≤ cap ∧ cap ≤ maxLen ∧
    (∃ cur, w.heap[g]? = some (.cells cur 33 (0, 0)) ∧ l.length ≤ cur.size) ∧ ∀ j, j < l.length → w.cell? ⟨g, j, none⟩ = some (.slice (psA ps j) (l.getD j []).length (psC ps j)) := by
  rcases h.own.2 with ⟨h', h0⟩ | ⟨g, cap, cur, h1, h2, h3, h4, h5, h6, h7⟩
  · exact .inl ⟨h', List.eq_nil_of_length_eq_zero h0⟩
  · refine .inr ⟨g, cap, h1, h2, (Array.getElem?_eq_some_iff.1 h3).1, h4, h5, ⟨cur, h3, by omega⟩, fun j hj => ?_⟩
    have e : (cur.toList.take (l.length * 1))[j]? = (vals5 ps l)[j]? := by rw [h7]
    rw [List.getElem?_take, if_pos (by omega), Array.getElem?_toList, vals_get h.len hj] at e
    simp [World.cell?, h3, e]
theorem OwnR.arg {base : Nat} {w : World} {v : Value} {ps : List (Option Addr × Nat)} {l : List (List Nat)} (h : OwnR base w v ps l) : ∃ G, RArg w v G (psA ps) (psC ps) l ∧ base ≤ G := by
  rcases h.shape with ⟨rfl, rfl⟩ | ⟨g, cap, rfl, h1, h2, h3, h4, _, h5⟩
  · exact ⟨base, ⟨⟨none, 0, rfl, by simp, by simp, fun _ => rfl, .inl rfl⟩, h.rows⟩, Nat.le_refl _⟩
  · exact ⟨g, ⟨⟨some ⟨g, 0, none⟩, cap, rfl, h3, h4, (fun h => by cases h), .inr ⟨0, rfl, fun j hj => by rw [Nat.zero_add]; exact h5 j hj⟩⟩, h.rows⟩, h1⟩
theorem OwnR.below {base : Nat} {w w' : World} {v : Value} {ps : List (Option Addr × Nat)} {l : List (List Nat)} (h : OwnR base w v ps l) (k : Below w.heap.size w w') : OwnR base w' v ps l := by
  refine ⟨h.len, ⟨h.own.1, ?_⟩, fun i hi => by obtain ⟨g, hg⟩ := h.rows i hi; exact ⟨g, hg.below k⟩⟩
  rcases h.own.2 with h' | ⟨g, cap, cur, h1, h2, h3, h4⟩
  · exact .inl h'
  · exact .inr ⟨g, cap, cur, h1, h2, (k.block g (lt_of_block h3)).trans h3, h4⟩
theorem getD_snoc {l : List (List Nat)} {r : List Nat} {i : Nat} (hi : i < l.length) : (l ++ [r]).getD i [] = l.getD i [] := by
  rw [List.getD_eq_getElem?_getD, List.getD_eq_getElem?_getD, List.getElem?_append_left hi]
theorem getD_last {l : List (List Nat)} {r : List Nat} : (l ++ [r]).getD l.length [] = r := by
  rw [List.getD_eq_getElem?_getD, List.getElem?_append_right (Nat.le_refl _)]
  simp
theorem ps_snoc {ps : List (Option Addr × Nat)} {a : Option Addr} {c i : Nat} (hi : i < ps.length) : psA (ps ++ [(a, c)]) i = psA ps i ∧ psC (ps ++ [(a, c)]) i = psC ps i := by
  unfold psA psC
  rw [List.getD_eq_getElem?_getD, List.getD_eq_getElem?_getD, List.getElem?_append_left hi]
  exact ⟨rfl, rfl⟩
theorem ps_last {ps : List (Option Addr × Nat)} {a : Option Addr} {c n : Nat} (hn : n = ps.length) : psA (ps ++ [(a, c)]) n = a ∧ psC (ps ++ [(a, c)]) n = c := by
  subst hn
  unfold psA psC
  rw [List.getD_eq_getElem?_getD, List.getElem?_append_right (Nat.le_refl _)]
  simp
/-- One row more. -/
theorem OwnR.snoc {base : Nat} {w w' : World} {v v' : Value} {ps : List (Option Addr × Nat)} {l : List (List Nat)} {a : Option Addr} {c : Nat} {r : List Nat} {n : Nat} (h : OwnR base w v ps l)
    (ho : w'.ownsRow base 33 1 v' (l.length + 1) (vals5 ps l ++ [.slice a n c])) (hrows : ∀ i, i < l.length → ∃ g, Arg w' (.slice (psA ps i) (l.getD i []).length (psC ps i)) g (l.getD i [])) (hn : r.length = n)
    (hr : ∃ g, Arg w' (.slice a n c) g r) : OwnR base w' v' (ps ++ [(a, c)]) (l ++ [r]) := by
  refine ⟨by simp [h.len], ?_, fun i hi => ?_⟩
  · rw [vals_snoc h.len, hn, List.length_append]
    exact ho
  · by_cases e : i < l.length
    · rw [getD_snoc e, (ps_snoc (by rw [h.len]; exact e)).1, (ps_snoc (by rw [h.len]; exact e)).2]
      exact hrows i e
    · have : i = l.length := by simp at hi; omega
      subst this
      rw [getD_last, (ps_last h.len.symm).1, (ps_last h.len.symm).2, hn]
      exact hr
theorem RArg.src {w : World} {ao : Option Addr} {m c G : Nat} {A : Nat → Option Addr} {C : Nat → Nat} {l : List (List Nat)} (h : RArg w (.slice ao m c) G A C l) : ∃ ps : List (Option Addr × Nat), ps.length = l.length ∧ SrcV w ao G (vals5 ps l) ∧ ∀ i, i < l.length → psA ps i = A i ∧ psC ps i = C i := by
  refine ⟨(List.range l.length).map (fun i => (A i, C i)), by simp, ?_, fun i hi => ?_⟩
  · obtain ⟨⟨ao', c', h1, h2, h3, h4, h5⟩, _⟩ := h
    cases h1
    rcases h5 with h0 | ⟨o, rfl, hc⟩
    · left
      exact List.eq_nil_of_length_eq_zero (by rw [vals_len (by simp), h0])
    · refine .inr ⟨o, rfl, fun j u hu => ?_⟩
      have hj : j < l.length := by
        have := (List.getElem?_eq_some_iff.1 hu).1
        rwa [vals_len (by simp)] at this
      rw [vals_get (by simp) hj] at hu
      cases hu
      rw [hc j hj]
      simp [psA, psC, List.getD_eq_getElem?_getD, hj]
  · simp [psA, psC, List.getD_eq_getElem?_getD, hi]
/-- One slice that was built. -/
theorem one_src (w : World) (a : Option Addr) (n c : Nat) : SrcV (w.alloc (.cells #[.slice a n c] 33)) (some ⟨w.heap.size, 0, none⟩) w.heap.size [.slice a n c] := by
  refine .inr ⟨0, rfl, fun j u hu => ?_⟩
  obtain ⟨hj, hu⟩ := List.getElem?_eq_some_iff.1 hu
  have : j = 0 := by simpa using hj
  subst this
  simp at hu
  rw [← hu]
  exact (cell_new' w _ _).1

theorem OwnR.row {base : Nat} {w : World} {v : Value} {ps : List (Option Addr × Nat)} {l : List (List Nat)} (h : OwnR base w v ps l) (k : Nat) (hk : v.ownBlock = some k) : base ≤ k := by
  rcases h.shape with ⟨h1, _⟩ | ⟨q, cq, h1, h2, _⟩
  · rw [h1] at hk; cases hk
  · rw [h1] at hk; cases hk; exact h2
theorem OwnR.mono {base base' : Nat} {w : World} {v : Value} {ps : List (Option Addr × Nat)} {l : List (List Nat)} (h : OwnR base w v ps l) (hb : base' ≤ base) : OwnR base' w v ps l := by
  refine ⟨h.len, ⟨h.own.1, ?_⟩, h.rows⟩
  rcases h.own.2 with h' | ⟨g, cap, cur, h1, h2, h3⟩
  · exact .inl h'
  · exact .inr ⟨g, cap, cur, h1, by omega, h3⟩
theorem Blk.part {w : World} {g a n c : Nat} {s : List Nat} (h : Blk w g s) (hb : Bs s) (h1 : a + n ≤ s.length) (h2 : n ≤ c) (h3 : c ≤ maxLen) : ((s.drop a).take n).length = n ∧ Arg w (.slice (some ⟨g, a, none⟩) n c) g ((s.drop a).take n) := by
  have hl : ((s.drop a).take n).length = n := by simp; omega
  refine ⟨hl, ⟨⟨some ⟨g, a, none⟩, c, by rw [hl], by rw [hl]; exact h2, h3, (fun h => by cases h), h.row⟩, fun k => ?_⟩⟩
  rw [cf_take]
  split
  · rw [cf_drop]; exact hb _
  · omega

end Go.Proofs.YtjdikhelabibnabGreat

namespace Go.Proofs.YtjdikhelabibnabGreat
open Go.RowKit

theorem known_rows (w : World) (W : World) (hW : ((w.alloc (.cells #[.int .u8 1] 5)).alloc (.cells #[.int .u8 2] 5)).alloc (.cells #[.slice (some ⟨w.heap.size, 0, none⟩) 1 1, .slice (some ⟨w.heap.size + 1, 0, none⟩) 1 1] 33) = W) :
    RArg W (.slice (some ⟨w.heap.size + 1 + 1, 0, none⟩) 2 2) (w.heap.size + 1 + 1) (psA [(some ⟨w.heap.size, 0, none⟩, 1), (some ⟨w.heap.size + 1, 0, none⟩, 1)]) (psC [(some ⟨w.heap.size, 0, none⟩, 1), (some ⟨w.heap.size + 1, 0, none⟩, 1)]) [[1], [2]] ∧ Below w.heap.size w W := by
  subst hW
  refine ⟨⟨⟨_, 2, rfl, by simp, by unfold maxLen; omega, (fun h => by cases h), .inr ⟨0, rfl, fun j hj => ?_⟩⟩, fun i hi => ?_⟩, (((Below.refl _ w).alloc (Nat.le_refl _) _).alloc (by simp) _).alloc (by simp only [World.size_alloc]; omega) _⟩
  · have h := World.alloc_heap_new ((w.alloc (.cells #[.int .u8 1] 5)).alloc (.cells #[.int .u8 2] 5)) (.cells #[.slice (some ⟨w.heap.size, 0, none⟩) 1 1, .slice (some ⟨w.heap.size + 1, 0, none⟩) 1 1] 33)
    rw [World.size_alloc, World.size_alloc] at h
    have hj2 : j = 0 ∨ j = 1 := by simp at hj; omega
    rcases hj2 with rfl | rfl
    · unfold World.cell?; rw [h]; rfl
    · unfold World.cell?; rw [h]; rfl
  · have hi2 : i = 0 ∨ i = 1 := by simp at hi; omega
    rcases hi2 with rfl | rfl
    · exact ⟨_, ((arg_one w 1 (by omega)).below ((Below.refl _ _).alloc (Nat.le_refl _) _)).below ((Below.refl _ _).alloc (Nat.le_refl _) _)⟩
    · have h := arg_one (w.alloc (.cells #[.int .u8 1] 5)) 2 (by omega)
      rw [World.size_alloc] at h
      exact ⟨_, h.below ((Below.refl _ _).alloc (Nat.le_refl _) _)⟩
theorem known_par : pP [[1], [2]] = [3] ∧ pQ [[1], [2]] = [5] := by decide +kernel

theorem Fr.one {n : Nat} {w : World} {v : Value} {x : Nat} (h : Fr n w v [x]) : ∃ g c, v = .slice (some ⟨g, 0, none⟩) 1 c ∧ w.cell? ⟨g, 0, none⟩ = some (.int .u8 (x : Int)) := by
  obtain ⟨g, c, h1, _, _, h2, _⟩ := h.blk (by simp)
  exact ⟨g, c, h1, h2.cell (j := 0) (by simp)⟩

/-- Rows that are not too much. -/
def few (l : List (List Nat)) : Bool := l.all (fun r => decide (r.length ≤ 60)) && decide (l.length ≤ 20)
theorem few_len {l : List (List Nat)} (h : few l = true) : l.length ≤ 20 ∧ ∀ i, (l.getD i []).length ≤ 100000 := by
  unfold few at h
  rw [Bool.and_eq_true, List.all_eq_true] at h
  refine ⟨of_decide_eq_true h.2, fun i => ?_⟩
  rw [List.getD_eq_getElem?_getD]
  by_cases hi : i < l.length
  · rw [List.getElem?_eq_getElem hi]
    have := of_decide_eq_true (h.1 _ (List.getElem_mem hi))
    simp
    omega
  · rw [List.getElem?_eq_none (by omega)]
    simp

theorem getD_ext {a b : List (List Nat)} (hl : a.length = b.length) (h : ∀ i, i < a.length → a.getD i [] = b.getD i []) : a = b := by
  apply List.ext_getElem hl
  intro i h1 h2
  have := h i h1
  rw [List.getD_eq_getElem?_getD, List.getD_eq_getElem?_getD, List.getElem?_eq_getElem h1, List.getElem?_eq_getElem h2] at this
  exact this

end Go.Proofs.YtjdikhelabibnabGreat
