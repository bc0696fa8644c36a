/-
  The second telling of nand: Program.
-/
import Derived.Test.YtnondiaefpdlpaaU7f
import Derived.Test.YtnondiaefpdlpaaMm
import Derived.Test.YtnondiaefpdlpaaV7p
namespace Go.Proofs.Ytnondiaefpdlpaa
open Go.RowKit Go.Shelf

theorem Arg.kr {m g : Nat} {w w' : World} {v : Value} {s : List Nat} (h : Arg w v g s) (hs : Sfe m w g s) (k : Kr m w w') : Arg w' v g s := by
  obtain ⟨⟨ao, c, h1, h2, h3, h4, h5⟩, hb⟩ := h
  refine ⟨⟨ao, c, h1, h2, h3, h4, ?_⟩, hb⟩
  rcases h5 with h0 | ⟨o, rfl, hc⟩
  · exact .inl h0
  · by_cases hn : s = []
    · subst hn; exact .inl rfl
    · refine .inr ⟨o, rfl, fun j hj => ?_⟩
      have hk : w'.heap[g]? = w.heap[g]? := by
        rcases hs hn with h1 | ⟨cur, h1, _⟩
        · exact k.low g h1
        · exact (k.oth g cur _ (by decide) h1).trans h1.symm
      exact (World.cell?_of_block hk).trans (hc j hj)
theorem Blk.kr {m g : Nat} {w w' : World} {s : List Nat} (h : Blk w g s) (k : Kr m w w') : Blk w' g s := by
  obtain ⟨cur, h1, h2⟩ := h
  exact ⟨cur, k.oth g cur _ (by decide) h1, h2⟩
theorem Sfe.kr {m g : Nat} {w w' : World} {s : List Nat} (hs : Sfe m w g s) (k : Kr m w w') : Sfe m w' g s := fun h => (hs h).imp id (fun h1 => h1.kr k)

set_option maxRecDepth 100000 in
set_option maxHeartbeats 8000000 in
theorem rprog_dead {m : Nat} {w : World} {L : Lr} {s : Nd} (h : RA m w L s) (hdd : s.dead = true) (d b p : Int) (ao : Option Addr) (n c : Nat) :
    Calls Try.prog 38 #[.pointer (some ⟨L.n, 0, none⟩), .int .i64 d, .int .i64 b, .int .i64 p, .slice ao n c] w fun e w' => e = .returned (.int .i64 8) ∧ w' = w := by
  have HN := hide h
  clear h
  by_cases h1 : s.There d b
  · have HT := hide (decide_eq_true h1)
    obtain ⟨d, rfl⟩ := Int.eq_ofNat_of_zero_le h1.1.1
    obtain ⟨b, rfl⟩ := Int.eq_ofNat_of_zero_le h1.2.1
    have hd : d < s.D := by have := h1.1.2; omega
    have hb : b < s.B := by have := h1.2.2; omega
    have hd1 : (d : Int) < (s.D : Int) := by omega
    have hb1 : (b : Int) < (s.B : Int) := by omega
    have c3 : w.cell? ⟨L.n, 3, none⟩ = some (.slice (some ⟨L.gb, 0, none⟩) s.D L.xb) := (unhide HN).tc 3 rfl
    have cd : w.cell? ⟨L.gb, d, none⟩ = some (.slice (some ⟨L.bs d, 0, none⟩) s.B (L.cb d)) := (unhide HN).rb.cell hd
    have cb : w.cell? ⟨L.bs d, b * 4 + 1, none⟩ = some (.int .i64 ((s.next d b : Nat) : Int)) := (unhide HN).bc (j := 1) hd hb (by omega)
    by_cases hnx : ((s.next d b : Nat) : Int) = p
    · have hq : (((s.next d b : Nat) : Int) == p) = true := by simp [hnx]
      by_cases hn : n = 60
      · have hq2 : ((n : Int) == 60) = true := by simp [hn]
        go_enter Try.func38, Try.ntmps38
        go_wp2_with fail
        refine (there_any (unhide HN) _ _).mono ?_
        rintro e w ⟨rfl, rfl⟩
        rw [unhide HT]
        go_wp2_with fail
        refine (may_dead (unhide HN) hdd _ _ _ _).mono ?_
        rintro e w ⟨rfl, rfl⟩
        go_wp2_with fail
        go_returns
        exact ⟨rfl, rfl⟩
      · have hq2 : ((n : Int) == 60) = false := by rw [beq_eq_false_iff_ne]; omega
        go_enter Try.func38, Try.ntmps38
        go_wp2_with fail
        refine (there_any (unhide HN) _ _).mono ?_
        rintro e w ⟨rfl, rfl⟩
        rw [unhide HT]
        go_wp2_with fail
        refine (may_dead (unhide HN) hdd _ _ _ _).mono ?_
        rintro e w ⟨rfl, rfl⟩
        go_wp2_with fail
        go_returns
        exact ⟨rfl, rfl⟩
    · have hq : (((s.next d b : Nat) : Int) == p) = false := by rw [beq_eq_false_iff_ne]; exact hnx
      go_enter Try.func38, Try.ntmps38
      go_wp2_with fail
      refine (there_any (unhide HN) _ _).mono ?_
      rintro e w ⟨rfl, rfl⟩
      rw [unhide HT]
      go_wp2_with fail
      refine (may_dead (unhide HN) hdd _ _ _ _).mono ?_
      rintro e w ⟨rfl, rfl⟩
      go_wp2_with fail
      go_returns
      exact ⟨rfl, rfl⟩
  · have HT := hide (decide_eq_false h1)
    go_enter Try.func38, Try.ntmps38
    go_wp2_with fail
    refine (there_any (unhide HN) _ _).mono ?_
    rintro e w ⟨rfl, rfl⟩
    rw [unhide HT]
    go_wp2_with fail
    refine (may_dead (unhide HN) hdd _ _ _ _).mono ?_
    rintro e w ⟨rfl, rfl⟩
    go_wp2_with fail
    go_returns
    exact ⟨rfl, rfl⟩

set_option maxRecDepth 100000 in
set_option maxHeartbeats 8000000 in
theorem rprog_bad {m : Nat} {w : World} {L : Lr} {s : Nd} (h : RA m w L s) (hdd : s.dead = false) (d b p : Int) (ao : Option Addr) (n c : Nat) (hbad : ¬ (s.Good d b p ∧ (s.next d.toNat b.toNat : Int) = p ∧ n = 60)) :
    Calls Try.prog 38 #[.pointer (some ⟨L.n, 0, none⟩), .int .i64 d, .int .i64 b, .int .i64 p, .slice ao n c] w fun e w' => e = .returned (.int .i64 1) ∧ RA m w' L { s with wrong := inc s.wrong } ∧ Kr m w w' := by
  have HN := hide h
  have HBAD := hide hbad
  clear h hbad
  by_cases h1 : s.There d b
  · have HT := hide (decide_eq_true h1)
    obtain ⟨d, rfl⟩ := Int.eq_ofNat_of_zero_le h1.1.1
    obtain ⟨b, rfl⟩ := Int.eq_ofNat_of_zero_le h1.2.1
    have hd : d < s.D := by have := h1.1.2; omega
    have hb : b < s.B := by have := h1.2.2; omega
    have hd1 : (d : Int) < (s.D : Int) := by omega
    have hb1 : (b : Int) < (s.B : Int) := by omega
    have c3 : w.cell? ⟨L.n, 3, none⟩ = some (.slice (some ⟨L.gb, 0, none⟩) s.D L.xb) := (unhide HN).tc 3 rfl
    have cd : w.cell? ⟨L.gb, d, none⟩ = some (.slice (some ⟨L.bs d, 0, none⟩) s.B (L.cb d)) := (unhide HN).rb.cell hd
    have cb : w.cell? ⟨L.bs d, b * 4 + 1, none⟩ = some (.int .i64 ((s.next d b : Nat) : Int)) := (unhide HN).bc (j := 1) hd hb (by omega)
    by_cases hnx : ((s.next d b : Nat) : Int) = p
    · have hq : (((s.next d b : Nat) : Int) == p) = true := by simp [hnx]
      by_cases hn : n = 60
      · have hq2 : ((n : Int) == 60) = true := by simp [hn]
        go_enter Try.func38, Try.ntmps38
        go_wp2_with fail
        refine (there_any (unhide HN) _ _).mono ?_
        rintro e w ⟨rfl, rfl⟩
        rw [unhide HT]
        go_wp2_with fail
        refine (may_bad (unhide HN) hdd _ _ _ _ (fun h => unhide HBAD ⟨h.1, hnx, hn⟩)).mono ?_
        rintro e w2 ⟨rfl, hN2, hK2⟩
        have HN2 := hide hN2
        have HK2 := hide hK2
        clear hN2 hK2
        go_wp2_with fail
        go_returns
        exact ⟨rfl, unhide HN2, unhide HK2⟩
      · have hq2 : ((n : Int) == 60) = false := by rw [beq_eq_false_iff_ne]; omega
        go_enter Try.func38, Try.ntmps38
        go_wp2_with fail
        refine (there_any (unhide HN) _ _).mono ?_
        rintro e w ⟨rfl, rfl⟩
        rw [unhide HT]
        go_wp2_with fail
        refine (may_bad (unhide HN) hdd _ _ _ _ (fun h => by cases h.2)).mono ?_
        rintro e w2 ⟨rfl, hN2, hK2⟩
        have HN2 := hide hN2
        have HK2 := hide hK2
        clear hN2 hK2
        go_wp2_with fail
        go_returns
        exact ⟨rfl, unhide HN2, unhide HK2⟩
    · have hq : (((s.next d b : Nat) : Int) == p) = false := by rw [beq_eq_false_iff_ne]; exact hnx
      go_enter Try.func38, Try.ntmps38
      go_wp2_with fail
      refine (there_any (unhide HN) _ _).mono ?_
      rintro e w ⟨rfl, rfl⟩
      rw [unhide HT]
      go_wp2_with fail
      refine (may_bad (unhide HN) hdd _ _ _ _ (fun h => by cases h.2)).mono ?_
      rintro e w2 ⟨rfl, hN2, hK2⟩
      have HN2 := hide hN2
      have HK2 := hide hK2
      clear hN2 hK2
      go_wp2_with fail
      go_returns
      exact ⟨rfl, unhide HN2, unhide HK2⟩
  · have HT := hide (decide_eq_false h1)
    go_enter Try.func38, Try.ntmps38
    go_wp2_with fail
    refine (there_any (unhide HN) _ _).mono ?_
    rintro e w ⟨rfl, rfl⟩
    rw [unhide HT]
    go_wp2_with fail
    refine (may_bad (unhide HN) hdd _ _ _ _ (fun h => by cases h.2)).mono ?_
    rintro e w2 ⟨rfl, hN2, hK2⟩
    have HN2 := hide hN2
    have HK2 := hide hK2
    clear hN2 hK2
    go_wp2_with fail
    go_returns
    exact ⟨rfl, unhide HN2, unhide HK2⟩

set_option maxRecDepth 100000 in
set_option maxHeartbeats 8000000 in
theorem rprog_good {m : Nat} {w : World} {L : Lr} {s : Nd} (h : RA m w L s) (hdd : s.dead = false) {d b p : Nat} (hd : d < s.D) (hb : b < s.B) (hbad : s.bad d b = false) (hp : p < s.P) (hnx : s.next d b = p) (ao : Option Addr) (c gx : Nat) (x : List Nat) (hX : Arg w (.slice ao 60 c) gx x) (hXs : Sfe m w gx x) :
    Calls Try.prog 38 #[.pointer (some ⟨L.n, 0, none⟩), .int .i64 (d : Int), .int .i64 (b : Int), .int .i64 (p : Int), .slice ao 60 c] w fun e w' => e = .returned (.int .i64 s.err) ∧ (∃ L', L'.n = L.n ∧ RA m w' L' (s.progd d b p x)) ∧ Kr m w w' := by
  have HN := hide h
  have HT := hide (decide_eq_true (There.nat hd hb))
  have hd1 : (d : Int) < (s.D : Int) := by omega
  have hb1 : (b : Int) < (s.B : Int) := by omega
  have hp1 : (p : Int) < (s.P : Int) := by omega
  have hp8 : (p : Int) ≤ 8 := by have := h.ok.p; omega
  have hq : ((p : Int) == (p : Int)) = true := by simp
  have c3 : w.cell? ⟨L.n, 3, none⟩ = some (.slice (some ⟨L.gb, 0, none⟩) s.D L.xb) := (unhide HN).tc 3 rfl
  have cd : w.cell? ⟨L.gb, d, none⟩ = some (.slice (some ⟨L.bs d, 0, none⟩) s.B (L.cb d)) := (unhide HN).rb.cell hd
  have c1 : w.cell? ⟨L.bs d, b * 4 + 1, none⟩ = some (.int .i64 ((s.next d b : Nat) : Int)) := (unhide HN).bc (j := 1) hd hb (by omega)
  rw [hnx] at c1
  have f1 := h.bf (d := d) hd (b * 4 + 1)
  have hs := h.setB (d := d) (b := b) (i := 1) hd hb (by omega) (.int .i64 ((p : Int) + 1)) s.bad (put2 s.next d b (p + 1)) s.era (fun d' b' => by
    unfold put2
    by_cases e : d' = d ∧ b' = b
    · rw [if_pos e]; omega
    · rw [if_neg e]; exact h.ok.nx d' b') (fun d' b' j hd' hb' hj => by
    match j, hj with
    | 1, _ =>
      show Value.int .i64 ((put2 s.next d b (p + 1) d' b' : Nat) : Int) = _
      unfold put2
      by_cases e2 : d' = d ∧ b' = b
      · rw [if_pos e2, if_pos ⟨e2.1, e2.2, rfl⟩]; congr 1
      · rw [if_neg e2, if_neg (fun h => e2 ⟨h.1, h.2.1⟩)]; rfl
    | 0, _ => rw [if_neg (fun h => by have := h.2.2; omega)]; rfl
    | 2, _ => rw [if_neg (fun h => by have := h.2.2; omega)]; rfl
    | 3, _ => rw [if_neg (fun h => by have := h.2.2; omega)]; rfl)
  have HS := hide hs.1
  have HKS := hide hs.2
  have HX := hide hX
  have HXS := hide hXs
  clear hs h hX hXs
  go_enter Try.func38, Try.ntmps38
  go_wp2_with fail
  refine (there_any (unhide HN) _ _).mono ?_
  rintro e w ⟨rfl, rfl⟩
  rw [unhide HT]
  go_wp2_with fail
  refine (may_ok (unhide HN) hdd hd hb hbad hp).mono ?_
  rintro e w ⟨rfl, rfl⟩
  go_wp2_with fail
  clear c3 cd c1 f1 hq
  refine (stops_any (unhide HS) hdd).mono ?_
  rintro e w3 ⟨rfl, hN3, hK3⟩
  have HN3 := hide hN3
  have HK3 := hide ((unhide HKS).trans hK3)
  clear hN3 hK3 HS HKS HN
  by_cases hl : s.left = 1
  · have HE : Hid (s.err = 8) := if_pos hl
    have HM : Hid (s.mixed ones60 x = mixL ones60 x s.mask) := if_pos hl
    rw [show decide (({ s with next := put2 s.next d b (p + 1) } : Nd).left = 1) = true from decide_eq_true hl]
    go_wp2_with fail
    obtain ⟨om, nm, cm, hmv⟩ : ∃ o n c, L.mv = .slice o n c := by
      obtain ⟨o, c, e⟩ := (unhide HN3).msk.1.shape
      exact ⟨o, _, c, e⟩
    have HMV := hide hmv
    clear hmv
    have HND : Hid (RA m w3.drew L ({ s with next := put2 s.next d b (p + 1) } : Nd).begun) := (unhide HN3).lie (fun _ _ _ _ _ h => h)
    have HK0 := hide (unhide HK3).drew
    refine wp_region_noPanic ?_
    refine wp_region_held_drew (S := fun W => W.cell? ⟨L.bs d, b * 4, none⟩ = some (.slice (some ⟨L.ps d b, 0, none⟩) s.P (L.cp d b)) ∧ W.cell? ⟨L.n, 6, none⟩ = some (.slice om nm cm)) (by kernel_rfl) ?_ (fun hHeld => ?_)
    · exact ⟨(unhide HND).bc (j := 0) hd hb (by omega), ((unhide HND).tc 6 rfl).trans (congrArg some (unhide HMV))⟩
    have HH := hide hHeld
    clear hHeld
    generalize w3.drew = W2 at HND HK0 HH ⊢
    clear HN3 HK3
    refine takeL (i := 0) (v := ?_) rfl (by kernel_rfl) (by kernel_rfl) (by kernel_rfl) (fun _ _ _ h => h) (Or.inl ⟨by rfl, ?_⟩) (unhide HH) ?_
    rotate_left 1
    · intro W ⟨s1, s2⟩; go_simp; all_goals (with_reducible rfl)
    (try simp only [Act.put, List.setIfInBounds_toArray, List.set_cons_zero, List.set_cons_succ])
    refine takeL (i := 1) (v := ?_) rfl (by kernel_rfl) (by kernel_rfl) (by kernel_rfl) (fun _ _ _ h => h) (Or.inl ⟨by rfl, ?_⟩) (unhide HH) ?_
    rotate_left 1
    · intro W ⟨s1, s2⟩; go_simp; all_goals (with_reducible rfl)
    (try simp only [Act.put, List.setIfInBounds_toArray, List.set_cons_zero, List.set_cons_succ])
    refine takeL (i := 2) (v := ?_) rfl (by kernel_rfl) (by kernel_rfl) (by kernel_rfl) (fun _ _ _ h => h) (Or.inl ⟨by rfl, ?_⟩) (unhide HH) ?_
    rotate_left 1
    · intro W ⟨s1, s2⟩; go_simp; all_goals (with_reducible rfl)
    (try simp only [Act.put, List.setIfInBounds_toArray, List.set_cons_zero, List.set_cons_succ])
    refine takeL (i := 3) (v := ?_) rfl (by kernel_rfl) (by kernel_rfl) (by kernel_rfl) (fun _ _ _ h => h) (Or.inl ⟨by rfl, ?_⟩) (unhide HH) ?_
    rotate_left 1
    · intro W ⟨s1, s2⟩; go_simp; all_goals (with_reducible rfl)
    (try simp only [Act.put, List.setIfInBounds_toArray, List.set_cons_zero, List.set_cons_succ])
    refine takeL (i := 4) (v := ?_) rfl (by kernel_rfl) (by kernel_rfl) (by kernel_rfl) (fun _ _ _ h => h) (Or.inl ⟨by rfl, ?_⟩) (unhide HH) ?_
    rotate_left 1
    · intro W ⟨s1, s2⟩; go_simp; all_goals (with_reducible rfl)
    (try simp only [Act.put, List.setIfInBounds_toArray, List.set_cons_zero, List.set_cons_succ])
    refine takeL (i := 6) (v := ?_) rfl (by kernel_rfl) (by kernel_rfl) (by kernel_rfl) (fun _ _ _ h => h) (Or.inl ⟨by rfl, ?_⟩) (unhide HH) ?_
    rotate_left 1
    · intro W ⟨s1, s2⟩; go_simp; all_goals (with_reducible rfl)
    (try simp only [Act.put, List.setIfInBounds_toArray, List.set_cons_zero, List.set_cons_succ])
    refine takeL (i := 7) (v := ?_) rfl (by kernel_rfl) (by kernel_rfl) (by kernel_rfl) (fun _ _ _ h => h) (Or.inl ⟨by rfl, ?_⟩) (unhide HH) ?_
    rotate_left 1
    · intro W ⟨s1, s2⟩; go_simp; all_goals (with_reducible rfl)
    (try simp only [Act.put, List.setIfInBounds_toArray, List.set_cons_zero, List.set_cons_succ])
    refine takeL (i := 8) (v := ?_) rfl (by kernel_rfl) (by kernel_rfl) (by kernel_rfl) (fun _ _ _ h => h) (Or.inl ⟨by rfl, ?_⟩) (unhide HH) ?_
    rotate_left 1
    · intro W ⟨s1, s2⟩; go_simp; all_goals (with_reducible rfl)
    (try simp only [Act.put, List.setIfInBounds_toArray, List.set_cons_zero, List.set_cons_succ])
    refine takeL (i := 9) (v := ?_) rfl (by kernel_rfl) (by kernel_rfl) (by kernel_rfl) (fun _ _ _ h => h) (Or.inl ⟨by rfl, ?_⟩) (unhide HH) ?_
    rotate_left 1
    · intro W ⟨s1, s2⟩; go_simp; all_goals (with_reducible rfl)
    (try simp only [Act.put, List.setIfInBounds_toArray, List.set_cons_zero, List.set_cons_succ])
    refine takeL (i := 10) (v := ?_) rfl (by kernel_rfl) (by kernel_rfl) (by kernel_rfl) (fun _ _ _ h => h) (Or.inl ⟨by rfl, ?_⟩) (unhide HH) ?_
    rotate_left 1
    · intro W ⟨s1, s2⟩; go_simp; all_goals (with_reducible rfl)
    (try simp only [Act.put, List.setIfInBounds_toArray, List.set_cons_zero, List.set_cons_succ])
    refine wpAnyH_ready (rs := [5]) (by kernel_rfl) (by simp) ?_
    refine consL rfl (fun K hK => ?_) AllReadyH.nil
    go_simp
    refine (rones_any W2).mono ?_
    rintro e W3 ⟨v3, rfl, hF3, hb3⟩
    go_wp2_with fail
    have hN3 := (unhide HND).below hb3
    obtain ⟨o3, c3, rfl⟩ : ∃ o c, v3 = .slice o 60 c := by
      obtain ⟨o, c, h⟩ := hF3.shape
      exact ⟨o, c, by rw [h, ones60_len]⟩
    refine hK.out _ _ (⟨(hN3).bc (j := 0) hd hb (by omega), ((hN3).tc 6 rfl).trans (congrArg some (unhide HMV))⟩) (fun hHeld => ?_)
    clear hK K HH
    have HH := hide hHeld
    clear hHeld
    (try simp only [Act.put, List.setIfInBounds_toArray, List.set_cons_zero, List.set_cons_succ])
    have HF3 := hide hF3
    have HN3 := hide hN3
    have HK3 := hide ((unhide HK0).trans (Kr.of_below hb3 (Nat.le_of_lt (unhide HND).n_lt)))
    clear hF3 hN3 hb3 HK0 HND
    refine wpAnyH_ready (rs := [11]) (by kernel_rfl) (by simp) ?_
    refine consL rfl (fun K hK => ?_) AllReadyH.nil
    go_simp
    have hmk := (unhide HN3).msk
    rw [unhide HMV] at hmk
    obtain ⟨gm, hM, _⟩ := hmk.1.arg hmk.2
    obtain ⟨g3, hA3, _⟩ := (unhide HF3).arg ones60_bs
    refine (rmix_any _ _ _ g3 gx gm ones60 x s.mask W3 hA3 ((unhide HX).kr (unhide HXS) (unhide HK3)) hM (fun _ => by rw [ones60_len]; omega)).mono ?_
    rintro e W4 ⟨v4, rfl, hF4, hb4⟩
    go_wp2_with fail
    have hN4 := (unhide HN3).below hb4
    obtain ⟨o4, n4, c4, rfl⟩ : ∃ o n c, v4 = .slice o n c := by
      obtain ⟨o, c, h⟩ := hF4.shape
      exact ⟨o, _, c, h⟩
    refine hK.out _ _ (⟨(hN4).bc (j := 0) hd hb (by omega), ((hN4).tc 6 rfl).trans (congrArg some (unhide HMV))⟩) (fun hHeld => ?_)
    clear hK K HH
    have HH := hide hHeld
    clear hHeld
    (try simp only [Act.put, List.setIfInBounds_toArray, List.set_cons_zero, List.set_cons_succ])
    have hlx : (s.mixed ones60 x).length = 60 := mixed_len ones60_len ((unhide HX).nil_imp.1)
    have hbx : Bs (s.mixed ones60 x) := mixed_bs ones60_bs (unhide HX).bs
    rw [← unhide HM] at hF4
    have hs := hN4.setP hd hb hp _ _ hF4.low hlx hbx
    have HN4 := hide hN4
    have HS := hide hs.1
    have HKR := hide (((unhide HK3).trans (Kr.of_below hb4 (Nat.le_of_lt (unhide HN3).n_lt))).trans hs.2)
    clear hs hN4 hF4 hb4 hM hA3 hmk hlx hbx HF3 HN3 HK3
    refine takeL (i := 12) (v := ?_) rfl (by kernel_rfl) (by kernel_rfl) (by kernel_rfl) (fun _ _ _ h => h) (Or.inl ⟨by rfl, ?_⟩) (unhide HH) ?_
    rotate_left 1
    · intro W ⟨s1, s2⟩; go_simp; all_goals (with_reducible rfl)
    (try simp only [Act.put, List.setIfInBounds_toArray, List.set_cons_zero, List.set_cons_succ])
    refine wpAnyH_ready (rs := [13]) (by kernel_rfl) (by simp) ?_
    refine consL rfl (fun K hK => ?_) AllReadyH.nil
    have hcc := ((unhide HN4).pg d b hd hb).cell hp
    have hff := ((unhide HN4).pg d b hd hb).free p
    go_simp
    clear hcc hff
    refine hK.out _ _ (⟨(unhide HS).bc (j := 0) hd hb (by omega), ((unhide HS).tc 6 rfl).trans (congrArg some (unhide HMV))⟩) (fun hHeld => ?_)
    clear hK K HH
    have HH := hide hHeld
    clear hHeld
    (try simp only [Act.put, List.setIfInBounds_toArray, List.set_cons_zero, List.set_cons_succ])
    refine wpAnyH_done (by kernel_rfl) ?_ _
    refine NoPanic.normal ?_
    go_wp2_with fail
    go_returns
    exact ⟨by rw [unhide HE]; rfl, ⟨{ L with hv := put3 L.hv d b p (.slice o4 n4 c4) }, rfl, unhide HS⟩, unhide HKR⟩
  · have HE : Hid (s.err = 0) := if_neg hl
    have HM : Hid (s.mixed ones60 x = x) := if_neg hl
    rw [show decide (({ s with next := put2 s.next d b (p + 1) } : Nd).left = 1) = false from decide_eq_false hl]
    go_wp2_with fail
    have HND : Hid (RA m w3.drew L ({ s with next := put2 s.next d b (p + 1) } : Nd).begun) := (unhide HN3).lie (fun _ _ _ _ _ h => h)
    have HK0 := hide (unhide HK3).drew
    refine wp_region_noPanic ?_
    refine wp_region_held_drew (S := fun W => W.cell? ⟨L.bs d, b * 4, none⟩ = some (.slice (some ⟨L.ps d b, 0, none⟩) s.P (L.cp d b))) (by kernel_rfl) ?_ (fun hHeld => ?_)
    · exact (unhide HND).bc (j := 0) hd hb (by omega)
    have HH := hide hHeld
    clear hHeld
    generalize w3.drew = W2 at HND HK0 HH ⊢
    clear HN3 HK3
    refine takeL (i := 0) (v := ?_) rfl (by kernel_rfl) (by kernel_rfl) (by kernel_rfl) (fun _ _ _ h => h) (Or.inl ⟨by rfl, ?_⟩) (unhide HH) ?_
    rotate_left 1
    · intro W s1; have hs1 : W.cell? ⟨L.bs d, b * 4, none⟩ = some (.slice (some ⟨L.ps d b, 0, none⟩) s.P (L.cp d b)) := s1; clear s1; go_simp; all_goals (with_reducible rfl)
    (try simp only [Act.put, List.setIfInBounds_toArray, List.set_cons_zero, List.set_cons_succ])
    refine takeL (i := 1) (v := ?_) rfl (by kernel_rfl) (by kernel_rfl) (by kernel_rfl) (fun _ _ _ h => h) (Or.inl ⟨by rfl, ?_⟩) (unhide HH) ?_
    rotate_left 1
    · intro W s1; have hs1 : W.cell? ⟨L.bs d, b * 4, none⟩ = some (.slice (some ⟨L.ps d b, 0, none⟩) s.P (L.cp d b)) := s1; clear s1; go_simp; all_goals (with_reducible rfl)
    (try simp only [Act.put, List.setIfInBounds_toArray, List.set_cons_zero, List.set_cons_succ])
    refine takeL (i := 2) (v := ?_) rfl (by kernel_rfl) (by kernel_rfl) (by kernel_rfl) (fun _ _ _ h => h) (Or.inl ⟨by rfl, ?_⟩) (unhide HH) ?_
    rotate_left 1
    · intro W s1; have hs1 : W.cell? ⟨L.bs d, b * 4, none⟩ = some (.slice (some ⟨L.ps d b, 0, none⟩) s.P (L.cp d b)) := s1; clear s1; go_simp; all_goals (with_reducible rfl)
    (try simp only [Act.put, List.setIfInBounds_toArray, List.set_cons_zero, List.set_cons_succ])
    refine takeL (i := 3) (v := ?_) rfl (by kernel_rfl) (by kernel_rfl) (by kernel_rfl) (fun _ _ _ h => h) (Or.inl ⟨by rfl, ?_⟩) (unhide HH) ?_
    rotate_left 1
    · intro W s1; have hs1 : W.cell? ⟨L.bs d, b * 4, none⟩ = some (.slice (some ⟨L.ps d b, 0, none⟩) s.P (L.cp d b)) := s1; clear s1; go_simp; all_goals (with_reducible rfl)
    (try simp only [Act.put, List.setIfInBounds_toArray, List.set_cons_zero, List.set_cons_succ])
    refine takeL (i := 4) (v := ?_) rfl (by kernel_rfl) (by kernel_rfl) (by kernel_rfl) (fun _ _ _ h => h) (Or.inl ⟨by rfl, ?_⟩) (unhide HH) ?_
    rotate_left 1
    · intro W s1; have hs1 : W.cell? ⟨L.bs d, b * 4, none⟩ = some (.slice (some ⟨L.ps d b, 0, none⟩) s.P (L.cp d b)) := s1; clear s1; go_simp; all_goals (with_reducible rfl)
    (try simp only [Act.put, List.setIfInBounds_toArray, List.set_cons_zero, List.set_cons_succ])
    refine takeL (i := 6) (v := ?_) rfl (by kernel_rfl) (by kernel_rfl) (by kernel_rfl) (fun _ _ _ h => h) (Or.inl ⟨by rfl, ?_⟩) (unhide HH) ?_
    rotate_left 1
    · intro W s1; have hs1 : W.cell? ⟨L.bs d, b * 4, none⟩ = some (.slice (some ⟨L.ps d b, 0, none⟩) s.P (L.cp d b)) := s1; clear s1; go_simp; all_goals (with_reducible rfl)
    (try simp only [Act.put, List.setIfInBounds_toArray, List.set_cons_zero, List.set_cons_succ])
    refine wpAnyH_ready (rs := [5]) (by kernel_rfl) (by simp) ?_
    refine consL rfl (fun K hK => ?_) AllReadyH.nil
    go_simp
    have hk : Below W2.heap.size W2 (W2.alloc (.cells #[] 5)) := (Below.refl _ _).alloc (Nat.le_refl _) _
    have hO := own_none W2 5
    have hN3 := (unhide HND).below hk
    refine hK.out _ _ ((hN3).bc (j := 0) hd hb (by omega)) (fun hHeld => ?_)
    clear hK K HH
    have HH := hide hHeld
    clear hHeld
    (try simp only [Act.put, List.setIfInBounds_toArray, List.set_cons_zero, List.set_cons_succ])
    have HO := hide hO
    have HK3 := hide hk
    clear hk hO hN3
    refine wpAnyH_ready (rs := [7]) (by kernel_rfl) (by simp) ?_
    refine consL rfl (fun K hK => ?_) AllReadyH.nil
    rw [if_pos (by rfl)]
    have hX2 := (unhide HX).kr (unhide HXS) (unhide HK0)
    refine wp_append_b (.tmp 83) (.tmp 84) (by rfl) W2.heap.size _ 0 [] (ints x) (by rfl) (unhide HO) ao gx 60 c (by rfl) (by rw [ints_len]; exact hX2.nil_imp.1) (hX2.below (unhide HK3)).nil_imp.2.2 hX2.nil_imp.2.1 (by omega) (unhide HK3).size ?_
    intro v4 W4 hO4 hg4
    rw [List.nil_append] at hO4
    have hb4 : Below W2.heap.size W2 W4 := below_grown (unhide HK3) hg4 (unhide HK3).size (fun k hk => by cases hk; exact Nat.le_refl _)
    have hN4 := (unhide HND).below hb4
    have hF4 := own_fr (s := x) (by rw [(unhide HX).nil_imp.1]) hO4
    obtain ⟨o4, n4, c4, rfl⟩ : ∃ o n c, v4 = .slice o n c := by
      obtain ⟨o, c, h⟩ := hF4.shape
      exact ⟨o, _, c, h⟩
    refine hK.out _ _ ((hN4).bc (j := 0) hd hb (by omega)) (fun hHeld => ?_)
    clear hK K HH
    have HH := hide hHeld
    clear hHeld
    (try simp only [Act.put, List.setIfInBounds_toArray, List.set_cons_zero, List.set_cons_succ])
    have hs := hN4.setP hd hb hp _ (s.mixed ones60 x) (by rw [unhide HM]; exact hF4.low) (by rw [unhide HM]; exact hX2.nil_imp.1) (by rw [unhide HM]; exact hX2.bs)
    have HN4 := hide hN4
    have HS := hide hs.1
    have HKR := hide (((unhide HK0).trans (Kr.of_below hb4 (Nat.le_of_lt (unhide HND).n_lt))).trans hs.2)
    clear hs hN4 hF4 hO4 hg4 hb4 HO HK3 HND HK0 hX2
    refine takeL (i := 8) (v := ?_) rfl (by kernel_rfl) (by kernel_rfl) (by kernel_rfl) (fun _ _ _ h => h) (Or.inl ⟨by rfl, ?_⟩) (unhide HH) ?_
    rotate_left 1
    · intro W s1; have hs1 : W.cell? ⟨L.bs d, b * 4, none⟩ = some (.slice (some ⟨L.ps d b, 0, none⟩) s.P (L.cp d b)) := s1; clear s1; go_simp; all_goals (with_reducible rfl)
    (try simp only [Act.put, List.setIfInBounds_toArray, List.set_cons_zero, List.set_cons_succ])
    refine wpAnyH_ready (rs := [9]) (by kernel_rfl) (by simp) ?_
    refine consL rfl (fun K hK => ?_) AllReadyH.nil
    have hcc := ((unhide HN4).pg d b hd hb).cell hp
    have hff := ((unhide HN4).pg d b hd hb).free p
    go_simp
    clear hcc hff
    refine hK.out _ _ ((unhide HS).bc (j := 0) hd hb (by omega)) (fun hHeld => ?_)
    clear hK K HH
    have HH := hide hHeld
    clear hHeld
    (try simp only [Act.put, List.setIfInBounds_toArray, List.set_cons_zero, List.set_cons_succ])
    refine wpAnyH_done (by kernel_rfl) ?_ _
    refine NoPanic.normal ?_
    go_wp2_with fail
    go_returns
    exact ⟨by rw [unhide HE]; rfl, ⟨{ L with hv := put3 L.hv d b p (.slice o4 n4 c4) }, rfl, unhide HS⟩, unhide HKR⟩

end Go.Proofs.Ytnondiaefpdlpaa
