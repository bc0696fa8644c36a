/-
  The second telling of nand: Erase.
-/
import Derived.Test.YtnondiaefpdlpaaU7g
import Derived.Test.YtnondiaefpdlpaaV7x
namespace Go.Proofs.Ytnondiaefpdlpaa
open Go.RowKit Go.Shelf

/-- The same bytes, told otherwise. -/
theorem RA.reheld {m : Nat} {w : World} {L : Lr} {s : Nd} (h : RA m w L s) (held : Nat → Nat → Nat → List Nat) (he : ∀ d b p, d < s.D → b < s.B → p < s.P → s.held d b p = held d b p) (hl : ∀ d b p, (held d b p).length = 60) (hb : ∀ d b p, Bs (held d b p)) : RA m w L { s with held } where
  ok := ⟨h.ok.d, h.ok.b, h.ok.p, hl, hb, h.ok.nx, h.ok.lf⟩
  top := h.top
  rb := h.rb
  rl := h.rl
  blocks := h.blocks
  lk := h.lk
  pg := h.pg
  ng := h.ng
  hold := fun d b p hd hb hp => by
    have := h.hold d b p hd hb hp
    rw [he d b p hd hb hp] at this
    exact this
  nois := h.nois
  msk := h.msk
  xb := h.xb
  xl := h.xl
  cb := h.cb
  cl := h.cl
  cp := h.cp
  inj1 := h.inj1
  inj3 := h.inj3
  inj4 := h.inj4
  low0 := h.low0
  low1 := h.low1
  low2 := h.low2
  low3 := h.low3

/-- Pages below k of a block are erased. -/
def Nd.hk (s : Nd) (d b k : Nat) : Nat → Nat → Nat → List Nat := fun d' b' p' => if d' = d ∧ b' = b ∧ p' < k then s.mixed (s.held d b p') ones60 else s.held d' b' p'
theorem hk_zero (s : Nd) (d b : Nat) : s.hk d b 0 = s.held := by
  funext d' b' p'
  exact if_neg (fun h => by omega)
theorem hk_succ (s : Nd) (d b k : Nat) : put3 (s.hk d b k) d b k (s.mixed (s.held d b k) ones60) = s.hk d b (k + 1) := by
  funext d' b' p'
  unfold put3 Nd.hk
  by_cases e : d' = d ∧ b' = b ∧ p' = k
  · obtain ⟨rfl, rfl, rfl⟩ := e
    rw [if_pos ⟨rfl, rfl, rfl⟩, if_pos ⟨rfl, rfl, by omega⟩]
  · rw [if_neg e]
    by_cases e2 : d' = d ∧ b' = b ∧ p' < k
    · rw [if_pos e2, if_pos ⟨e2.1, e2.2.1, by omega⟩]
    · rw [if_neg e2, if_neg (fun h => by
        by_cases e3 : p' = k
        · exact e ⟨h.1, h.2.1, e3⟩
        · exact e2 ⟨h.1, h.2.1, by omega⟩)]
theorem hk_at (s : Nd) (d b k : Nat) : s.hk d b k d b k = s.held d b k := if_neg (fun h => by omega)
/-- All of them are. -/
def Nd.ha (s : Nd) (d b : Nat) : Nat → Nat → Nat → List Nat := fun d' b' p' => if d' = d ∧ b' = b then s.mixed (s.held d b p') ones60 else s.held d' b' p'
theorem hk_all {s : Nd} {d b d' b' p' P : Nat} (h : p' < P) : s.hk d b P d' b' p' = s.ha d b d' b' p' := by
  unfold Nd.hk Nd.ha
  by_cases e : d' = d ∧ b' = b
  · rw [if_pos e, if_pos ⟨e.1, e.2, h⟩]
  · rw [if_neg e, if_neg (fun h => e ⟨h.1, h.2.1⟩)]
theorem ha_len {s : Nd} (h : s.Ok) (d b d' b' p' : Nat) : (s.ha d b d' b' p').length = 60 := by
  unfold Nd.ha
  split
  · exact mixed_len (h.len _ _ _) ones60_len
  · exact h.len _ _ _
theorem ha_bs {s : Nd} (h : s.Ok) (d b d' b' p' : Nat) : Bs (s.ha d b d' b' p') := by
  unfold Nd.ha
  split
  · exact mixed_bs (h.bs _ _ _) ones60_bs
  · exact h.bs _ _ _

set_option maxRecDepth 100000 in
set_option maxHeartbeats 8000000 in
theorem rerase_dead {m : Nat} {w : World} {L : Lr} {s : Nd} (h : RA m w L s) (hdd : s.dead = true) (d b : Int) :
    Calls Try.prog 39 #[.pointer (some ⟨L.n, 0, none⟩), .int .i64 d, .int .i64 b] w fun e w' => e = .returned (.int .i64 8) ∧ w' = w := by
  have HN := hide h
  clear h
  go_enter Try.func39, Try.ntmps39
  go_wp2_with fail
  refine (may_dead (unhide HN) hdd _ _ _ _).mono ?_
  rintro e w ⟨rfl, rfl⟩
  go_wp2_with fail
  go_returns
  exact ⟨rfl, rfl⟩

set_option maxRecDepth 100000 in
set_option maxHeartbeats 8000000 in
theorem rerase_bad {m : Nat} {w : World} {L : Lr} {s : Nd} (h : RA m w L s) (hdd : s.dead = false) (d b : Int) (hbad : ¬ (s.There d b ∧ s.bad d.toNat b.toNat = false)) :
    Calls Try.prog 39 #[.pointer (some ⟨L.n, 0, none⟩), .int .i64 d, .int .i64 b] w fun e w' => e = .returned (.int .i64 1) ∧ RA m w' L { s with wrong := inc s.wrong } ∧ Kr m w w' := by
  have HN := hide h
  have HB := hide hbad
  clear h hbad
  go_enter Try.func39, Try.ntmps39
  go_wp2_with fail
  refine (may_bad (unhide HN) hdd _ _ _ _ (fun h => unhide HB h.1.1)).mono ?_
  rintro e w2 ⟨rfl, hN2, hK2⟩
  have HN2 := hide hN2
  have HK2 := hide hK2
  clear hN2 hK2
  go_wp2_with fail
  go_returns
  exact ⟨rfl, unhide HN2, unhide HK2⟩

set_option maxRecDepth 100000 in
set_option maxHeartbeats 8000000 in
theorem rerase_good {m : Nat} {w : World} {L : Lr} {s : Nd} (h : RA m w L s) (hdd : s.dead = false) {d b : Nat} (hd : d < s.D) (hb : b < s.B) (hbad : s.bad d b = false) (hP0 : 0 < s.P) :
    Calls Try.prog 39 #[.pointer (some ⟨L.n, 0, none⟩), .int .i64 (d : Int), .int .i64 (b : Int)] w fun e w' => e = .returned (.int .i64 s.err) ∧ (∃ L', L'.n = L.n ∧ RA m w' L' (s.erased d b)) ∧ Kr m w w' := by
  have HN := hide h
  have HOK := hide h.ok
  have hd1 : (d : Int) < (s.D : Int) := by omega
  have hb1 : (b : Int) < (s.B : Int) := by omega
  have c3 : w.cell? ⟨L.n, 3, none⟩ = some (.slice (some ⟨L.gb, 0, none⟩) s.D L.xb) := (unhide HN).tc 3 rfl
  have cd : w.cell? ⟨L.gb, d, none⟩ = some (.slice (some ⟨L.bs d, 0, none⟩) s.B (L.cb d)) := (unhide HN).rb.cell hd
  have cb : w.cell? ⟨L.bs d, b * 4 + 2, none⟩ = some (.int .i64 (s.era d b)) := (unhide HN).bc (j := 2) hd hb (by omega)
  have f2 := h.bf (d := d) hd (b * 4 + 2)
  have hs := h.setB (d := d) (b := b) (i := 2) hd hb (by omega) (.int .i64 (inc (s.era d b))) s.bad s.next (put2 s.era d b (inc (s.era d b))) h.ok.nx (fun d' b' j hd' hb' hj => by
    match j, hj with
    | 2, _ =>
      show Value.int .i64 (put2 s.era d b (inc (s.era d b)) d' b') = _
      unfold put2
      by_cases e2 : d' = d ∧ b' = b
      · rw [if_pos e2, if_pos ⟨e2.1, e2.2, rfl⟩]
      · rw [if_neg e2, if_neg (fun h => e2 ⟨h.1, h.2.1⟩)]; rfl
    | 0, _ => rw [if_neg (fun h => by have := h.2.2; omega)]; rfl
    | 1, _ => rw [if_neg (fun h => by have := h.2.2; omega)]; rfl
    | 3, _ => rw [if_neg (fun h => by have := h.2.2; omega)]; rfl)
  have HS := hide hs.1
  have HKS := hide hs.2
  clear hs h
  go_enter Try.func39, Try.ntmps39
  go_wp2_with fail
  refine (may_ok (unhide HN) hdd hd hb hbad hP0).mono ?_
  rintro e w ⟨rfl, rfl⟩
  go_wp2_with fail
  clear f2
  refine (stops_any (unhide HS) hdd).mono ?_
  rintro e w3 ⟨rfl, hN3, hK3⟩
  have HN3 := hide hN3
  have HK3 := hide ((unhide HKS).trans hK3)
  clear hN3 hK3 HS HKS HN
  by_cases hl : s.left = 1
  · have HE : Hid (s.err = 8) := if_pos hl
    have HM : ∀ a, Hid (s.mixed a ones60 = mixL a ones60 s.mask) := fun a => if_pos hl
    rw [show decide (({ s with era := put2 s.era d b (inc (s.era d b)) } : Nd).left = 1) = true from decide_eq_true hl]
    go_wp2_with fail
    clear c3 cd cb
    go_loopw [10] (fun q10 wr => ∃ (k : Nat) (hv : Nat → Nat → Nat → Value), q10 = .int .i64 k ∧ k ≤ s.P ∧ Hid (RA m wr { L with hv } { ({ s with era := put2 s.era d b (inc (s.era d b)) } : Nd).begun with held := s.hk d b k }) ∧ Hid (Kr m w wr)) (fun q10 _ => s.P - (intOf q10).toNat)
    case atStart => exact ⟨0, L.hv, rfl, by omega, (by rw [hk_zero]; exact HN3), HK3⟩
    case round =>
      clear HN3 HK3
      obtain ⟨k, hv, rfl, hk, HNR, HKR⟩ := hrel
      have c2 : wr.cell? ⟨L.n, 2, none⟩ = some (.int .i64 (s.P : Int)) := (unhide HNR).tc 2 rfl
      by_cases hk2 : k < s.P
      · have hk1 : (k : Int) < (s.P : Int) := by omega
        have hk8 : (k : Int) ≤ 8 := by have := (unhide HNR).ok.p; have : s.P ≤ 8 := this; omega
        go_wp2_with fail
        clear c2
        have HND : Hid (RA m wr.drew { L with hv } { ({ s with era := put2 s.era d b (inc (s.era d b)) } : Nd).begun with held := s.hk d b k }) := (unhide HNR).lie (fun _ _ _ _ _ h => h)
        have HK0 := hide (unhide HKR).drew
        clear HNR HKR
        obtain ⟨om, nm, cm, hmv⟩ : ∃ o n c, L.mv = .slice o n c := by
          obtain ⟨o, c, e⟩ := (unhide HND).msk.1.shape
          exact ⟨o, _, c, e⟩
        have HMV := hide hmv
        obtain ⟨oh, ch, hhv⟩ : ∃ o c, hv d b k = .slice o 60 c := by
          obtain ⟨o, c, e⟩ := ((unhide HND).hold d b k hd hb hk2).shape
          exact ⟨o, c, by rw [show hv d b k = _ from e, (unhide HND).ok.len]⟩
        have HHV := hide hhv
        clear hmv hhv
        refine wp_region_noPanic ?_
        refine regionK (kk := 19) (S := fun W => W.cell? ⟨L.bs d, b * 4, none⟩ = some (.slice (some ⟨L.ps d b, 0, none⟩) s.P (L.cp d b)) ∧ W.cell? ⟨L.ps d b, k, none⟩ = some (.slice oh 60 ch) ∧ W.cell? ⟨L.n, 6, none⟩ = some (.slice om nm cm)) (by kernel_rfl) ?_
        have HH := hide (show (fun W => W.cell? ⟨L.bs d, b * 4, none⟩ = some (.slice (some ⟨L.ps d b, 0, none⟩) s.P (L.cp d b)) ∧ W.cell? ⟨L.ps d b, k, none⟩ = some (.slice oh 60 ch) ∧ W.cell? ⟨L.n, 6, none⟩ = some (.slice om nm cm)) wr.drew from ⟨(unhide HND).bc (j := 0) hd hb (by omega), ((unhide HND).pg d b hd hb |>.cell hk2).trans (congrArg some (unhide HHV)), ((unhide HND).tc 6 rfl).trans (congrArg some (unhide HMV))⟩)
        simp only at HH
        generalize wr.drew = W2 at HND HK0 HH ⊢
        refine takeK (i := 0) (v := ?_) rfl (by kernel_rfl) (by kernel_rfl) (by kernel_rfl) (by kernel_rfl) (by kernel_rfl) (by kernel_rfl) (fun _ _ _ h => h) (Or.inl ⟨by rfl, ?_⟩) (unhide HH) ?_
        rotate_left 1
        · intro W ⟨s1, s2, s3⟩; go_simp; all_goals (with_reducible rfl)
        (try simp only [Act.put, List.setIfInBounds_toArray, List.set_cons_zero, List.set_cons_succ])
        refine takeK (i := 1) (v := ?_) rfl (by kernel_rfl) (by kernel_rfl) (by kernel_rfl) (by kernel_rfl) (by kernel_rfl) (by kernel_rfl) (fun _ _ _ h => h) (Or.inl ⟨by rfl, ?_⟩) (unhide HH) ?_
        rotate_left 1
        · intro W ⟨s1, s2, s3⟩; go_simp; all_goals (with_reducible rfl)
        (try simp only [Act.put, List.setIfInBounds_toArray, List.set_cons_zero, List.set_cons_succ])
        refine takeK (i := 2) (v := ?_) rfl (by kernel_rfl) (by kernel_rfl) (by kernel_rfl) (by kernel_rfl) (by kernel_rfl) (by kernel_rfl) (fun _ _ _ h => h) (Or.inl ⟨by rfl, ?_⟩) (unhide HH) ?_
        rotate_left 1
        · intro W ⟨s1, s2, s3⟩; go_simp; all_goals (with_reducible rfl)
        (try simp only [Act.put, List.setIfInBounds_toArray, List.set_cons_zero, List.set_cons_succ])
        refine takeK (i := 3) (v := ?_) rfl (by kernel_rfl) (by kernel_rfl) (by kernel_rfl) (by kernel_rfl) (by kernel_rfl) (by kernel_rfl) (fun _ _ _ h => h) (Or.inl ⟨by rfl, ?_⟩) (unhide HH) ?_
        rotate_left 1
        · intro W ⟨s1, s2, s3⟩; go_simp; all_goals (with_reducible rfl)
        (try simp only [Act.put, List.setIfInBounds_toArray, List.set_cons_zero, List.set_cons_succ])
        refine takeK (i := 4) (v := ?_) rfl (by kernel_rfl) (by kernel_rfl) (by kernel_rfl) (by kernel_rfl) (by kernel_rfl) (by kernel_rfl) (fun _ _ _ h => h) (Or.inl ⟨by rfl, ?_⟩) (unhide HH) ?_
        rotate_left 1
        · intro W ⟨s1, s2, s3⟩; go_simp; all_goals (with_reducible rfl)
        (try simp only [Act.put, List.setIfInBounds_toArray, List.set_cons_zero, List.set_cons_succ])
        refine takeK (i := 5) (v := ?_) rfl (by kernel_rfl) (by kernel_rfl) (by kernel_rfl) (by kernel_rfl) (by kernel_rfl) (by kernel_rfl) (fun _ _ _ h => h) (Or.inl ⟨by rfl, ?_⟩) (unhide HH) ?_
        rotate_left 1
        · intro W ⟨s1, s2, s3⟩; go_simp; all_goals (with_reducible rfl)
        (try simp only [Act.put, List.setIfInBounds_toArray, List.set_cons_zero, List.set_cons_succ])
        refine takeK (i := 6) (v := ?_) rfl (by kernel_rfl) (by kernel_rfl) (by kernel_rfl) (by kernel_rfl) (by kernel_rfl) (by kernel_rfl) (fun _ _ _ h => h) (Or.inl ⟨by rfl, ?_⟩) (unhide HH) ?_
        rotate_left 1
        · intro W ⟨s1, s2, s3⟩; go_simp; all_goals (with_reducible rfl)
        (try simp only [Act.put, List.setIfInBounds_toArray, List.set_cons_zero, List.set_cons_succ])
        refine takeK (i := 7) (v := ?_) rfl (by kernel_rfl) (by kernel_rfl) (by kernel_rfl) (by kernel_rfl) (by kernel_rfl) (by kernel_rfl) (fun _ _ _ h => h) (Or.inl ⟨by rfl, ?_⟩) (unhide HH) ?_
        rotate_left 1
        · intro W ⟨s1, s2, s3⟩; go_simp; all_goals (with_reducible rfl)
        (try simp only [Act.put, List.setIfInBounds_toArray, List.set_cons_zero, List.set_cons_succ])
        refine takeK (i := 8) (v := ?_) rfl (by kernel_rfl) (by kernel_rfl) (by kernel_rfl) (by kernel_rfl) (by kernel_rfl) (by kernel_rfl) (fun _ _ _ h => h) (Or.inl ⟨by rfl, ?_⟩) (unhide HH) ?_
        rotate_left 1
        · intro W ⟨s1, s2, s3⟩; go_simp; all_goals (with_reducible rfl)
        (try simp only [Act.put, List.setIfInBounds_toArray, List.set_cons_zero, List.set_cons_succ])
        refine takeK (i := 9) (v := ?_) rfl (by kernel_rfl) (by kernel_rfl) (by kernel_rfl) (by kernel_rfl) (by kernel_rfl) (by kernel_rfl) (fun _ _ _ h => h) (Or.inl ⟨by rfl, ?_⟩) (unhide HH) ?_
        rotate_left 1
        · intro W ⟨s1, s2, s3⟩; go_simp; all_goals (with_reducible rfl)
        (try simp only [Act.put, List.setIfInBounds_toArray, List.set_cons_zero, List.set_cons_succ])
        refine takeK (i := 10) (v := ?_) rfl (by kernel_rfl) (by kernel_rfl) (by kernel_rfl) (by kernel_rfl) (by kernel_rfl) (by kernel_rfl) (fun _ _ _ h => h) (Or.inl ⟨by rfl, ?_⟩) (unhide HH) ?_
        rotate_left 1
        · intro W ⟨s1, s2, s3⟩; go_simp; all_goals (with_reducible rfl)
        (try simp only [Act.put, List.setIfInBounds_toArray, List.set_cons_zero, List.set_cons_succ])
        refine takeK (i := 11) (v := ?_) rfl (by kernel_rfl) (by kernel_rfl) (by kernel_rfl) (by kernel_rfl) (by kernel_rfl) (by kernel_rfl) (fun _ _ _ h => h) (Or.inl ⟨by rfl, ?_⟩) (unhide HH) ?_
        rotate_left 1
        · intro W ⟨s1, s2, s3⟩; go_simp; all_goals (with_reducible rfl)
        (try simp only [Act.put, List.setIfInBounds_toArray, List.set_cons_zero, List.set_cons_succ])
        refine takeK (i := 13) (v := ?_) rfl (by kernel_rfl) (by kernel_rfl) (by kernel_rfl) (by kernel_rfl) (by kernel_rfl) (by kernel_rfl) (fun _ _ _ h => h) (Or.inl ⟨by rfl, ?_⟩) (unhide HH) ?_
        rotate_left 1
        · intro W ⟨s1, s2, s3⟩; go_simp; all_goals (with_reducible rfl)
        (try simp only [Act.put, List.setIfInBounds_toArray, List.set_cons_zero, List.set_cons_succ])
        refine takeK (i := 14) (v := ?_) rfl (by kernel_rfl) (by kernel_rfl) (by kernel_rfl) (by kernel_rfl) (by kernel_rfl) (by kernel_rfl) (fun _ _ _ h => h) (Or.inl ⟨by rfl, ?_⟩) (unhide HH) ?_
        rotate_left 1
        · intro W ⟨s1, s2, s3⟩; go_simp; all_goals (with_reducible rfl)
        (try simp only [Act.put, List.setIfInBounds_toArray, List.set_cons_zero, List.set_cons_succ])
        refine takeK (i := 15) (v := ?_) rfl (by kernel_rfl) (by kernel_rfl) (by kernel_rfl) (by kernel_rfl) (by kernel_rfl) (by kernel_rfl) (fun _ _ _ h => h) (Or.inl ⟨by rfl, ?_⟩) (unhide HH) ?_
        rotate_left 1
        · intro W ⟨s1, s2, s3⟩; go_simp; all_goals (with_reducible rfl)
        (try simp only [Act.put, List.setIfInBounds_toArray, List.set_cons_zero, List.set_cons_succ])
        refine takeK (i := 16) (v := ?_) rfl (by kernel_rfl) (by kernel_rfl) (by kernel_rfl) (by kernel_rfl) (by kernel_rfl) (by kernel_rfl) (fun _ _ _ h => h) (Or.inl ⟨by rfl, ?_⟩) (unhide HH) ?_
        rotate_left 1
        · intro W ⟨s1, s2, s3⟩; go_simp; all_goals (with_reducible rfl)
        (try simp only [Act.put, List.setIfInBounds_toArray, List.set_cons_zero, List.set_cons_succ])
        refine readyK (rs := [12]) (by kernel_rfl) (by simp) ?_
        refine consK rfl (fun K hK => ?_) nilK
        go_simp
        refine (rones_any W2).mono ?_
        rintro e W3 ⟨v3, rfl, hF3, hb3⟩
        go_wp2_with fail
        have hN3 := (unhide HND).below hb3
        obtain ⟨o3, c3, rfl⟩ : ∃ o c, v3 = .slice o 60 c := by
          obtain ⟨o, c, h⟩ := hF3.shape
          exact ⟨o, c, by rw [h, ones60_len]⟩
        refine hK.out _ _ (fun _ => ⟨(hN3).bc (j := 0) hd hb (by omega), ((hN3).pg d b hd hb |>.cell hk2).trans (congrArg some (unhide HHV)), ((hN3).tc 6 rfl).trans (congrArg some (unhide HMV))⟩) ?_
        clear hK K
        (try simp only [Act.put, List.setIfInBounds_toArray, List.set_cons_zero, List.set_cons_succ])
        have HF3 := hide hF3
        have HN3 := hide hN3
        have HK3 := hide ((unhide HK0).trans (Kr.of_below hb3 (Nat.le_of_lt (unhide HND).n_lt)))
        clear hF3 hN3 hb3 HK0 HND
        refine readyK (rs := [17]) (by kernel_rfl) (by simp) ?_
        refine consK rfl (fun K hK => ?_) nilK
        go_simp
        have hmk := (unhide HN3).msk
        have hmk1 : Fr 0 W3 (.slice om nm cm) s.mask := by have := hmk.1; rw [show ({ L with hv } : Lr).mv = _ from unhide HMV] at this; exact this
        have hho : Fr 0 W3 (.slice oh 60 ch) (s.held d b k) := by
          have := (unhide HN3).hold d b k hd hb hk2
          rw [show ({ L with hv } : Lr).hv d b k = _ from unhide HHV] at this
          rw [← hk_at s d b k]
          exact this
        have hlh : (s.held d b k).length = 60 := by have := (unhide HN3).ok.len d b k; rw [← hk_at s d b k]; exact this
        have hbh : Bs (s.held d b k) := by have := (unhide HN3).ok.bs d b k; rw [← hk_at s d b k]; exact this
        obtain ⟨gm, hM, _⟩ := hmk1.arg hmk.2
        obtain ⟨gh, hAh, _⟩ := hho.arg hbh
        obtain ⟨g3, hA3, _⟩ := (unhide HF3).arg ones60_bs
        refine (rmix_any _ _ _ gh g3 gm (s.held d b k) ones60 s.mask W3 hAh hA3 hM (fun _ => by rw [hlh]; omega)).mono ?_
        rintro e W4 ⟨v4, rfl, hF4, hb4⟩
        go_wp2_with fail
        have hN4 := (unhide HN3).below hb4
        obtain ⟨o4, n4, c4, rfl⟩ : ∃ o n c, v4 = .slice o n c := by
          obtain ⟨o, c, h⟩ := hF4.shape
          exact ⟨o, _, c, h⟩
        refine hK.out _ _ (fun _ => ⟨(hN4).bc (j := 0) hd hb (by omega), ((hN4).pg d b hd hb |>.cell hk2).trans (congrArg some (unhide HHV)), ((hN4).tc 6 rfl).trans (congrArg some (unhide HMV))⟩) ?_
        clear hK K
        (try simp only [Act.put, List.setIfInBounds_toArray, List.set_cons_zero, List.set_cons_succ])
        rw [← unhide (HM _)] at hF4
        have hs := hN4.setP hd hb hk2 _ _ hF4.low (mixed_len hlh ones60_len) (mixed_bs hbh ones60_bs)
        have HH := hide (show (fun W => W.cell? ⟨L.bs d, b * 4, none⟩ = some (.slice (some ⟨L.ps d b, 0, none⟩) s.P (L.cp d b)) ∧ W.cell? ⟨L.ps d b, k, none⟩ = some (.slice oh 60 ch) ∧ W.cell? ⟨L.n, 6, none⟩ = some (.slice om nm cm)) W4 from ⟨(hN4).bc (j := 0) hd hb (by omega), ((hN4).pg d b hd hb |>.cell hk2).trans (congrArg some (unhide HHV)), ((hN4).tc 6 rfl).trans (congrArg some (unhide HMV))⟩)
        simp only at HH
        have HN4 := hide hN4
        have HS := hide hs.1
        have HKR := hide (((unhide HK3).trans (Kr.of_below hb4 (Nat.le_of_lt (unhide HN3).n_lt))).trans hs.2)
        clear hs hN4 hF4 hb4 hM hAh hA3 hmk hmk1 hho hlh hbh HF3 HN3 HK3
        refine takeK (i := 18) (v := ?_) rfl (by kernel_rfl) (by kernel_rfl) (by kernel_rfl) (by kernel_rfl) (by kernel_rfl) (by kernel_rfl) (fun _ _ _ h => h) (Or.inl ⟨by rfl, ?_⟩) (unhide HH) ?_
        rotate_left 1
        · intro W ⟨s1, s2, s3⟩; go_simp; all_goals (with_reducible rfl)
        (try simp only [Act.put, List.setIfInBounds_toArray, List.set_cons_zero, List.set_cons_succ])
        refine readyK (rs := [19]) (by kernel_rfl) (by simp) ?_
        refine consK rfl (fun K hK => ?_) nilK
        have hcc := ((unhide HN4).pg d b hd hb).cell hk2
        have hff := ((unhide HN4).pg d b hd hb).free k
        go_simp
        clear hcc hff
        refine hK.out _ _ (fun _ => (by rename_i hh; cases hh)) ?_
        clear hK K
        (try simp only [Act.put, List.setIfInBounds_toArray, List.set_cons_zero, List.set_cons_succ])
        refine doneK (by kernel_rfl) ?_ _
        refine NoPanic.normal ?_
        have HSK : Hid (RA m (W4.setCell ⟨L.ps d b, k, none⟩ (.slice o4 n4 c4)) { L with hv := put3 hv d b k (.slice o4 n4 c4) } { ({ s with era := put2 s.era d b (inc (s.era d b)) } : Nd).begun with held := s.hk d b (k + 1) }) := by
          rw [← hk_succ s d b k]
          exact HS
        clear HS HN4
        go_wp2_with fail
        go_roundw
        case rel => exact ⟨k + 1, _, by go_num, by omega, HSK, HKR⟩
        case measure => simp [intOf]; omega
      · obtain rfl : k = s.P := by omega
        have hall := (unhide HNR).reheld (s.ha d b) (fun d' b' p' _ _ hp' => hk_all hp') (ha_len (unhide HOK) d b) (ha_bs (unhide HOK) d b)
        have HALL := hide hall
        clear hall HNR
        go_wp2_with fail
        go_returns
        refine ⟨by rw [unhide HE]; rfl, ⟨{ L with hv }, rfl, ?_⟩, unhide HKR⟩
        have e : s.erased d b = { ({ s with era := put2 s.era d b (inc (s.era d b)) } : Nd).begun with held := s.ha d b } := by
          unfold Nd.erased
          rw [if_pos hl]
          rfl
        rw [e]
        exact unhide HALL
  · have HE : Hid (s.err = 0) := if_neg hl
    have HM : ∀ a, Hid (s.mixed a ones60 = ones60) := fun a => if_neg hl
    rw [show decide (({ s with era := put2 s.era d b (inc (s.era d b)) } : Nd).left = 1) = false from decide_eq_false hl]
    go_wp2_with fail
    clear c3 cd cb
    go_loopw [10] (fun q10 wr => ∃ (k : Nat) (hv : Nat → Nat → Nat → Value), q10 = .int .i64 k ∧ k ≤ s.P ∧ Hid (RA m wr { L with hv } { ({ s with era := put2 s.era d b (inc (s.era d b)) } : Nd).begun with held := s.hk d b k }) ∧ Hid (Kr m w wr)) (fun q10 _ => s.P - (intOf q10).toNat)
    case atStart => exact ⟨0, L.hv, rfl, by omega, (by rw [hk_zero]; exact HN3), HK3⟩
    case round =>
      clear HN3 HK3
      obtain ⟨k, hv, rfl, hk, HNR, HKR⟩ := hrel
      have c2 : wr.cell? ⟨L.n, 2, none⟩ = some (.int .i64 (s.P : Int)) := (unhide HNR).tc 2 rfl
      by_cases hk2 : k < s.P
      · have hk1 : (k : Int) < (s.P : Int) := by omega
        have hk8 : (k : Int) ≤ 8 := by have := (unhide HNR).ok.p; have : s.P ≤ 8 := this; omega
        go_wp2_with fail
        clear c2
        have HND : Hid (RA m wr.drew { L with hv } { ({ s with era := put2 s.era d b (inc (s.era d b)) } : Nd).begun with held := s.hk d b k }) := (unhide HNR).lie (fun _ _ _ _ _ h => h)
        have HK0 := hide (unhide HKR).drew
        clear HNR HKR
        refine wp_region_noPanic ?_
        refine wp_region_held_drew (S := fun W => W.cell? ⟨L.bs d, b * 4, none⟩ = some (.slice (some ⟨L.ps d b, 0, none⟩) s.P (L.cp d b))) (by kernel_rfl) ?_ (fun hHeld => ?_)
        · exact (unhide HND).bc (j := 0) hd hb (by omega)
        have HH := hide hHeld
        clear hHeld
        generalize wr.drew = W2 at HND HK0 HH ⊢
        refine takeL (i := 0) (v := ?_) rfl (by kernel_rfl) (by kernel_rfl) (by kernel_rfl) (fun _ _ _ h => h) (Or.inl ⟨by rfl, ?_⟩) (unhide HH) ?_
        rotate_left 1
        · intro W s1; have hs1 : W.cell? ⟨L.bs d, b * 4, none⟩ = some (.slice (some ⟨L.ps d b, 0, none⟩) s.P (L.cp d b)) := s1; clear s1; go_simp; all_goals (with_reducible rfl)
        (try simp only [Act.put, List.setIfInBounds_toArray, List.set_cons_zero, List.set_cons_succ])
        refine takeL (i := 1) (v := ?_) rfl (by kernel_rfl) (by kernel_rfl) (by kernel_rfl) (fun _ _ _ h => h) (Or.inl ⟨by rfl, ?_⟩) (unhide HH) ?_
        rotate_left 1
        · intro W s1; have hs1 : W.cell? ⟨L.bs d, b * 4, none⟩ = some (.slice (some ⟨L.ps d b, 0, none⟩) s.P (L.cp d b)) := s1; clear s1; go_simp; all_goals (with_reducible rfl)
        (try simp only [Act.put, List.setIfInBounds_toArray, List.set_cons_zero, List.set_cons_succ])
        refine takeL (i := 2) (v := ?_) rfl (by kernel_rfl) (by kernel_rfl) (by kernel_rfl) (fun _ _ _ h => h) (Or.inl ⟨by rfl, ?_⟩) (unhide HH) ?_
        rotate_left 1
        · intro W s1; have hs1 : W.cell? ⟨L.bs d, b * 4, none⟩ = some (.slice (some ⟨L.ps d b, 0, none⟩) s.P (L.cp d b)) := s1; clear s1; go_simp; all_goals (with_reducible rfl)
        (try simp only [Act.put, List.setIfInBounds_toArray, List.set_cons_zero, List.set_cons_succ])
        refine takeL (i := 3) (v := ?_) rfl (by kernel_rfl) (by kernel_rfl) (by kernel_rfl) (fun _ _ _ h => h) (Or.inl ⟨by rfl, ?_⟩) (unhide HH) ?_
        rotate_left 1
        · intro W s1; have hs1 : W.cell? ⟨L.bs d, b * 4, none⟩ = some (.slice (some ⟨L.ps d b, 0, none⟩) s.P (L.cp d b)) := s1; clear s1; go_simp; all_goals (with_reducible rfl)
        (try simp only [Act.put, List.setIfInBounds_toArray, List.set_cons_zero, List.set_cons_succ])
        refine takeL (i := 4) (v := ?_) rfl (by kernel_rfl) (by kernel_rfl) (by kernel_rfl) (fun _ _ _ h => h) (Or.inl ⟨by rfl, ?_⟩) (unhide HH) ?_
        rotate_left 1
        · intro W s1; have hs1 : W.cell? ⟨L.bs d, b * 4, none⟩ = some (.slice (some ⟨L.ps d b, 0, none⟩) s.P (L.cp d b)) := s1; clear s1; go_simp; all_goals (with_reducible rfl)
        (try simp only [Act.put, List.setIfInBounds_toArray, List.set_cons_zero, List.set_cons_succ])
        refine wpAnyH_ready (rs := [5]) (by kernel_rfl) (by simp) ?_
        refine consL rfl (fun K hK => ?_) AllReadyH.nil
        go_simp
        refine (rones_any W2).mono ?_
        rintro e W4 ⟨v4, rfl, hF4, hb4⟩
        go_wp2_with fail
        have hN4 := (unhide HND).below hb4
        obtain ⟨o4, n4, c4, rfl⟩ : ∃ o n c, v4 = .slice o n c := by
          obtain ⟨o, c, h⟩ := hF4.shape
          exact ⟨o, _, c, h⟩
        refine hK.out _ _ ((hN4).bc (j := 0) hd hb (by omega)) (fun hHeld => ?_)
        clear hK K HH
        have HH := hide hHeld
        clear hHeld
        (try simp only [Act.put, List.setIfInBounds_toArray, List.set_cons_zero, List.set_cons_succ])
        have hs := hN4.setP hd hb hk2 _ (s.mixed (s.held d b k) ones60) (by rw [unhide (HM _)]; exact hF4.low) (by rw [unhide (HM _)]; exact ones60_len) (by rw [unhide (HM _)]; exact ones60_bs)
        have HN4 := hide hN4
        have HS := hide hs.1
        have HKR := hide (((unhide HK0).trans (Kr.of_below hb4 (Nat.le_of_lt (unhide HND).n_lt))).trans hs.2)
        clear hs hN4 hF4 hb4 HND HK0
        refine takeL (i := 6) (v := ?_) rfl (by kernel_rfl) (by kernel_rfl) (by kernel_rfl) (fun _ _ _ h => h) (Or.inl ⟨by rfl, ?_⟩) (unhide HH) ?_
        rotate_left 1
        · intro W s1; have hs1 : W.cell? ⟨L.bs d, b * 4, none⟩ = some (.slice (some ⟨L.ps d b, 0, none⟩) s.P (L.cp d b)) := s1; clear s1; go_simp; all_goals (with_reducible rfl)
        (try simp only [Act.put, List.setIfInBounds_toArray, List.set_cons_zero, List.set_cons_succ])
        refine wpAnyH_ready (rs := [7]) (by kernel_rfl) (by simp) ?_
        refine consL rfl (fun K hK => ?_) AllReadyH.nil
        have hcc := ((unhide HN4).pg d b hd hb).cell hk2
        have hff := ((unhide HN4).pg d b hd hb).free k
        go_simp
        clear hcc hff
        refine hK.out _ _ ((unhide HS).bc (j := 0) hd hb (by omega)) (fun hHeld => ?_)
        clear hK K HH
        have HH := hide hHeld
        clear hHeld
        (try simp only [Act.put, List.setIfInBounds_toArray, List.set_cons_zero, List.set_cons_succ])
        refine wpAnyH_done (by kernel_rfl) ?_ _
        refine NoPanic.normal ?_
        have HSK : Hid (RA m (W4.setCell ⟨L.ps d b, k, none⟩ (.slice o4 n4 c4)) { L with hv := put3 hv d b k (.slice o4 n4 c4) } { ({ s with era := put2 s.era d b (inc (s.era d b)) } : Nd).begun with held := s.hk d b (k + 1) }) := by
          rw [← hk_succ s d b k]
          exact HS
        clear HS HN4
        go_wp2_with fail
        go_roundw
        case rel => exact ⟨k + 1, _, by go_num, by omega, HSK, HKR⟩
        case measure => simp [intOf]; omega
      · obtain rfl : k = s.P := by omega
        have hall := (unhide HNR).reheld (s.ha d b) (fun d' b' p' _ _ hp' => hk_all hp') (ha_len (unhide HOK) d b) (ha_bs (unhide HOK) d b)
        have HALL := hide hall
        have hs := hall.setB (d := d) (b := b) (i := 1) hd hb (by omega) (.int .i64 0) s.bad (put2 s.next d b 0) (put2 s.era d b (inc (s.era d b))) (fun d' b' => by
          unfold put2
          by_cases e : d' = d ∧ b' = b
          · rw [if_pos e]; exact Nat.zero_le _
          · rw [if_neg e]; exact (unhide HOK).nx d' b') (fun d' b' j hd' hb' hj => by
          match j, hj with
          | 1, _ =>
            show Value.int .i64 ((put2 s.next d b 0 d' b' : Nat) : Int) = _
            unfold put2
            by_cases e2 : d' = d ∧ b' = b
            · rw [if_pos e2, if_pos ⟨e2.1, e2.2, rfl⟩]; rfl
            · rw [if_neg e2, if_neg (fun h => e2 ⟨h.1, h.2.1⟩)]; rfl
          | 0, _ => rw [if_neg (fun h => by have := h.2.2; omega)]; rfl
          | 2, _ => rw [if_neg (fun h => by have := h.2.2; omega)]; rfl
          | 3, _ => rw [if_neg (fun h => by have := h.2.2; omega)]; rfl)
        have cn : wr.cell? ⟨L.bs d, b * 4 + 1, none⟩ = some (.int .i64 ((s.next d b : Nat) : Int)) := hall.bc (j := 1) hd hb (by omega)
        have fn := hall.bf (d := d) hd (b * 4 + 1)
        have HS := hide hs.1
        have HK5 := hide ((unhide HKR).trans hs.2)
        clear hs hall HNR HALL
        go_wp2_with fail
        go_returns
        refine ⟨by rw [unhide HE]; rfl, ⟨{ L with hv }, rfl, ?_⟩, unhide HK5⟩
        have e : s.erased d b = { ({ s with era := put2 s.era d b (inc (s.era d b)) } : Nd).begun with held := s.ha d b, next := put2 s.next d b 0 } := by
          unfold Nd.erased
          rw [if_neg hl]
          rfl
        rw [e]
        exact unhide HS

end Go.Proofs.Ytnondiaefpdlpaa
