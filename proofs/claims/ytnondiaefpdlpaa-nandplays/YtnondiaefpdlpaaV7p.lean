/-
  nand: Program.
-/
import Derived.Test.YtnondiaefpdlpaaV7g
import Derived.Test.YtnondiaefpdlpaaMe
import Derived.Test.YtnondiaefpdlpaaMm
namespace Go.Proofs.Ytnondiaefpdlpaa
open Go.RowKit Go.Shelf

/-- What is handed in lies ahead of flash, or among bytes. -/
def Sfe (m : Nat) (w : World) (g : Nat) (s : List Nat) : Prop := s ≠ [] → g < m ∨ Blk w g []
theorem Arg.safe {m g : Nat} {w w' : World} {v : Value} {s : List Nat} (h : Arg w v g s) (hs : Sfe m w g s) (k : Kn m w w') : Arg w' v g s := by
  by_cases hn : s = []
  · subst hn; exact h.kn k (fun h => absurd rfl h)
  · rcases hs hn with h1 | h1
    · exact h.kn k (fun _ => h1)
    · exact h.ofHeap (h1.kn k) h1 k
theorem Sfe.kn {m g : Nat} {w w' : World} {s : List Nat} (hs : Sfe m w g s) (k : Kn m w w') : Sfe m w' g s := fun h => (hs h).imp id (fun h1 => h1.kn k)
theorem Fr.safe {n m : Nat} {w : World} {v : Value} {s : List Nat} (h : Fr n w v s) (hb : Bs s) : ∃ g, Arg w v g s ∧ Sfe m w g s := by
  rcases h with ⟨rfl, rfl⟩ | ⟨g, c, h1, h2, h3, h4, h5⟩
  · exact ⟨0, nil_arg w, fun h => absurd rfl h⟩
  · refine ⟨g, by rw [h1]; exact h4.arg hb h2 h3, fun _ => .inr ?_⟩
    obtain ⟨cur, h6, _⟩ := h4
    exact ⟨cur, h6, fun j hj => by simp at hj⟩

set_option maxRecDepth 100000 in
set_option maxHeartbeats 4000000 in
theorem prog_dead {m : Nat} {w : World} {L : La} {s : Nd} (h : NA m w L s) (hd : s.dead = true) (d b p : Int) (v : Value) :
    Calls Try.prog 22 #[.pointer (some ⟨L.n, 0, none⟩), .int .i64 d, .int .i64 b, .int .i64 p, v] w fun e w' => e = .returned (.int .i64 8) ∧ w' = w := by
  have hc := h.cDead
  rw [hd] at hc
  clear h hd
  go_enter Try.func22, Try.ntmps22
  go_wp2_with fail
  go_ret
  exact ⟨rfl, rfl⟩

set_option maxRecDepth 100000 in
set_option maxHeartbeats 4000000 in
theorem prog_bad {m : Nat} {w : World} {L : La} {s : Nd} (h : NA m w L s) (hd : s.dead = false) (d b p : Int) (ao : Option Addr) (n c : Nat) (hbad : ¬ (s.Good d b p ∧ (s.next d.toNat b.toNat : Int) = p ∧ n = 60)) :
    Calls Try.prog 22 #[.pointer (some ⟨L.n, 0, none⟩), .int .i64 d, .int .i64 b, .int .i64 p, .slice ao n c] w fun e w' => e = .returned (.int .i64 1) ∧ NA m w' L { s with wrong := inc s.wrong } ∧ Kn m w w' := by
  have hc := h.cDead
  rw [hd] at hc
  have HN := hide h
  clear h hd
  by_cases h1 : s.There d b ∧ s.bad d.toNat b.toNat = false
  · obtain ⟨d, rfl⟩ := Int.eq_ofNat_of_zero_le h1.1.1.1
    obtain ⟨b, rfl⟩ := Int.eq_ofNat_of_zero_le h1.1.2.1
    have hd : d < s.D := by have := h1.1.1.2; omega
    have hb : b < s.B := by have := h1.1.2.2; omega
    have HS := hide (snd_good (L := L) hd hb h1.2)
    by_cases h2 : 0 ≤ p ∧ p < (s.P : Int)
    · obtain ⟨p, rfl⟩ := Int.eq_ofNat_of_zero_le h2.1
      have HP := hide (onS_in (g := L.ps d b) (n := 2) (show p < s.P by omega))
      have hcn : w.cell? ⟨L.bs d, b * 4 + 2, none⟩ = some (.int .i64 (s.next d b : Nat)) := (unhide HN).bc hd hb (j := 2) (by omega)
      have HCN := hide hcn
      by_cases h3 : s.next d b = p
      · have hn : n ≠ 60 := fun e => hbad ⟨⟨h1, h2⟩, by rw [Int.toNat_natCast, Int.toNat_natCast, h3], e⟩
        have hn1 : ((n : Int) == 60) = false := by rw [beq_eq_false_iff_ne]; omega
        rw [h3] at HCN
        clear hbad h1 h2 hcn h3 hn
        go_enter Try.func22, Try.ntmps22
        go_wp2_with fail
        refine (sound_any (unhide HN) _ _).mono ?_
        rintro e w ⟨rfl, rfl⟩
        rw [unhide HS]
        go_wp2_with fail
        refine (page_any (unhide HN) hd hb _).mono ?_
        rintro e w ⟨rfl, rfl⟩
        rw [unhide HP]
        have hcn := unhide HCN
        clear hc
        go_wp2_with fail
        refine (refuse_any (unhide HN)).mono ?_
        rintro e w1 ⟨rfl, hN1, hK1⟩
        have HN1 := hide hN1
        have HK1 := hide hK1
        clear hN1 hK1 hcn
        go_wp2_with fail
        go_ret
        exact ⟨rfl, unhide HN1, unhide HK1⟩
      · have hn1 : ((p : Int) == ((s.next d b : Nat) : Int)) = false := by rw [beq_eq_false_iff_ne]; omega
        clear hbad h1 h2 hcn h3
        go_enter Try.func22, Try.ntmps22
        go_wp2_with fail
        refine (sound_any (unhide HN) _ _).mono ?_
        rintro e w ⟨rfl, rfl⟩
        rw [unhide HS]
        go_wp2_with fail
        refine (page_any (unhide HN) hd hb _).mono ?_
        rintro e w ⟨rfl, rfl⟩
        rw [unhide HP]
        have hcn := unhide HCN
        clear hc
        go_wp2_with fail
        refine (refuse_any (unhide HN)).mono ?_
        rintro e w1 ⟨rfl, hN1, hK1⟩
        have HN1 := hide hN1
        have HK1 := hide hK1
        clear hN1 hK1 hcn
        go_wp2_with fail
        go_ret
        exact ⟨rfl, unhide HN1, unhide HK1⟩
    · have HP := hide (onS_out (g := L.ps d b) (n := 2) h2)
      clear hbad h1 h2
      go_enter Try.func22, Try.ntmps22
      go_wp2_with fail
      refine (sound_any (unhide HN) _ _).mono ?_
      rintro e w ⟨rfl, rfl⟩
      rw [unhide HS]
      go_wp2_with fail
      refine (page_any (unhide HN) hd hb _).mono ?_
      rintro e w ⟨rfl, rfl⟩
      rw [unhide HP]
      clear hc
      go_wp2_with fail
      refine (refuse_any (unhide HN)).mono ?_
      rintro e w1 ⟨rfl, hN1, hK1⟩
      have HN1 := hide hN1
      have HK1 := hide hK1
      clear hN1 hK1
      go_wp2_with fail
      go_ret
      exact ⟨rfl, unhide HN1, unhide HK1⟩
  · have HS := hide (snd_none (L := L) h1)
    clear hbad h1
    go_enter Try.func22, Try.ntmps22
    go_wp2_with fail
    refine (sound_any (unhide HN) _ _).mono ?_
    rintro e w ⟨rfl, rfl⟩
    rw [unhide HS]
    go_wp2_with fail
    refine (page_nil _ _).mono ?_
    rintro e w ⟨rfl, rfl⟩
    clear hc
    go_wp2_with fail
    refine (refuse_any (unhide HN)).mono ?_
    rintro e w1 ⟨rfl, hN1, hK1⟩
    have HN1 := hide hN1
    have HK1 := hide hK1
    clear hN1 hK1
    go_wp2_with fail
    go_ret
    exact ⟨rfl, unhide HN1, unhide HK1⟩

/-- A page is programmed. -/
def Nd.progd (s : Nd) (d b p : Nat) (x : List Nat) : Nd := { s.begun with held := put3 s.held d b p (s.mixed ones60 x), next := put2 s.next d b (p + 1) }

theorem mixed_len {s : Nd} {a b : List Nat} (ha : a.length = 60) (hb : b.length = 60) : (s.mixed a b).length = 60 := by
  unfold Nd.mixed
  split
  · rw [mixL_len (by omega)]; exact ha
  · exact hb
theorem mixed_bs {s : Nd} {a b : List Nat} (ha : Bs a) (hb : Bs b) : Bs (s.mixed a b) := by
  unfold Nd.mixed
  split
  · exact mixL_bs _ ha hb
  · exact hb

set_option maxRecDepth 100000 in
set_option maxHeartbeats 4000000 in
theorem prog_good {m : Nat} {w : World} {L : La} {s : Nd} (h : NA m w L s) (hdd : s.dead = false) {d b p : Nat} (hd : d < s.D) (hb : b < s.B) (hbad : s.bad d b = false) (hp : p < s.P) (hnx : s.next d b = p) (v : Value) (gx : Nat) (x : List Nat) (hX : Arg w v gx x) (hXs : Sfe m w gx x) (hxl : x.length = 60) :
    Calls Try.prog 22 #[.pointer (some ⟨L.n, 0, none⟩), .int .i64 (d : Int), .int .i64 (b : Int), .int .i64 (p : Int), v] w fun e w' => e = .returned (.int .i64 s.err) ∧ (∃ L', L'.n = L.n ∧ NA m w' L' (s.progd d b p x)) ∧ Kn m w w' := by
  have hc := h.cDead
  rw [hdd] at hc
  have hcn : w.cell? ⟨L.bs d, b * 4 + 2, none⟩ = some (.int .i64 (s.next d b : Nat)) := h.bc hd hb (j := 2) (by omega)
  rw [hnx] at hcn
  have HN := hide h
  have HS := hide (snd_good (L := L) hd hb hbad)
  have HP := hide (onS_in (g := L.ps d b) (n := 2) hp)
  have HCN := hide hcn
  have HX := hide hX
  have HXS := hide hXs
  have HBX := hide hX.bs
  have hP8 := h.ok.p
  obtain ⟨xo, xc, rfl⟩ : ∃ o c, v = .slice o 60 c := by
    obtain ⟨ao, c, h1, _⟩ := hX.ex
    exact ⟨ao, c, by rw [h1, hxl]⟩
  clear h hdd hbad hcn hX hXs
  go_enter Try.func22, Try.ntmps22
  go_wp2_with fail
  refine (sound_any (unhide HN) _ _).mono ?_
  rintro e w ⟨rfl, rfl⟩
  rw [unhide HS]
  go_wp2_with fail
  refine (page_any (unhide HN) hd hb _).mono ?_
  rintro e w ⟨rfl, rfl⟩
  rw [unhide HP]
  have hcn := unhide HCN
  clear hc
  go_wp2_with fail
  refine (work_any (unhide HN)).mono ?_
  rintro e w1 ⟨dv, t, rfl, hN1, hK1, hF1, hbt, htl, hmx⟩
  have HN1 := hide hN1
  have HK1 := hide hK1
  have HF1 := hide hF1
  have HBT := hide hbt
  have HMX := hide hmx
  have HX1 := hide ((unhide HX).safe (unhide HXS) hK1)
  have HXS1 := hide ((unhide HXS).kn hK1)
  clear hN1 hK1 hF1 hbt hmx hcn HCN HX HXS
  go_wp2_with fail
  refine (allOnes_any w1).mono ?_
  rintro e w2 ⟨v1, rfl, hF2, hb2⟩
  have hm1 := (unhide HN1).n_lt
  have hk2 : Kn m w1 w2 := Kn.of_below hb2 (Nat.le_of_lt hm1)
  have HN2 := hide ((unhide HN1).below hb2)
  have HK2 := hide ((unhide HK1).trans hk2)
  obtain ⟨ga, hA1, _⟩ := hF2.arg ones60_bs
  obtain ⟨gm, hA2, _⟩ := ((unhide HF1).kn hk2).arg (unhide HBT)
  have HA1 := hide hA1
  have HA2 := hide hA2
  have HX2 := hide ((unhide HX1).below hb2)
  clear hF2 hb2 hk2 hA1 hA2 HX1 HXS1 HF1
  go_wp2_with fail
  refine (mix_any _ _ _ ga gx gm _ x t w2 (unhide HA1) (unhide HX2) (unhide HA2) (by simp)).mono ?_
  rintro e w3 ⟨r, rfl, hF3, hb3⟩
  have hmxx : mixL (List.replicate 60 255) x t = s.mixed ones60 x := unhide HMX _ _ ones60_len hxl ones60_bs (unhide HBX)
  rw [hmxx] at hF3
  have hm2 := (unhide HN2).n_lt
  have hk3 : Kn m w2 w3 := Kn.of_below hb3 (Nat.le_of_lt hm2)
  have hN3 := (unhide HN2).below hb3
  have hml := mixed_len (s := s) ones60_len hxl
  have hs := hN3.setP (i := 0) hd hb hp (by omega) r (put3 s.held d b p (s.mixed ones60 x)) s.noise (put3 L.hv d b p r) L.nv
    (fun d' b' p' => by unfold put3; split; exact hml; exact hN3.ok.len d' b' p') (fun d' b' p' => by unfold put3; split; exact mixed_bs ones60_bs (unhide HBX); exact hN3.ok.bs d' b' p')
    (fun d' b' p' j hj => by
      match j, hj with
      | 0, _ =>
        show put3 L.hv d b p r d' b' p' = _
        unfold put3
        by_cases e : d' = d ∧ b' = b ∧ p' = p
        · rw [if_pos e, if_pos ⟨e.1, e.2.1, e.2.2, rfl⟩]
        · rw [if_neg e, if_neg (fun h => e ⟨h.1, h.2.1, h.2.2.1⟩)]; rfl
      | 1, _ => rw [if_neg (fun h => by have := h.2.2.2; omega)]; rfl)
    (fun d' b' p' hd' hb' hp' => by
      unfold put3
      by_cases e : d' = d ∧ b' = b ∧ p' = p
      · simp only [if_pos e]; exact hF3.low
      · simp only [if_neg e]; exact hN3.hold d' b' p' hd' hb' hp') hN3.nois
  rw [Nat.add_zero] at hs
  obtain ⟨hN4, hK4⟩ := hs
  have hcc : w3.cell? ⟨L.ps d b, p * 2, none⟩ = some (L.hv d b p) := hN3.pc hd hb hp (j := 0) (by omega)
  have hff := hN3.pf hd hb (p * 2)
  have hs5 := hN4.setB (d := d) (b := b) (i := 2) hd hb (by omega) (.int .i64 ((p + 1 : Nat) : Int)) s.bad (put2 s.next d b (p + 1)) s.era (fun d' b' => by unfold put2; split; exact hp; exact hN4.ok.nx d' b')
    (fun d' b' j hd' hb' hj => by
      match j, hj with
      | 0, _ => rw [if_neg (fun h => by have := h.2.2; omega)]; rfl
      | 1, _ => rw [if_neg (fun h => by have := h.2.2; omega)]; rfl
      | 2, _ =>
        show Value.int .i64 ((put2 s.next d b (p + 1) d' b' : Nat) : Int) = _
        unfold put2
        by_cases e : d' = d ∧ b' = b
        · rw [if_pos e, if_pos ⟨e.1, e.2, rfl⟩]
        · rw [if_neg e, if_neg (fun h => e ⟨h.1, h.2.1⟩)]; rfl
      | 3, _ => rw [if_neg (fun h => by have := h.2.2; omega)]; rfl)
  have hc5 : (w3.setCell ⟨L.ps d b, p * 2, none⟩ r).cell? ⟨L.bs d, b * 4 + 2, none⟩ = some (.int .i64 (s.next d b : Nat)) := hN4.bc hd hb (j := 2) (by omega)
  rw [hnx] at hc5
  have hf5 := hN4.bf (d := d) hd (b * 4 + 2)
  rw [show ((p + 1 : Nat) : Int) = (p : Int) + 1 from by omega] at hs5
  obtain ⟨ro, rc, rfl⟩ : ∃ o c, r = .slice o 60 c := by
    obtain ⟨o, c, h⟩ := hF3.shape
    exact ⟨o, c, by rw [h, hml]⟩
  have HN5 := hide hs5.1
  have HK5 := hide ((unhide HK2).trans (hk3.trans (hK4.trans hs5.2)))
  clear hs5 hN4 hK4 hN3 hk3 hF3 hb3 hml hmxx HMX
  go_wp2_with fail
  go_ret
  exact ⟨rfl, ⟨{ L with hv := put3 L.hv d b p (.slice ro 60 rc) }, rfl, unhide HN5⟩, unhide HK5⟩

end Go.Proofs.Ytnondiaefpdlpaa
