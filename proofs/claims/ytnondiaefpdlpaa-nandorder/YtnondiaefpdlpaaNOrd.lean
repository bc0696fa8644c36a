/-
  The walk of NandOrder.
-/
import Derived.Test.YtnondiaefpdlpaaCm
import Derived.Test.YtnondiaefpdlpaaI6
namespace Go.Proofs.Ytnondiaefpdlpaa
open Go.RowKit Go.Shelf

/-- What stands in the two blocks. -/
structure Ord (s : Nd) (nx : Nat) (wg : Nat) (x : List Nat) : Prop where
  cm : Cm 6 8 8 s
  next : s.next 1 2 = nx
  held : ∀ p, s.held 1 2 p = if p < nx then x else ones60
  other : ∀ p, s.held 1 3 p = ones60
  wrong : s.wrong = (wg : Int)

set_option maxRecDepth 100000 in
set_option maxHeartbeats 8000000 in
theorem order_walk (lo : Option Addr) (gl len cap : Nat) (zs : List Int) (u : Value) (ga : Nat) (b : List Nat) (w : World) (hz : zs.length = len) (hr : IRow w lo gl zs) (hcap : len ≤ cap) (hm : cap ≤ maxLen) (hA : Arg w u ga b) :
    Calls Try.prog 5 #[.slice lo len cap, u] w fun e w' => e = .returned (.bool true) ∧ Below w.heap.size w w' := by
  have HA := hide hA
  have HR := hide hr
  have HZ := hide hz
  have hbs := hA.bs
  have HT : Hid (Below w.heap.size w w) := Below.refl _ _
  clear hr hz hA
  have hl1 : (len : Int) ≤ 9223372036854775807 := by unfold maxLen at hm; omega
  have HONE : Hid (∀ W : World, Arg (W.alloc (.cells #[.int .u8 255] 5)) (.slice (some ⟨W.heap.size, 0, none⟩) 1 1) W.heap.size [255]) := fun W => arg_one7 W 255 (by omega)
  go_enter Try.func5, Try.ntmps5
  go_wp2_with fail
  refine (known_any _).mono ?_
  rintro e w0 ⟨rfl, hk⟩
  replace HT := hide ((unhide HT).trans (hk.mono (unhide HT).size))
  clear hk
  go_wp2_with fail
  refine (new_blank 6 8 8 _ ⟨by omega, by omega, by omega⟩).mono ?_
  rintro e w1 ⟨hk, L, rfl, hN⟩
  have hm0 := (unhide HT).size
  replace HT := hide ((unhide HT).trans (hk.mono (unhide HT).size))
  obtain ⟨m, hmm⟩ : ∃ m, w0.heap.size = m := ⟨_, rfl⟩
  rw [hmm] at hN hm0
  obtain ⟨q, hq⟩ : ∃ q, L.n = q := ⟨_, rfl⟩
  rw [hq]
  have HQ := hide hq
  have HN := hide hN
  clear hk hmm hN hq
  go_wp2_with fail
  go_loopw [7, 8, 9] (fun q7 q8 q9 wr => ∃ (i nx wg : Nat) (L : La) (s : Nd), q7 = .int .i64 nx ∧ q8 = .int .i64 wg ∧ q9 = .int .i64 i ∧ i ≤ 30 ∧ nx ≤ 8 ∧ wg ≤ i ∧ Hid (L.n = q) ∧ Hid (NA m wr L s) ∧ Hid (Ord s nx wg (by60 b)) ∧ Hid (Below w.heap.size w wr)) (fun _ _ q9 _ => 30 - (intOf q9).toNat)
  case atStart => exact ⟨0, 0, 0, L, _, rfl, rfl, rfl, by omega, by omega, by omega, HQ, HN, ⟨Cm.blank _ _ _, rfl, fun p => rfl, fun _ => rfl, rfl⟩, HT⟩
  case round =>
    obtain ⟨i, nx, wg, L, s, rfl, rfl, rfl, hi, hnx, hwg, HQ, HN, HO, HT⟩ := hrel
    have hLq := unhide HQ
    subst hLq
    by_cases hlt : i < len ∧ i < 30
    · have hi1 : (i : Int) < (len : Int) := by omega
      have hi2 : (i : Int) < 30 := by omega
      obtain ⟨o, rfl, hcell⟩ := irow_some' (unhide HR) (by rw [unhide HZ]; omega)
      have hc0 := hcell i (by rw [unhide HZ]; omega)
      have hcz := below_cell' (unhide HT) hc0 (block_lt_of_cell hc0)
      obtain ⟨z, hzz⟩ : ∃ z, zs.getD i 0 = z := ⟨_, rfl⟩
      rw [hzz] at hcz
      clear hcell hc0 hzz
      go_wp2_with fail
      refine (within7_any _ 10 _ (by omega) (by omega)).mono ?_
      rintro e wr ⟨rfl, rfl⟩
      have hp0 : 0 ≤ z % 10 := Int.emod_nonneg _ (by omega)
      have hp1 : z % 10 < 10 := Int.emod_lt_of_pos _ (by omega)
      obtain ⟨p, hp⟩ := Int.eq_ofNat_of_zero_le hp0
      rw [hp] at hp0 hp1 ⊢
      clear hp hcz
      have hp10 : p < 10 := by omega
      by_cases h9 : p = 9
      · subst h9
        go_wp2_with fail
        refine (erase_cm (d := 1) (b := 2) (unhide HN) (unhide HO).cm (by omega) (by omega)).mono ?_
        rintro e w5 ⟨rfl, ⟨L', hL', hN5⟩, hK5⟩
        have HN5 := hide hN5
        have HL5 := hide hL'
        have HT5 := hide ((unhide HT).trans (hK5.below.mono hm0))
        have HO5 : Hid (Ord { s with ops := inc s.ops, held := fun d' b' p' => if d' = 1 ∧ b' = 2 then ones60 else s.held d' b' p', era := put2 s.era 1 2 (inc (s.era 1 2)), next := put2 s.next 1 2 0 } 0 wg (by60 b)) :=
          ⟨(unhide HO).cm.upd _ _ _ _ _, rfl, fun p => by simp, fun p => by simp; exact (unhide HO).other p, (unhide HO).wrong⟩
        clear hN5 hL' hK5
        go_wp2_with fail
        go_roundw
        case rel => exact ⟨i + 1, 0, wg, L', _, rfl, rfl, by go_num, by omega, by omega, by omega, HL5, HN5, HO5, HT5⟩
        case measure => simp [intOf]; omega
      · have h9' : ((p : Int) == 9) = false := by rw [beq_eq_false_iff_ne]; omega
        go_wp2_with fail
        refine (bytes7_any _ _ b _ ((unhide HA).below (unhide HT))).mono ?_
        rintro e w5 ⟨v5, rfl, hF5, hk5⟩
        obtain ⟨g5, hA5, hS5⟩ := hF5.safe (m := m) (by60_bs hbs)
        have HA5 := hide hA5
        have HS5 := hide hS5
        have HN5 := hide ((unhide HN).below hk5)
        have HT5 := hide ((unhide HT).trans (hk5.mono (unhide HT).size))
        obtain ⟨vo, vc, rfl⟩ : ∃ o c, v5 = .slice o 60 c := by
          obtain ⟨o, c, h⟩ := hF5.shape
          exact ⟨o, c, by rw [h, by60_len]⟩
        clear hF5 hk5 hA5 hS5
        by_cases hpn : p = nx ∧ p < 8
        · obtain ⟨rfl, hp8⟩ := hpn
          have hp8' : (p : Int) < 8 := by omega
          go_wp2_with fail
          refine (prog_cm (d := 1) (b := 2) (unhide HN5) (unhide HO).cm (by omega) (by omega) hp8 (unhide HO).next _ g5 (by60 b) (unhide HA5) (unhide HS5) (by60_len b)).mono ?_
          rintro e w6 ⟨rfl, ⟨L', hL', hN6⟩, hK6⟩
          have HN6 := hide hN6
          have HL6 := hide hL'
          have HT6 := hide ((unhide HT5).trans (hK6.below.mono hm0))
          have HO6 : Hid (Ord { s with ops := inc s.ops, held := put3 s.held 1 2 p (by60 b), next := put2 s.next 1 2 (p + 1) } (p + 1) wg (by60 b)) :=
            ⟨(unhide HO).cm.upd _ _ _ _ _, put2_same s.next 1 2 (p + 1), fun r => by
              show put3 s.held 1 2 p (by60 b) 1 2 r = _
              by_cases e : r = p
              · rw [e, put3_same, if_pos (by omega)]
              · rw [put3_ne _ _ (fun h => e h.2.2), (unhide HO).held r]
                by_cases e2 : r < p
                · rw [if_pos e2, if_pos (by omega)]
                · rw [if_neg e2, if_neg (by omega)], fun r => (put3_ne s.held (d := 1) (b := 2) (p := p) (d' := 1) (b' := 3) (p' := r) (by60 b) (by omega)).trans ((unhide HO).other r), (unhide HO).wrong⟩
          clear hN6 hL' hK6 HN5 HA5 HS5
          go_wp2_with fail
          go_roundw
          case rel => exact ⟨i + 1, p + 1, wg, L', _, by go_num, rfl, by go_num, by omega, by omega, by omega, HL6, HN6, HO6, HT6⟩
          case measure => simp [intOf]; omega
        · go_wp2_with fail
          refine (prog_bad (unhide HN5) (unhide HO).cm.dead 1 2 (p : Int) _ _ _ (fun h => by
            have h1 := h.1.2.2
            rw [(unhide HO).cm.P] at h1
            have h2 := h.2.1
            rw [show (1 : Int).toNat = 1 from rfl, show (2 : Int).toNat = 2 from rfl, (unhide HO).next] at h2
            exact hpn ⟨by omega, by omega⟩)).mono ?_
          rintro e w6 ⟨rfl, hN6, hK6⟩
          have HN6 := hide hN6
          have HT6 := hide ((unhide HT5).trans (hK6.below.mono hm0))
          have HO6 : Hid (Ord { s with wrong := inc s.wrong } nx (wg + 1) (by60 b)) :=
            ⟨⟨(unhide HO).cm.D, (unhide HO).cm.B, (unhide HO).cm.P, (unhide HO).cm.bad, (unhide HO).cm.dead, (unhide HO).cm.left, (unhide HO).cm.noise⟩, (unhide HO).next, (unhide HO).held, (unhide HO).other, by
              show inc s.wrong = _
              rw [(unhide HO).wrong, inc_in (by omega) (by omega)]; omega⟩
          clear hN6 hK6 HN5 HA5 HS5
          by_cases hpn2 : p = nx
          · subst hpn2
            have hp8' : (8 : Int) ≤ (p : Int) := by omega
            go_wp2_with fail
            go_roundw
            case rel => exact ⟨i + 1, p, wg + 1, L, _, rfl, by go_num, by go_num, by omega, by omega, by omega, rfl, HN6, HO6, HT6⟩
            case measure => simp [intOf]; omega
          · have hpn3 : ((p : Int) == (nx : Int)) = false := by rw [beq_eq_false_iff_ne]; omega
            go_wp2_with fail
            go_roundw
            case rel => exact ⟨i + 1, nx, wg + 1, L, _, rfl, by go_num, by go_num, by omega, by omega, by omega, rfl, HN6, HO6, HT6⟩
            case measure => simp [intOf]; omega
    · by_cases hle : i < len
      · have hi1 : (i : Int) < (len : Int) := by omega
        have hi2 : (30 : Int) ≤ (i : Int) := by omega
        go_wp2_with fail
        clear HQ
        go_loopw [12] (fun q12 wr => ∃ (p : Nat) (s : Nd), q12 = .int .i64 p ∧ p ≤ 8 ∧ Hid (NA m wr L s) ∧ Hid (Ord s nx wg (by60 b)) ∧ Hid (Below w.heap.size w wr)) (fun q12 _ => 8 - (intOf q12).toNat)
        case atStart => exact ⟨0, s, rfl, by omega, HN, HO, HT⟩
        case round =>
          clear HN HO HT
          obtain ⟨p, s, rfl, hp, HN, HO, HT⟩ := hrel
          by_cases hp8 : p < 8
          · have hp8' : (p : Int) < 8 := by omega
            by_cases hpn : p < nx
            · have hpl : (p : Int) < (nx : Int) := by omega
              have hdc : decide (nx ≤ p) = false := by simp; omega
              have hX : s.held 1 2 p = by60 b := by rw [(unhide HO).held, if_pos hpn]
              go_wp2_with fail
              refine (read_cm (d := 1) (b := 2) (unhide HN) (unhide HO).cm (by omega) (by omega) hp8).mono ?_
              rintro e w5 ⟨v5, rfl, hF, hN5, hK5⟩
              rw [hX] at hF
              obtain ⟨o5, c5, rfl⟩ : ∃ o c, v5 = .slice o 60 c := by
                obtain ⟨o, c, h⟩ := hF.shape
                exact ⟨o, c, by rw [h, by60_len]⟩
              have H13 := hide hF
              have HN5 := hide hN5
              replace HT := hide ((unhide HT).trans (hK5.below.mono hm0))
              have HO5 : Hid (Ord { s with ops := inc s.ops } nx wg (by60 b)) := ⟨(unhide HO).cm.upd _ _ _ _ _, (unhide HO).next, (unhide HO).held, (unhide HO).other, (unhide HO).wrong⟩
              have hY : s.held 1 3 p = List.replicate 60 255 := (unhide HO).other p
              clear hF hN5 hK5 hX HN HO
              go_wp2_with fail
              refine (read_cm (d := 1) (b := 3) (unhide HN5) (unhide HO5).cm (by omega) (by omega) hp8).mono ?_
              rintro e w6 ⟨v6, rfl, hF, hN6, hK6⟩
              simp only [hY] at hF
              obtain ⟨o6, c6, rfl⟩ : ∃ o c, v6 = .slice o 60 c := by
                obtain ⟨o, c, h⟩ := hF.shape
                exact ⟨o, c, by rw [h, List.length_replicate]⟩
              obtain ⟨g6, hA6, _⟩ := hF.arg (Bs.of (fun x hx => by rw [List.eq_of_mem_replicate hx]; omega))
              obtain ⟨g5, hA5, _⟩ := ((unhide H13).kn hK6).arg (by60_bs hbs)
              replace H13 := hide hA5
              have H15 := hide hA6
              have HN := hide hN6
              replace HT := hide ((unhide HT).trans (hK6.below.mono hm0))
              have HB := hide ((unhide HA).below (unhide HT))
              have HO6 : Hid (Ord { s with ops := inc (inc s.ops) } nx wg (by60 b)) := ⟨(unhide HO5).cm.upd _ _ _ _ _, (unhide HO5).next, (unhide HO5).held, (unhide HO5).other, (unhide HO5).wrong⟩
              clear hF hN6 hK6 hA5 hA6 hY HN5 HO5
              go_wp2_with fail
              replace HT := hide ((unhide HT).drew)
              replace H13 := hide ((unhide H13).below (Below.refl _ _).drew)
              replace H15 := hide ((unhide H15).below (Below.refl _ _).drew)
              replace HB := hide ((unhide HB).below (Below.refl _ _).drew)
              replace HN := hide ((unhide HN).below (Below.refl _ _).drew)
              refine wp_region_noPanic ?_
              refine wp_region_held_drew (S := fun W => Below w6.drew.heap.size w6.drew W) (by kernel_rfl) (Below.refl _ _) (fun hHeld => ?_)
              have HH := hide hHeld
              clear hHeld
              generalize w6.drew = w21 at HT H13 H15 HB HN HH ⊢
              refine takeL (i := 0) (v := ?_) rfl (by kernel_rfl) (by kernel_rfl) (by kernel_rfl) (fun _ _ _ h => h) (Or.inl ⟨by rfl, ?_⟩) (unhide HH) ?_
              rotate_left 1
              · intro W hSW; go_simp; all_goals (with_reducible rfl)
              (try simp only [Act.put, List.setIfInBounds_toArray, List.set_cons_zero, List.set_cons_succ])
              refine takeL (i := 1) (v := ?_) rfl (by kernel_rfl) (by kernel_rfl) (by kernel_rfl) (fun _ _ _ h => h) (Or.inl ⟨by rfl, ?_⟩) (unhide HH) ?_
              rotate_left 1
              · intro W hSW; go_simp; all_goals (with_reducible rfl)
              (try simp only [Act.put, List.setIfInBounds_toArray, List.set_cons_zero, List.set_cons_succ])
              refine takeL (i := 2) (v := ?_) rfl (by kernel_rfl) (by kernel_rfl) (by kernel_rfl) (fun _ _ _ h => h) (Or.inl ⟨by rfl, ?_⟩) (unhide HH) ?_
              rotate_left 1
              · intro W hSW; go_simp; all_goals (with_reducible rfl)
              (try simp only [Act.put, List.setIfInBounds_toArray, List.set_cons_zero, List.set_cons_succ])
              refine takeL (i := 3) (v := ?_) rfl (by kernel_rfl) (by kernel_rfl) (by kernel_rfl) (fun _ _ _ h => h) (Or.inl ⟨by rfl, ?_⟩) (unhide HH) ?_
              rotate_left 1
              · intro W hSW; go_simp; all_goals (with_reducible rfl)
              (try simp only [Act.put, List.setIfInBounds_toArray, List.set_cons_zero, List.set_cons_succ])
              refine takeL (i := 4) (v := ?_) rfl (by kernel_rfl) (by kernel_rfl) (by kernel_rfl) (fun _ _ _ h => h) (Or.inl ⟨by rfl, ?_⟩) (unhide HH) ?_
              rotate_left 1
              · intro W hSW; go_simp; all_goals (with_reducible rfl)
              (try simp only [Act.put, List.setIfInBounds_toArray, List.set_cons_zero, List.set_cons_succ])
              refine takeL (i := 5) (v := ?_) rfl (by kernel_rfl) (by kernel_rfl) (by kernel_rfl) (fun _ _ _ h => h) (Or.inl ⟨by rfl, ?_⟩) (unhide HH) ?_
              rotate_left 1
              · intro W hSW; go_simp; all_goals (with_reducible rfl)
              (try simp only [Act.put, List.setIfInBounds_toArray, List.set_cons_zero, List.set_cons_succ])
              refine takeL (i := 6) (v := ?_) rfl (by kernel_rfl) (by kernel_rfl) (by kernel_rfl) (fun _ _ _ h => h) (Or.inl ⟨by rfl, ?_⟩) (unhide HH) ?_
              rotate_left 1
              · intro W hSW; go_simp; all_goals (with_reducible rfl)
              (try simp only [Act.put, List.setIfInBounds_toArray, List.set_cons_zero, List.set_cons_succ])
              refine takeL (i := 7) (v := ?_) rfl (by kernel_rfl) (by kernel_rfl) (by kernel_rfl) (fun _ _ _ h => h) (Or.inl ⟨by rfl, ?_⟩) (unhide HH) ?_
              rotate_left 1
              · intro W hSW; go_simp; all_goals (with_reducible rfl)
              (try simp only [Act.put, List.setIfInBounds_toArray, List.set_cons_zero, List.set_cons_succ])
              refine takeL (i := 8) (v := ?_) rfl (by kernel_rfl) (by kernel_rfl) (by kernel_rfl) (fun _ _ _ h => h) (Or.inl ⟨by rfl, ?_⟩) (unhide HH) ?_
              rotate_left 1
              · intro W hSW; go_simp; all_goals (with_reducible rfl)
              (try simp only [Act.put, List.setIfInBounds_toArray, List.set_cons_zero, List.set_cons_succ])
              refine takeL (i := 9) (v := ?_) rfl (by kernel_rfl) (by kernel_rfl) (by kernel_rfl) (fun _ _ _ h => h) (Or.inl ⟨by rfl, ?_⟩) (unhide HH) ?_
              rotate_left 1
              · intro W hSW; go_simp; all_goals (with_reducible rfl)
              (try simp only [Act.put, List.setIfInBounds_toArray, List.set_cons_zero, List.set_cons_succ])
              refine takeL (i := 10) (v := ?_) rfl (by kernel_rfl) (by kernel_rfl) (by kernel_rfl) (fun _ _ _ h => h) (Or.inl ⟨by rfl, ?_⟩) (unhide HH) ?_
              rotate_left 1
              · intro W hSW; go_simp; all_goals (with_reducible rfl)
              (try simp only [Act.put, List.setIfInBounds_toArray, List.set_cons_zero, List.set_cons_succ])
              refine takeL (i := 11) (v := ?_) rfl (by kernel_rfl) (by kernel_rfl) (by kernel_rfl) (fun _ _ _ h => h) (Or.inl ⟨by rfl, ?_⟩) (unhide HH) ?_
              rotate_left 1
              · intro W hSW; go_simp; all_goals (with_reducible rfl)
              (try simp only [Act.put, List.setIfInBounds_toArray, List.set_cons_zero, List.set_cons_succ])
              refine takeL (i := 12) (v := ?_) rfl (by kernel_rfl) (by kernel_rfl) (by kernel_rfl) (fun _ _ _ h => h) (Or.inl ⟨by rfl, ?_⟩) (unhide HH) ?_
              rotate_left 1
              · intro W1 hSW; have hcv := conv_arg ((unhide H13).below hSW); clear hSW; go_simp; all_goals (with_reducible rfl)
              (try simp only [Act.put, List.setIfInBounds_toArray, List.set_cons_zero, List.set_cons_succ])
              refine takeL (i := 13) (v := ?_) rfl (by kernel_rfl) (by kernel_rfl) (by kernel_rfl) (fun _ _ _ h => h) (Or.inl ⟨by rfl, ?_⟩) (unhide HH) ?_
              rotate_left 1
              · intro W hSW; go_simp; all_goals (with_reducible rfl)
              (try simp only [Act.put, List.setIfInBounds_toArray, List.set_cons_zero, List.set_cons_succ])
              refine wpAnyH_ready (rs := [14]) (by kernel_rfl) (by simp) ?_
              refine consL rfl (fun K hK => ?_) AllReadyH.nil
              go_simp
              refine (bytes7_any _ _ (b) _ (unhide HB)).mono ?_
              rintro e w22 ⟨v22, rfl, hF, hk⟩
              replace H13 := hide ((unhide H13).below hk)
              replace H15 := hide ((unhide H15).below hk)
              replace HB := hide ((unhide HB).below hk)
              replace HN := hide ((unhide HN).below hk)
              replace HT := hide ((unhide HT).trans (hk.mono (unhide HT).size))
              obtain ⟨g22, hA, hge⟩ := hF.arg (by60_bs hbs)
              obtain ⟨⟨ao22, c22, rfl, h1, h2, h3, h4⟩, _⟩ := hA
              have HA22 : Hid (Arg w22 (.slice ao22 60 c22) g22 (by60 (b))) := ⟨⟨ao22, c22, by rw [(by60_len _)], h1, h2, h3, h4⟩, (by60_bs hbs)⟩
              rw [show (by60 (b)).length = 60 from (by60_len _)]
              clear h1 h2 h3 h4 hF hge
              go_wp2_with fail
              refine hK.out _ _ hk (fun hHeld => ?_)
              clear hK K HH hHeld
              (try simp only [Act.put, List.setIfInBounds_toArray, List.set_cons_zero, List.set_cons_succ])
              refine stronger (S' := fun W => Below w22.heap.size w22 W) (fun W h => hk.trans (h.mono hk.size)) _ _ _ _ ?_
              have HH : Hid (Below w22.heap.size w22 w22) := Below.refl _ _
              clear hk
              refine takeL (i := 15) (v := ?_) rfl (by kernel_rfl) (by kernel_rfl) (by kernel_rfl) (fun _ _ _ h => h) (Or.inl ⟨by rfl, ?_⟩) (unhide HH) ?_
              rotate_left 1
              · intro W1 hSW; have hcv := conv_arg ((unhide HA22).below hSW); clear hSW; go_simp; all_goals (with_reducible rfl)
              (try simp only [Act.put, List.setIfInBounds_toArray, List.set_cons_zero, List.set_cons_succ])
              refine takeL (i := 16) (v := ?_) rfl (by kernel_rfl) (by kernel_rfl) (by kernel_rfl) (fun _ _ _ h => h) (Or.inl ⟨by rfl, ?_⟩) (unhide HH) ?_
              rotate_left 1
              · intro W hSW; go_simp; all_goals (with_reducible rfl)
              (try simp only [Act.put, List.setIfInBounds_toArray, List.set_cons_zero, List.set_cons_succ])
              refine takeL (i := 17) (v := ?_) rfl (by kernel_rfl) (by kernel_rfl) (by kernel_rfl) (fun _ _ _ h => h) (Or.inl ⟨by rfl, ?_⟩) (unhide HH) ?_
              rotate_left 1
              · intro W hSW; go_simp; all_goals (with_reducible rfl)
              (try simp only [Act.put, List.setIfInBounds_toArray, List.set_cons_zero, List.set_cons_succ])
              refine takeL (i := 18) (v := ?_) rfl (by kernel_rfl) (by kernel_rfl) (by kernel_rfl) (fun _ _ _ h => h) (Or.inl ⟨by rfl, ?_⟩) (unhide HH) ?_
              rotate_left 1
              · intro W hSW; go_simp; all_goals (with_reducible rfl)
              (try simp only [Act.put, List.setIfInBounds_toArray, List.set_cons_zero, List.set_cons_succ])
              refine takeL (i := 19) (v := ?_) rfl (by kernel_rfl) (by kernel_rfl) (by kernel_rfl) (fun _ _ _ h => h) (Or.inl ⟨by rfl, ?_⟩) (unhide HH) ?_
              rotate_left 1
              · intro W hSW; go_simp; all_goals (with_reducible rfl)
              (try simp only [Act.put, List.setIfInBounds_toArray, List.set_cons_zero, List.set_cons_succ])
              refine takeL (i := 20) (v := ?_) rfl (by kernel_rfl) (by kernel_rfl) (by kernel_rfl) (fun _ _ _ h => h) (Or.inl ⟨by rfl, ?_⟩) (unhide HH) ?_
              rotate_left 1
              · intro W hSW; go_simp; all_goals (with_reducible rfl)
              (try simp only [Act.put, List.setIfInBounds_toArray, List.set_cons_zero, List.set_cons_succ])
              refine takeL (i := 21) (v := ?_) rfl (by kernel_rfl) (by kernel_rfl) (by kernel_rfl) (fun _ _ _ h => h) (Or.inl ⟨by rfl, ?_⟩) (unhide HH) ?_
              rotate_left 1
              · intro W hSW; go_simp; all_goals (with_reducible rfl)
              (try simp only [Act.put, List.setIfInBounds_toArray, List.set_cons_zero, List.set_cons_succ])
              refine takeL (i := 22) (v := ?_) rfl (by kernel_rfl) (by kernel_rfl) (by kernel_rfl) (fun _ _ _ h => h) (Or.inl ⟨by rfl, ?_⟩) (unhide HH) ?_
              rotate_left 1
              · intro W hSW; go_simp; all_goals (with_reducible rfl)
              (try simp only [Act.put, List.setIfInBounds_toArray, List.set_cons_zero, List.set_cons_succ])
              refine takeL (i := 23) (v := ?_) rfl (by kernel_rfl) (by kernel_rfl) (by kernel_rfl) (fun _ _ _ h => h) (Or.inl ⟨by rfl, ?_⟩) (unhide HH) ?_
              rotate_left 1
              · intro W hSW; go_simp; all_goals (with_reducible rfl)
              (try simp only [Act.put, List.setIfInBounds_toArray, List.set_cons_zero, List.set_cons_succ])
              refine takeL (i := 24) (v := undef) rfl (by kernel_rfl) (by kernel_rfl) (by kernel_rfl) (fun _ _ _ h => h) (Or.inr ⟨by rfl, rfl⟩) (unhide HH) ?_
              (try simp only [Act.put, List.setIfInBounds_toArray, List.set_cons_zero, List.set_cons_succ])
              refine takeL (i := 25) (v := undef) rfl (by kernel_rfl) (by kernel_rfl) (by kernel_rfl) (fun _ _ _ h => h) (Or.inr ⟨by rfl, rfl⟩) (unhide HH) ?_
              (try simp only [Act.put, List.setIfInBounds_toArray, List.set_cons_zero, List.set_cons_succ])
              refine takeL (i := 26) (v := undef) rfl (by kernel_rfl) (by kernel_rfl) (by kernel_rfl) (fun _ _ _ h => h) (Or.inr ⟨by rfl, rfl⟩) (unhide HH) ?_
              (try simp only [Act.put, List.setIfInBounds_toArray, List.set_cons_zero, List.set_cons_succ])
              refine takeL (i := 27) (v := undef) rfl (by kernel_rfl) (by kernel_rfl) (by kernel_rfl) (fun _ _ _ h => h) (Or.inr ⟨by rfl, rfl⟩) (unhide HH) ?_
              (try simp only [Act.put, List.setIfInBounds_toArray, List.set_cons_zero, List.set_cons_succ])
              refine takeL (i := 28) (v := undef) rfl (by kernel_rfl) (by kernel_rfl) (by kernel_rfl) (fun _ _ _ h => h) (Or.inr ⟨by rfl, rfl⟩) (unhide HH) ?_
              (try simp only [Act.put, List.setIfInBounds_toArray, List.set_cons_zero, List.set_cons_succ])
              refine takeL (i := 29) (v := undef) rfl (by kernel_rfl) (by kernel_rfl) (by kernel_rfl) (fun _ _ _ h => h) (Or.inr ⟨by rfl, rfl⟩) (unhide HH) ?_
              (try simp only [Act.put, List.setIfInBounds_toArray, List.set_cons_zero, List.set_cons_succ])
              refine takeL (i := 30) (v := ?_) rfl (by kernel_rfl) (by kernel_rfl) (by kernel_rfl) (fun _ _ _ h => h) (Or.inl ⟨by rfl, ?_⟩) (unhide HH) ?_
              rotate_left 1
              · intro W hSW; go_simp; all_goals (with_reducible rfl)
              (try simp only [Act.put, List.setIfInBounds_toArray, List.set_cons_zero, List.set_cons_succ])
              refine takeL (i := 31) (v := ?_) rfl (by kernel_rfl) (by kernel_rfl) (by kernel_rfl) (fun _ _ _ h => h) (Or.inl ⟨by rfl, ?_⟩) (unhide HH) ?_
              rotate_left 1
              · intro W hSW; go_simp; all_goals (with_reducible rfl)
              (try simp only [Act.put, List.setIfInBounds_toArray, List.set_cons_zero, List.set_cons_succ])
              refine takeL (i := 32) (v := ?_) rfl (by kernel_rfl) (by kernel_rfl) (by kernel_rfl) (fun _ _ _ h => h) (Or.inl ⟨by rfl, ?_⟩) (unhide HH) ?_
              rotate_left 1
              · intro W hSW; go_simp; all_goals (with_reducible rfl)
              (try simp only [Act.put, List.setIfInBounds_toArray, List.set_cons_zero, List.set_cons_succ])
              refine takeL (i := 33) (v := ?_) rfl (by kernel_rfl) (by kernel_rfl) (by kernel_rfl) (fun _ _ _ h => h) (Or.inl ⟨by rfl, ?_⟩) (unhide HH) ?_
              rotate_left 1
              · intro W hSW; go_simp; all_goals (with_reducible rfl)
              (try simp only [Act.put, List.setIfInBounds_toArray, List.set_cons_zero, List.set_cons_succ])
              refine takeL (i := 34) (v := ?_) rfl (by kernel_rfl) (by kernel_rfl) (by kernel_rfl) (fun _ _ _ h => h) (Or.inl ⟨by rfl, ?_⟩) (unhide HH) ?_
              rotate_left 1
              · intro W1 hSW; have hcv := conv_arg ((unhide H15).below hSW); clear hSW; go_simp; all_goals (with_reducible rfl)
              (try simp only [Act.put, List.setIfInBounds_toArray, List.set_cons_zero, List.set_cons_succ])
              refine wpAnyH_ready (rs := [35]) (by kernel_rfl) (by simp) ?_
              refine consL rfl (fun K hK => ?_) AllReadyH.nil
              go_simp
              have hk : Below w22.heap.size w22 (w22.alloc (.cells #[.int .u8 255] 5)) := (Below.refl _ _).alloc (Nat.le_refl _) _
              have hA := unhide HONE w22
              generalize w22.alloc (.cells #[.int .u8 255] 5) = w23 at hk hA ⊢
              replace H13 := hide ((unhide H13).below hk)
              replace H15 := hide ((unhide H15).below hk)
              replace HB := hide ((unhide HB).below hk)
              replace HN := hide ((unhide HN).below hk)
              replace HA22 := hide ((unhide HA22).below hk)
              replace HT := hide ((unhide HT).trans (hk.mono (unhide HT).size))
              have HA23 := hide hA
              clear hA
              refine hK.out _ _ hk (fun hHeld => ?_)
              clear hK K HH hHeld
              (try simp only [Act.put, List.setIfInBounds_toArray, List.set_cons_zero, List.set_cons_succ])
              refine stronger (S' := fun W => Below w23.heap.size w23 W) (fun W h => hk.trans (h.mono hk.size)) _ _ _ _ ?_
              have HH : Hid (Below w23.heap.size w23 w23) := Below.refl _ _
              clear hk
              refine wpAnyH_ready (rs := [36]) (by kernel_rfl) (by simp) ?_
              refine consL rfl (fun K hK => ?_) AllReadyH.nil
              go_simp
              refine (bytes7_any _ _ ([255]) _ (unhide HA23)).mono ?_
              rintro e w24 ⟨v24, rfl, hF, hk⟩
              rw [by60_one] at hF
              replace H13 := hide ((unhide H13).below hk)
              replace H15 := hide ((unhide H15).below hk)
              replace HB := hide ((unhide HB).below hk)
              replace HN := hide ((unhide HN).below hk)
              replace HA22 := hide ((unhide HA22).below hk)
              replace HA23 := hide ((unhide HA23).below hk)
              replace HT := hide ((unhide HT).trans (hk.mono (unhide HT).size))
              obtain ⟨g24, hA, hge⟩ := hF.arg (Bs.of (fun x hx => by rw [List.eq_of_mem_replicate hx]; omega))
              obtain ⟨⟨ao24, c24, rfl, h1, h2, h3, h4⟩, _⟩ := hA
              have HA24 : Hid (Arg w24 (.slice ao24 60 c24) g24 (List.replicate 60 255)) := ⟨⟨ao24, c24, by rw [List.length_replicate], h1, h2, h3, h4⟩, (Bs.of (fun x hx => by rw [List.eq_of_mem_replicate hx]; omega))⟩
              rw [show (List.replicate 60 255).length = 60 from List.length_replicate]
              clear h1 h2 h3 h4 hF hge
              go_wp2_with fail
              refine hK.out _ _ hk (fun hHeld => ?_)
              clear hK K HH hHeld
              (try simp only [Act.put, List.setIfInBounds_toArray, List.set_cons_zero, List.set_cons_succ])
              refine stronger (S' := fun W => Below w24.heap.size w24 W) (fun W h => hk.trans (h.mono hk.size)) _ _ _ _ ?_
              have HH : Hid (Below w24.heap.size w24 w24) := Below.refl _ _
              clear hk
              refine takeL (i := 37) (v := ?_) rfl (by kernel_rfl) (by kernel_rfl) (by kernel_rfl) (fun _ _ _ h => h) (Or.inl ⟨by rfl, ?_⟩) (unhide HH) ?_
              rotate_left 1
              · intro W1 hSW; have hcv := conv_arg ((unhide HA24).below hSW); clear hSW; go_simp; all_goals (with_reducible rfl)
              (try simp only [Act.put, List.setIfInBounds_toArray, List.set_cons_zero, List.set_cons_succ])
              refine takeL (i := 38) (v := ?_) rfl (by kernel_rfl) (by kernel_rfl) (by kernel_rfl) (fun _ _ _ h => h) (Or.inl ⟨by rfl, ?_⟩) (unhide HH) ?_
              rotate_left 1
              · intro W hSW; go_simp; all_goals (with_reducible rfl)
              (try simp only [Act.put, List.setIfInBounds_toArray, List.set_cons_zero, List.set_cons_succ])
              refine takeL (i := 39) (v := ?_) rfl (by kernel_rfl) (by kernel_rfl) (by kernel_rfl) (fun _ _ _ h => h) (Or.inl ⟨by rfl, ?_⟩) (unhide HH) ?_
              rotate_left 1
              · intro W hSW; go_simp; all_goals (with_reducible rfl)
              (try simp only [Act.put, List.setIfInBounds_toArray, List.set_cons_zero, List.set_cons_succ])
              refine wpAnyH_done (by kernel_rfl) ?_ _
              refine NoPanic.normal ?_
              go_wp2_with fail
              go_roundw
              case rel => exact ⟨p + 1, _, by go_num, by omega, HN, HO6, HT⟩
              case measure => simp [intOf]; omega
            · have hpl : (nx : Int) ≤ (p : Int) := by omega

              have hX : s.held 1 2 p = List.replicate 60 255 := by rw [(unhide HO).held, if_neg hpn]; rfl
              go_wp2_with fail
              refine (read_cm (d := 1) (b := 2) (unhide HN) (unhide HO).cm (by omega) (by omega) hp8).mono ?_
              rintro e w5 ⟨v5, rfl, hF, hN5, hK5⟩
              rw [hX] at hF
              obtain ⟨o5, c5, rfl⟩ : ∃ o c, v5 = .slice o 60 c := by
                obtain ⟨o, c, h⟩ := hF.shape
                exact ⟨o, c, by rw [h, List.length_replicate]⟩
              have H13 := hide hF
              have HN5 := hide hN5
              replace HT := hide ((unhide HT).trans (hK5.below.mono hm0))
              have HO5 : Hid (Ord { s with ops := inc s.ops } nx wg (by60 b)) := ⟨(unhide HO).cm.upd _ _ _ _ _, (unhide HO).next, (unhide HO).held, (unhide HO).other, (unhide HO).wrong⟩
              have hY : s.held 1 3 p = List.replicate 60 255 := (unhide HO).other p
              clear hF hN5 hK5 hX HN HO
              go_wp2_with fail
              refine (read_cm (d := 1) (b := 3) (unhide HN5) (unhide HO5).cm (by omega) (by omega) hp8).mono ?_
              rintro e w6 ⟨v6, rfl, hF, hN6, hK6⟩
              simp only [hY] at hF
              obtain ⟨o6, c6, rfl⟩ : ∃ o c, v6 = .slice o 60 c := by
                obtain ⟨o, c, h⟩ := hF.shape
                exact ⟨o, c, by rw [h, List.length_replicate]⟩
              obtain ⟨g6, hA6, _⟩ := hF.arg (Bs.of (fun x hx => by rw [List.eq_of_mem_replicate hx]; omega))
              obtain ⟨g5, hA5, _⟩ := ((unhide H13).kn hK6).arg (Bs.of (fun x hx => by rw [List.eq_of_mem_replicate hx]; omega))
              replace H13 := hide hA5
              have H15 := hide hA6
              have HN := hide hN6
              replace HT := hide ((unhide HT).trans (hK6.below.mono hm0))
              have HB := hide ((unhide HA).below (unhide HT))
              have HO6 : Hid (Ord { s with ops := inc (inc s.ops) } nx wg (by60 b)) := ⟨(unhide HO5).cm.upd _ _ _ _ _, (unhide HO5).next, (unhide HO5).held, (unhide HO5).other, (unhide HO5).wrong⟩
              clear hF hN6 hK6 hA5 hA6 hY HN5 HO5
              go_wp2_with fail
              replace HT := hide ((unhide HT).drew)
              replace H13 := hide ((unhide H13).below (Below.refl _ _).drew)
              replace H15 := hide ((unhide H15).below (Below.refl _ _).drew)
              replace HB := hide ((unhide HB).below (Below.refl _ _).drew)
              replace HN := hide ((unhide HN).below (Below.refl _ _).drew)
              refine wp_region_noPanic ?_
              refine wp_region_held_drew (S := fun W => Below w6.drew.heap.size w6.drew W) (by kernel_rfl) (Below.refl _ _) (fun hHeld => ?_)
              have HH := hide hHeld
              clear hHeld
              generalize w6.drew = w21 at HT H13 H15 HB HN HH ⊢
              refine takeL (i := 0) (v := ?_) rfl (by kernel_rfl) (by kernel_rfl) (by kernel_rfl) (fun _ _ _ h => h) (Or.inl ⟨by rfl, ?_⟩) (unhide HH) ?_
              rotate_left 1
              · intro W hSW; go_simp; all_goals (with_reducible rfl)
              (try simp only [Act.put, List.setIfInBounds_toArray, List.set_cons_zero, List.set_cons_succ])
              refine takeL (i := 1) (v := ?_) rfl (by kernel_rfl) (by kernel_rfl) (by kernel_rfl) (fun _ _ _ h => h) (Or.inl ⟨by rfl, ?_⟩) (unhide HH) ?_
              rotate_left 1
              · intro W hSW; go_simp; all_goals (with_reducible rfl)
              (try simp only [Act.put, List.setIfInBounds_toArray, List.set_cons_zero, List.set_cons_succ])
              refine takeL (i := 2) (v := ?_) rfl (by kernel_rfl) (by kernel_rfl) (by kernel_rfl) (fun _ _ _ h => h) (Or.inl ⟨by rfl, ?_⟩) (unhide HH) ?_
              rotate_left 1
              · intro W hSW; go_simp; all_goals (with_reducible rfl)
              (try simp only [Act.put, List.setIfInBounds_toArray, List.set_cons_zero, List.set_cons_succ])
              refine takeL (i := 3) (v := ?_) rfl (by kernel_rfl) (by kernel_rfl) (by kernel_rfl) (fun _ _ _ h => h) (Or.inl ⟨by rfl, ?_⟩) (unhide HH) ?_
              rotate_left 1
              · intro W hSW; go_simp; all_goals (with_reducible rfl)
              (try simp only [Act.put, List.setIfInBounds_toArray, List.set_cons_zero, List.set_cons_succ])
              refine takeL (i := 4) (v := ?_) rfl (by kernel_rfl) (by kernel_rfl) (by kernel_rfl) (fun _ _ _ h => h) (Or.inl ⟨by rfl, ?_⟩) (unhide HH) ?_
              rotate_left 1
              · intro W hSW; go_simp; all_goals (with_reducible rfl)
              (try simp only [Act.put, List.setIfInBounds_toArray, List.set_cons_zero, List.set_cons_succ])
              refine takeL (i := 5) (v := ?_) rfl (by kernel_rfl) (by kernel_rfl) (by kernel_rfl) (fun _ _ _ h => h) (Or.inl ⟨by rfl, ?_⟩) (unhide HH) ?_
              rotate_left 1
              · intro W hSW; go_simp; all_goals (with_reducible rfl)
              (try simp only [Act.put, List.setIfInBounds_toArray, List.set_cons_zero, List.set_cons_succ])
              refine takeL (i := 6) (v := ?_) rfl (by kernel_rfl) (by kernel_rfl) (by kernel_rfl) (fun _ _ _ h => h) (Or.inl ⟨by rfl, ?_⟩) (unhide HH) ?_
              rotate_left 1
              · intro W hSW; go_simp; all_goals (with_reducible rfl)
              (try simp only [Act.put, List.setIfInBounds_toArray, List.set_cons_zero, List.set_cons_succ])
              refine takeL (i := 7) (v := ?_) rfl (by kernel_rfl) (by kernel_rfl) (by kernel_rfl) (fun _ _ _ h => h) (Or.inl ⟨by rfl, ?_⟩) (unhide HH) ?_
              rotate_left 1
              · intro W hSW; go_simp; all_goals (with_reducible rfl)
              (try simp only [Act.put, List.setIfInBounds_toArray, List.set_cons_zero, List.set_cons_succ])
              refine takeL (i := 8) (v := ?_) rfl (by kernel_rfl) (by kernel_rfl) (by kernel_rfl) (fun _ _ _ h => h) (Or.inl ⟨by rfl, ?_⟩) (unhide HH) ?_
              rotate_left 1
              · intro W hSW; go_simp; all_goals (with_reducible rfl)
              (try simp only [Act.put, List.setIfInBounds_toArray, List.set_cons_zero, List.set_cons_succ])
              refine takeL (i := 9) (v := ?_) rfl (by kernel_rfl) (by kernel_rfl) (by kernel_rfl) (fun _ _ _ h => h) (Or.inl ⟨by rfl, ?_⟩) (unhide HH) ?_
              rotate_left 1
              · intro W hSW; go_simp; all_goals (with_reducible rfl)
              (try simp only [Act.put, List.setIfInBounds_toArray, List.set_cons_zero, List.set_cons_succ])
              refine takeL (i := 10) (v := ?_) rfl (by kernel_rfl) (by kernel_rfl) (by kernel_rfl) (fun _ _ _ h => h) (Or.inl ⟨by rfl, ?_⟩) (unhide HH) ?_
              rotate_left 1
              · intro W hSW; go_simp; all_goals (with_reducible rfl)
              (try simp only [Act.put, List.setIfInBounds_toArray, List.set_cons_zero, List.set_cons_succ])
              refine takeL (i := 11) (v := undef) rfl (by kernel_rfl) (by kernel_rfl) (by kernel_rfl) (fun _ _ _ h => h) (Or.inr ⟨by rfl, rfl⟩) (unhide HH) ?_
              (try simp only [Act.put, List.setIfInBounds_toArray, List.set_cons_zero, List.set_cons_succ])
              refine takeL (i := 12) (v := undef) rfl (by kernel_rfl) (by kernel_rfl) (by kernel_rfl) (fun _ _ _ h => h) (Or.inr ⟨by rfl, rfl⟩) (unhide HH) ?_
              (try simp only [Act.put, List.setIfInBounds_toArray, List.set_cons_zero, List.set_cons_succ])
              refine takeL (i := 13) (v := undef) rfl (by kernel_rfl) (by kernel_rfl) (by kernel_rfl) (fun _ _ _ h => h) (Or.inr ⟨by rfl, rfl⟩) (unhide HH) ?_
              (try simp only [Act.put, List.setIfInBounds_toArray, List.set_cons_zero, List.set_cons_succ])
              refine takeL (i := 14) (v := undef) rfl (by kernel_rfl) (by kernel_rfl) (by kernel_rfl) (fun _ _ _ h => h) (Or.inr ⟨by rfl, rfl⟩) (unhide HH) ?_
              (try simp only [Act.put, List.setIfInBounds_toArray, List.set_cons_zero, List.set_cons_succ])
              refine takeL (i := 15) (v := undef) rfl (by kernel_rfl) (by kernel_rfl) (by kernel_rfl) (fun _ _ _ h => h) (Or.inr ⟨by rfl, rfl⟩) (unhide HH) ?_
              (try simp only [Act.put, List.setIfInBounds_toArray, List.set_cons_zero, List.set_cons_succ])
              refine takeL (i := 16) (v := undef) rfl (by kernel_rfl) (by kernel_rfl) (by kernel_rfl) (fun _ _ _ h => h) (Or.inr ⟨by rfl, rfl⟩) (unhide HH) ?_
              (try simp only [Act.put, List.setIfInBounds_toArray, List.set_cons_zero, List.set_cons_succ])
              refine takeL (i := 17) (v := ?_) rfl (by kernel_rfl) (by kernel_rfl) (by kernel_rfl) (fun _ _ _ h => h) (Or.inl ⟨by rfl, ?_⟩) (unhide HH) ?_
              rotate_left 1
              · intro W hSW; go_simp; all_goals (with_reducible rfl)
              (try simp only [Act.put, List.setIfInBounds_toArray, List.set_cons_zero, List.set_cons_succ])
              refine takeL (i := 18) (v := ?_) rfl (by kernel_rfl) (by kernel_rfl) (by kernel_rfl) (fun _ _ _ h => h) (Or.inl ⟨by rfl, ?_⟩) (unhide HH) ?_
              rotate_left 1
              · intro W hSW; go_simp; all_goals (with_reducible rfl)
              (try simp only [Act.put, List.setIfInBounds_toArray, List.set_cons_zero, List.set_cons_succ])
              refine takeL (i := 19) (v := ?_) rfl (by kernel_rfl) (by kernel_rfl) (by kernel_rfl) (fun _ _ _ h => h) (Or.inl ⟨by rfl, ?_⟩) (unhide HH) ?_
              rotate_left 1
              · intro W hSW; go_simp; all_goals (with_reducible rfl)
              (try simp only [Act.put, List.setIfInBounds_toArray, List.set_cons_zero, List.set_cons_succ])
              refine takeL (i := 20) (v := ?_) rfl (by kernel_rfl) (by kernel_rfl) (by kernel_rfl) (fun _ _ _ h => h) (Or.inl ⟨by rfl, ?_⟩) (unhide HH) ?_
              rotate_left 1
              · intro W hSW; go_simp; all_goals (with_reducible rfl)
              (try simp only [Act.put, List.setIfInBounds_toArray, List.set_cons_zero, List.set_cons_succ])
              refine takeL (i := 21) (v := ?_) rfl (by kernel_rfl) (by kernel_rfl) (by kernel_rfl) (fun _ _ _ h => h) (Or.inl ⟨by rfl, ?_⟩) (unhide HH) ?_
              rotate_left 1
              · intro W hSW; go_simp; all_goals (with_reducible rfl)
              (try simp only [Act.put, List.setIfInBounds_toArray, List.set_cons_zero, List.set_cons_succ])
              refine takeL (i := 22) (v := ?_) rfl (by kernel_rfl) (by kernel_rfl) (by kernel_rfl) (fun _ _ _ h => h) (Or.inl ⟨by rfl, ?_⟩) (unhide HH) ?_
              rotate_left 1
              · intro W hSW; go_simp; all_goals (with_reducible rfl)
              (try simp only [Act.put, List.setIfInBounds_toArray, List.set_cons_zero, List.set_cons_succ])
              refine takeL (i := 23) (v := ?_) rfl (by kernel_rfl) (by kernel_rfl) (by kernel_rfl) (fun _ _ _ h => h) (Or.inl ⟨by rfl, ?_⟩) (unhide HH) ?_
              rotate_left 1
              · intro W hSW; go_simp; all_goals (with_reducible rfl)
              (try simp only [Act.put, List.setIfInBounds_toArray, List.set_cons_zero, List.set_cons_succ])
              refine takeL (i := 24) (v := ?_) rfl (by kernel_rfl) (by kernel_rfl) (by kernel_rfl) (fun _ _ _ h => h) (Or.inl ⟨by rfl, ?_⟩) (unhide HH) ?_
              rotate_left 1
              · intro W hSW; go_simp; all_goals (with_reducible rfl)
              (try simp only [Act.put, List.setIfInBounds_toArray, List.set_cons_zero, List.set_cons_succ])
              refine takeL (i := 25) (v := ?_) rfl (by kernel_rfl) (by kernel_rfl) (by kernel_rfl) (fun _ _ _ h => h) (Or.inl ⟨by rfl, ?_⟩) (unhide HH) ?_
              rotate_left 1
              · intro W1 hSW; have hcv := conv_arg ((unhide H13).below hSW); clear hSW; go_simp; all_goals (with_reducible rfl)
              (try simp only [Act.put, List.setIfInBounds_toArray, List.set_cons_zero, List.set_cons_succ])
              refine wpAnyH_ready (rs := [26]) (by kernel_rfl) (by simp) ?_
              refine consL rfl (fun K hK => ?_) AllReadyH.nil
              go_simp
              have hk : Below w21.heap.size w21 (w21.alloc (.cells #[.int .u8 255] 5)) := (Below.refl _ _).alloc (Nat.le_refl _) _
              have hA := unhide HONE w21
              generalize w21.alloc (.cells #[.int .u8 255] 5) = w22 at hk hA ⊢
              replace H13 := hide ((unhide H13).below hk)
              replace H15 := hide ((unhide H15).below hk)
              replace HB := hide ((unhide HB).below hk)
              replace HN := hide ((unhide HN).below hk)
              replace HT := hide ((unhide HT).trans (hk.mono (unhide HT).size))
              have HA22 := hide hA
              clear hA
              refine hK.out _ _ hk (fun hHeld => ?_)
              clear hK K HH hHeld
              (try simp only [Act.put, List.setIfInBounds_toArray, List.set_cons_zero, List.set_cons_succ])
              refine stronger (S' := fun W => Below w22.heap.size w22 W) (fun W h => hk.trans (h.mono hk.size)) _ _ _ _ ?_
              have HH : Hid (Below w22.heap.size w22 w22) := Below.refl _ _
              clear hk
              refine wpAnyH_ready (rs := [27]) (by kernel_rfl) (by simp) ?_
              refine consL rfl (fun K hK => ?_) AllReadyH.nil
              go_simp
              refine (bytes7_any _ _ ([255]) _ (unhide HA22)).mono ?_
              rintro e w23 ⟨v23, rfl, hF, hk⟩
              rw [by60_one] at hF
              replace H13 := hide ((unhide H13).below hk)
              replace H15 := hide ((unhide H15).below hk)
              replace HB := hide ((unhide HB).below hk)
              replace HN := hide ((unhide HN).below hk)
              replace HA22 := hide ((unhide HA22).below hk)
              replace HT := hide ((unhide HT).trans (hk.mono (unhide HT).size))
              obtain ⟨g23, hA, hge⟩ := hF.arg (Bs.of (fun x hx => by rw [List.eq_of_mem_replicate hx]; omega))
              obtain ⟨⟨ao23, c23, rfl, h1, h2, h3, h4⟩, _⟩ := hA
              have HA23 : Hid (Arg w23 (.slice ao23 60 c23) g23 (List.replicate 60 255)) := ⟨⟨ao23, c23, by rw [List.length_replicate], h1, h2, h3, h4⟩, (Bs.of (fun x hx => by rw [List.eq_of_mem_replicate hx]; omega))⟩
              rw [show (List.replicate 60 255).length = 60 from List.length_replicate]
              clear h1 h2 h3 h4 hF hge
              go_wp2_with fail
              refine hK.out _ _ hk (fun hHeld => ?_)
              clear hK K HH hHeld
              (try simp only [Act.put, List.setIfInBounds_toArray, List.set_cons_zero, List.set_cons_succ])
              refine stronger (S' := fun W => Below w23.heap.size w23 W) (fun W h => hk.trans (h.mono hk.size)) _ _ _ _ ?_
              have HH : Hid (Below w23.heap.size w23 w23) := Below.refl _ _
              clear hk
              refine takeL (i := 28) (v := ?_) rfl (by kernel_rfl) (by kernel_rfl) (by kernel_rfl) (fun _ _ _ h => h) (Or.inl ⟨by rfl, ?_⟩) (unhide HH) ?_
              rotate_left 1
              · intro W1 hSW; have hcv := conv_arg ((unhide HA23).below hSW); clear hSW; go_simp; all_goals (with_reducible rfl)
              (try simp only [Act.put, List.setIfInBounds_toArray, List.set_cons_zero, List.set_cons_succ])
              refine takeL (i := 29) (v := ?_) rfl (by kernel_rfl) (by kernel_rfl) (by kernel_rfl) (fun _ _ _ h => h) (Or.inl ⟨by rfl, ?_⟩) (unhide HH) ?_
              rotate_left 1
              · intro W hSW; go_simp; all_goals (with_reducible rfl)
              (try simp only [Act.put, List.setIfInBounds_toArray, List.set_cons_zero, List.set_cons_succ])
              refine takeL (i := 30) (v := ?_) rfl (by kernel_rfl) (by kernel_rfl) (by kernel_rfl) (fun _ _ _ h => h) (Or.inl ⟨by rfl, ?_⟩) (unhide HH) ?_
              rotate_left 1
              · intro W hSW; go_simp; all_goals (with_reducible rfl)
              (try simp only [Act.put, List.setIfInBounds_toArray, List.set_cons_zero, List.set_cons_succ])
              refine takeL (i := 31) (v := ?_) rfl (by kernel_rfl) (by kernel_rfl) (by kernel_rfl) (fun _ _ _ h => h) (Or.inl ⟨by rfl, ?_⟩) (unhide HH) ?_
              rotate_left 1
              · intro W hSW; go_simp; all_goals (with_reducible rfl)
              (try simp only [Act.put, List.setIfInBounds_toArray, List.set_cons_zero, List.set_cons_succ])
              refine takeL (i := 32) (v := ?_) rfl (by kernel_rfl) (by kernel_rfl) (by kernel_rfl) (fun _ _ _ h => h) (Or.inl ⟨by rfl, ?_⟩) (unhide HH) ?_
              rotate_left 1
              · intro W hSW; go_simp; all_goals (with_reducible rfl)
              (try simp only [Act.put, List.setIfInBounds_toArray, List.set_cons_zero, List.set_cons_succ])
              refine takeL (i := 33) (v := ?_) rfl (by kernel_rfl) (by kernel_rfl) (by kernel_rfl) (fun _ _ _ h => h) (Or.inl ⟨by rfl, ?_⟩) (unhide HH) ?_
              rotate_left 1
              · intro W hSW; go_simp; all_goals (with_reducible rfl)
              (try simp only [Act.put, List.setIfInBounds_toArray, List.set_cons_zero, List.set_cons_succ])
              refine takeL (i := 34) (v := ?_) rfl (by kernel_rfl) (by kernel_rfl) (by kernel_rfl) (fun _ _ _ h => h) (Or.inl ⟨by rfl, ?_⟩) (unhide HH) ?_
              rotate_left 1
              · intro W1 hSW; have hcv := conv_arg ((unhide H15).below hSW); clear hSW; go_simp; all_goals (with_reducible rfl)
              (try simp only [Act.put, List.setIfInBounds_toArray, List.set_cons_zero, List.set_cons_succ])
              refine wpAnyH_ready (rs := [35]) (by kernel_rfl) (by simp) ?_
              refine consL rfl (fun K hK => ?_) AllReadyH.nil
              go_simp
              have hk : Below w23.heap.size w23 (w23.alloc (.cells #[.int .u8 255] 5)) := (Below.refl _ _).alloc (Nat.le_refl _) _
              have hA := unhide HONE w23
              generalize w23.alloc (.cells #[.int .u8 255] 5) = w24 at hk hA ⊢
              replace H13 := hide ((unhide H13).below hk)
              replace H15 := hide ((unhide H15).below hk)
              replace HB := hide ((unhide HB).below hk)
              replace HN := hide ((unhide HN).below hk)
              replace HA22 := hide ((unhide HA22).below hk)
              replace HA23 := hide ((unhide HA23).below hk)
              replace HT := hide ((unhide HT).trans (hk.mono (unhide HT).size))
              have HA24 := hide hA
              clear hA
              refine hK.out _ _ hk (fun hHeld => ?_)
              clear hK K HH hHeld
              (try simp only [Act.put, List.setIfInBounds_toArray, List.set_cons_zero, List.set_cons_succ])
              refine stronger (S' := fun W => Below w24.heap.size w24 W) (fun W h => hk.trans (h.mono hk.size)) _ _ _ _ ?_
              have HH : Hid (Below w24.heap.size w24 w24) := Below.refl _ _
              clear hk
              refine wpAnyH_ready (rs := [36]) (by kernel_rfl) (by simp) ?_
              refine consL rfl (fun K hK => ?_) AllReadyH.nil
              go_simp
              refine (bytes7_any _ _ ([255]) _ (unhide HA24)).mono ?_
              rintro e w25 ⟨v25, rfl, hF, hk⟩
              rw [by60_one] at hF
              replace H13 := hide ((unhide H13).below hk)
              replace H15 := hide ((unhide H15).below hk)
              replace HB := hide ((unhide HB).below hk)
              replace HN := hide ((unhide HN).below hk)
              replace HA22 := hide ((unhide HA22).below hk)
              replace HA23 := hide ((unhide HA23).below hk)
              replace HA24 := hide ((unhide HA24).below hk)
              replace HT := hide ((unhide HT).trans (hk.mono (unhide HT).size))
              obtain ⟨g25, hA, hge⟩ := hF.arg (Bs.of (fun x hx => by rw [List.eq_of_mem_replicate hx]; omega))
              obtain ⟨⟨ao25, c25, rfl, h1, h2, h3, h4⟩, _⟩ := hA
              have HA25 : Hid (Arg w25 (.slice ao25 60 c25) g25 (List.replicate 60 255)) := ⟨⟨ao25, c25, by rw [List.length_replicate], h1, h2, h3, h4⟩, (Bs.of (fun x hx => by rw [List.eq_of_mem_replicate hx]; omega))⟩
              rw [show (List.replicate 60 255).length = 60 from List.length_replicate]
              clear h1 h2 h3 h4 hF hge
              go_wp2_with fail
              refine hK.out _ _ hk (fun hHeld => ?_)
              clear hK K HH hHeld
              (try simp only [Act.put, List.setIfInBounds_toArray, List.set_cons_zero, List.set_cons_succ])
              refine stronger (S' := fun W => Below w25.heap.size w25 W) (fun W h => hk.trans (h.mono hk.size)) _ _ _ _ ?_
              have HH : Hid (Below w25.heap.size w25 w25) := Below.refl _ _
              clear hk
              refine takeL (i := 37) (v := ?_) rfl (by kernel_rfl) (by kernel_rfl) (by kernel_rfl) (fun _ _ _ h => h) (Or.inl ⟨by rfl, ?_⟩) (unhide HH) ?_
              rotate_left 1
              · intro W1 hSW; have hcv := conv_arg ((unhide HA25).below hSW); clear hSW; go_simp; all_goals (with_reducible rfl)
              (try simp only [Act.put, List.setIfInBounds_toArray, List.set_cons_zero, List.set_cons_succ])
              refine takeL (i := 38) (v := ?_) rfl (by kernel_rfl) (by kernel_rfl) (by kernel_rfl) (fun _ _ _ h => h) (Or.inl ⟨by rfl, ?_⟩) (unhide HH) ?_
              rotate_left 1
              · intro W hSW; go_simp; all_goals (with_reducible rfl)
              (try simp only [Act.put, List.setIfInBounds_toArray, List.set_cons_zero, List.set_cons_succ])
              refine takeL (i := 39) (v := ?_) rfl (by kernel_rfl) (by kernel_rfl) (by kernel_rfl) (fun _ _ _ h => h) (Or.inl ⟨by rfl, ?_⟩) (unhide HH) ?_
              rotate_left 1
              · intro W hSW; go_simp; all_goals (with_reducible rfl)
              (try simp only [Act.put, List.setIfInBounds_toArray, List.set_cons_zero, List.set_cons_succ])
              refine wpAnyH_done (by kernel_rfl) ?_ _
              refine NoPanic.normal ?_
              go_wp2_with fail
              go_roundw
              case rel => exact ⟨p + 1, _, by go_num, by omega, HN, HO6, HT⟩
              case measure => simp [intOf]; omega
          · obtain rfl : p = 8 := by omega
            go_wp2_with fail
            refine (Wrong_any (unhide HN)).mono ?_
            rintro e wr ⟨rfl, rfl⟩
            rw [(unhide HO).wrong]
            go_wp2_with fail
            go_ret
            exact ⟨rfl, unhide HT⟩
      · have hi1 : (len : Int) ≤ (i : Int) := by omega
        go_wp2_with fail
        clear HQ
        go_loopw [12] (fun q12 wr => ∃ (p : Nat) (s : Nd), q12 = .int .i64 p ∧ p ≤ 8 ∧ Hid (NA m wr L s) ∧ Hid (Ord s nx wg (by60 b)) ∧ Hid (Below w.heap.size w wr)) (fun q12 _ => 8 - (intOf q12).toNat)
        case atStart => exact ⟨0, s, rfl, by omega, HN, HO, HT⟩
        case round =>
          clear HN HO HT
          obtain ⟨p, s, rfl, hp, HN, HO, HT⟩ := hrel
          by_cases hp8 : p < 8
          · have hp8' : (p : Int) < 8 := by omega
            by_cases hpn : p < nx
            · have hpl : (p : Int) < (nx : Int) := by omega
              have hdc : decide (nx ≤ p) = false := by simp; omega
              have hX : s.held 1 2 p = by60 b := by rw [(unhide HO).held, if_pos hpn]
              go_wp2_with fail
              refine (read_cm (d := 1) (b := 2) (unhide HN) (unhide HO).cm (by omega) (by omega) hp8).mono ?_
              rintro e w5 ⟨v5, rfl, hF, hN5, hK5⟩
              rw [hX] at hF
              obtain ⟨o5, c5, rfl⟩ : ∃ o c, v5 = .slice o 60 c := by
                obtain ⟨o, c, h⟩ := hF.shape
                exact ⟨o, c, by rw [h, by60_len]⟩
              have H13 := hide hF
              have HN5 := hide hN5
              replace HT := hide ((unhide HT).trans (hK5.below.mono hm0))
              have HO5 : Hid (Ord { s with ops := inc s.ops } nx wg (by60 b)) := ⟨(unhide HO).cm.upd _ _ _ _ _, (unhide HO).next, (unhide HO).held, (unhide HO).other, (unhide HO).wrong⟩
              have hY : s.held 1 3 p = List.replicate 60 255 := (unhide HO).other p
              clear hF hN5 hK5 hX HN HO
              go_wp2_with fail
              refine (read_cm (d := 1) (b := 3) (unhide HN5) (unhide HO5).cm (by omega) (by omega) hp8).mono ?_
              rintro e w6 ⟨v6, rfl, hF, hN6, hK6⟩
              simp only [hY] at hF
              obtain ⟨o6, c6, rfl⟩ : ∃ o c, v6 = .slice o 60 c := by
                obtain ⟨o, c, h⟩ := hF.shape
                exact ⟨o, c, by rw [h, List.length_replicate]⟩
              obtain ⟨g6, hA6, _⟩ := hF.arg (Bs.of (fun x hx => by rw [List.eq_of_mem_replicate hx]; omega))
              obtain ⟨g5, hA5, _⟩ := ((unhide H13).kn hK6).arg (by60_bs hbs)
              replace H13 := hide hA5
              have H15 := hide hA6
              have HN := hide hN6
              replace HT := hide ((unhide HT).trans (hK6.below.mono hm0))
              have HB := hide ((unhide HA).below (unhide HT))
              have HO6 : Hid (Ord { s with ops := inc (inc s.ops) } nx wg (by60 b)) := ⟨(unhide HO5).cm.upd _ _ _ _ _, (unhide HO5).next, (unhide HO5).held, (unhide HO5).other, (unhide HO5).wrong⟩
              clear hF hN6 hK6 hA5 hA6 hY HN5 HO5
              go_wp2_with fail
              replace HT := hide ((unhide HT).drew)
              replace H13 := hide ((unhide H13).below (Below.refl _ _).drew)
              replace H15 := hide ((unhide H15).below (Below.refl _ _).drew)
              replace HB := hide ((unhide HB).below (Below.refl _ _).drew)
              replace HN := hide ((unhide HN).below (Below.refl _ _).drew)
              refine wp_region_noPanic ?_
              refine wp_region_held_drew (S := fun W => Below w6.drew.heap.size w6.drew W) (by kernel_rfl) (Below.refl _ _) (fun hHeld => ?_)
              have HH := hide hHeld
              clear hHeld
              generalize w6.drew = w21 at HT H13 H15 HB HN HH ⊢
              refine takeL (i := 0) (v := ?_) rfl (by kernel_rfl) (by kernel_rfl) (by kernel_rfl) (fun _ _ _ h => h) (Or.inl ⟨by rfl, ?_⟩) (unhide HH) ?_
              rotate_left 1
              · intro W hSW; go_simp; all_goals (with_reducible rfl)
              (try simp only [Act.put, List.setIfInBounds_toArray, List.set_cons_zero, List.set_cons_succ])
              refine takeL (i := 1) (v := ?_) rfl (by kernel_rfl) (by kernel_rfl) (by kernel_rfl) (fun _ _ _ h => h) (Or.inl ⟨by rfl, ?_⟩) (unhide HH) ?_
              rotate_left 1
              · intro W hSW; go_simp; all_goals (with_reducible rfl)
              (try simp only [Act.put, List.setIfInBounds_toArray, List.set_cons_zero, List.set_cons_succ])
              refine takeL (i := 2) (v := ?_) rfl (by kernel_rfl) (by kernel_rfl) (by kernel_rfl) (fun _ _ _ h => h) (Or.inl ⟨by rfl, ?_⟩) (unhide HH) ?_
              rotate_left 1
              · intro W hSW; go_simp; all_goals (with_reducible rfl)
              (try simp only [Act.put, List.setIfInBounds_toArray, List.set_cons_zero, List.set_cons_succ])
              refine takeL (i := 3) (v := ?_) rfl (by kernel_rfl) (by kernel_rfl) (by kernel_rfl) (fun _ _ _ h => h) (Or.inl ⟨by rfl, ?_⟩) (unhide HH) ?_
              rotate_left 1
              · intro W hSW; go_simp; all_goals (with_reducible rfl)
              (try simp only [Act.put, List.setIfInBounds_toArray, List.set_cons_zero, List.set_cons_succ])
              refine takeL (i := 4) (v := ?_) rfl (by kernel_rfl) (by kernel_rfl) (by kernel_rfl) (fun _ _ _ h => h) (Or.inl ⟨by rfl, ?_⟩) (unhide HH) ?_
              rotate_left 1
              · intro W hSW; go_simp; all_goals (with_reducible rfl)
              (try simp only [Act.put, List.setIfInBounds_toArray, List.set_cons_zero, List.set_cons_succ])
              refine takeL (i := 5) (v := ?_) rfl (by kernel_rfl) (by kernel_rfl) (by kernel_rfl) (fun _ _ _ h => h) (Or.inl ⟨by rfl, ?_⟩) (unhide HH) ?_
              rotate_left 1
              · intro W hSW; go_simp; all_goals (with_reducible rfl)
              (try simp only [Act.put, List.setIfInBounds_toArray, List.set_cons_zero, List.set_cons_succ])
              refine takeL (i := 6) (v := ?_) rfl (by kernel_rfl) (by kernel_rfl) (by kernel_rfl) (fun _ _ _ h => h) (Or.inl ⟨by rfl, ?_⟩) (unhide HH) ?_
              rotate_left 1
              · intro W hSW; go_simp; all_goals (with_reducible rfl)
              (try simp only [Act.put, List.setIfInBounds_toArray, List.set_cons_zero, List.set_cons_succ])
              refine takeL (i := 7) (v := ?_) rfl (by kernel_rfl) (by kernel_rfl) (by kernel_rfl) (fun _ _ _ h => h) (Or.inl ⟨by rfl, ?_⟩) (unhide HH) ?_
              rotate_left 1
              · intro W hSW; go_simp; all_goals (with_reducible rfl)
              (try simp only [Act.put, List.setIfInBounds_toArray, List.set_cons_zero, List.set_cons_succ])
              refine takeL (i := 8) (v := ?_) rfl (by kernel_rfl) (by kernel_rfl) (by kernel_rfl) (fun _ _ _ h => h) (Or.inl ⟨by rfl, ?_⟩) (unhide HH) ?_
              rotate_left 1
              · intro W hSW; go_simp; all_goals (with_reducible rfl)
              (try simp only [Act.put, List.setIfInBounds_toArray, List.set_cons_zero, List.set_cons_succ])
              refine takeL (i := 9) (v := ?_) rfl (by kernel_rfl) (by kernel_rfl) (by kernel_rfl) (fun _ _ _ h => h) (Or.inl ⟨by rfl, ?_⟩) (unhide HH) ?_
              rotate_left 1
              · intro W hSW; go_simp; all_goals (with_reducible rfl)
              (try simp only [Act.put, List.setIfInBounds_toArray, List.set_cons_zero, List.set_cons_succ])
              refine takeL (i := 10) (v := ?_) rfl (by kernel_rfl) (by kernel_rfl) (by kernel_rfl) (fun _ _ _ h => h) (Or.inl ⟨by rfl, ?_⟩) (unhide HH) ?_
              rotate_left 1
              · intro W hSW; go_simp; all_goals (with_reducible rfl)
              (try simp only [Act.put, List.setIfInBounds_toArray, List.set_cons_zero, List.set_cons_succ])
              refine takeL (i := 11) (v := ?_) rfl (by kernel_rfl) (by kernel_rfl) (by kernel_rfl) (fun _ _ _ h => h) (Or.inl ⟨by rfl, ?_⟩) (unhide HH) ?_
              rotate_left 1
              · intro W hSW; go_simp; all_goals (with_reducible rfl)
              (try simp only [Act.put, List.setIfInBounds_toArray, List.set_cons_zero, List.set_cons_succ])
              refine takeL (i := 12) (v := ?_) rfl (by kernel_rfl) (by kernel_rfl) (by kernel_rfl) (fun _ _ _ h => h) (Or.inl ⟨by rfl, ?_⟩) (unhide HH) ?_
              rotate_left 1
              · intro W1 hSW; have hcv := conv_arg ((unhide H13).below hSW); clear hSW; go_simp; all_goals (with_reducible rfl)
              (try simp only [Act.put, List.setIfInBounds_toArray, List.set_cons_zero, List.set_cons_succ])
              refine takeL (i := 13) (v := ?_) rfl (by kernel_rfl) (by kernel_rfl) (by kernel_rfl) (fun _ _ _ h => h) (Or.inl ⟨by rfl, ?_⟩) (unhide HH) ?_
              rotate_left 1
              · intro W hSW; go_simp; all_goals (with_reducible rfl)
              (try simp only [Act.put, List.setIfInBounds_toArray, List.set_cons_zero, List.set_cons_succ])
              refine wpAnyH_ready (rs := [14]) (by kernel_rfl) (by simp) ?_
              refine consL rfl (fun K hK => ?_) AllReadyH.nil
              go_simp
              refine (bytes7_any _ _ (b) _ (unhide HB)).mono ?_
              rintro e w22 ⟨v22, rfl, hF, hk⟩
              replace H13 := hide ((unhide H13).below hk)
              replace H15 := hide ((unhide H15).below hk)
              replace HB := hide ((unhide HB).below hk)
              replace HN := hide ((unhide HN).below hk)
              replace HT := hide ((unhide HT).trans (hk.mono (unhide HT).size))
              obtain ⟨g22, hA, hge⟩ := hF.arg (by60_bs hbs)
              obtain ⟨⟨ao22, c22, rfl, h1, h2, h3, h4⟩, _⟩ := hA
              have HA22 : Hid (Arg w22 (.slice ao22 60 c22) g22 (by60 (b))) := ⟨⟨ao22, c22, by rw [(by60_len _)], h1, h2, h3, h4⟩, (by60_bs hbs)⟩
              rw [show (by60 (b)).length = 60 from (by60_len _)]
              clear h1 h2 h3 h4 hF hge
              go_wp2_with fail
              refine hK.out _ _ hk (fun hHeld => ?_)
              clear hK K HH hHeld
              (try simp only [Act.put, List.setIfInBounds_toArray, List.set_cons_zero, List.set_cons_succ])
              refine stronger (S' := fun W => Below w22.heap.size w22 W) (fun W h => hk.trans (h.mono hk.size)) _ _ _ _ ?_
              have HH : Hid (Below w22.heap.size w22 w22) := Below.refl _ _
              clear hk
              refine takeL (i := 15) (v := ?_) rfl (by kernel_rfl) (by kernel_rfl) (by kernel_rfl) (fun _ _ _ h => h) (Or.inl ⟨by rfl, ?_⟩) (unhide HH) ?_
              rotate_left 1
              · intro W1 hSW; have hcv := conv_arg ((unhide HA22).below hSW); clear hSW; go_simp; all_goals (with_reducible rfl)
              (try simp only [Act.put, List.setIfInBounds_toArray, List.set_cons_zero, List.set_cons_succ])
              refine takeL (i := 16) (v := ?_) rfl (by kernel_rfl) (by kernel_rfl) (by kernel_rfl) (fun _ _ _ h => h) (Or.inl ⟨by rfl, ?_⟩) (unhide HH) ?_
              rotate_left 1
              · intro W hSW; go_simp; all_goals (with_reducible rfl)
              (try simp only [Act.put, List.setIfInBounds_toArray, List.set_cons_zero, List.set_cons_succ])
              refine takeL (i := 17) (v := ?_) rfl (by kernel_rfl) (by kernel_rfl) (by kernel_rfl) (fun _ _ _ h => h) (Or.inl ⟨by rfl, ?_⟩) (unhide HH) ?_
              rotate_left 1
              · intro W hSW; go_simp; all_goals (with_reducible rfl)
              (try simp only [Act.put, List.setIfInBounds_toArray, List.set_cons_zero, List.set_cons_succ])
              refine takeL (i := 18) (v := ?_) rfl (by kernel_rfl) (by kernel_rfl) (by kernel_rfl) (fun _ _ _ h => h) (Or.inl ⟨by rfl, ?_⟩) (unhide HH) ?_
              rotate_left 1
              · intro W hSW; go_simp; all_goals (with_reducible rfl)
              (try simp only [Act.put, List.setIfInBounds_toArray, List.set_cons_zero, List.set_cons_succ])
              refine takeL (i := 19) (v := ?_) rfl (by kernel_rfl) (by kernel_rfl) (by kernel_rfl) (fun _ _ _ h => h) (Or.inl ⟨by rfl, ?_⟩) (unhide HH) ?_
              rotate_left 1
              · intro W hSW; go_simp; all_goals (with_reducible rfl)
              (try simp only [Act.put, List.setIfInBounds_toArray, List.set_cons_zero, List.set_cons_succ])
              refine takeL (i := 20) (v := ?_) rfl (by kernel_rfl) (by kernel_rfl) (by kernel_rfl) (fun _ _ _ h => h) (Or.inl ⟨by rfl, ?_⟩) (unhide HH) ?_
              rotate_left 1
              · intro W hSW; go_simp; all_goals (with_reducible rfl)
              (try simp only [Act.put, List.setIfInBounds_toArray, List.set_cons_zero, List.set_cons_succ])
              refine takeL (i := 21) (v := ?_) rfl (by kernel_rfl) (by kernel_rfl) (by kernel_rfl) (fun _ _ _ h => h) (Or.inl ⟨by rfl, ?_⟩) (unhide HH) ?_
              rotate_left 1
              · intro W hSW; go_simp; all_goals (with_reducible rfl)
              (try simp only [Act.put, List.setIfInBounds_toArray, List.set_cons_zero, List.set_cons_succ])
              refine takeL (i := 22) (v := ?_) rfl (by kernel_rfl) (by kernel_rfl) (by kernel_rfl) (fun _ _ _ h => h) (Or.inl ⟨by rfl, ?_⟩) (unhide HH) ?_
              rotate_left 1
              · intro W hSW; go_simp; all_goals (with_reducible rfl)
              (try simp only [Act.put, List.setIfInBounds_toArray, List.set_cons_zero, List.set_cons_succ])
              refine takeL (i := 23) (v := ?_) rfl (by kernel_rfl) (by kernel_rfl) (by kernel_rfl) (fun _ _ _ h => h) (Or.inl ⟨by rfl, ?_⟩) (unhide HH) ?_
              rotate_left 1
              · intro W hSW; go_simp; all_goals (with_reducible rfl)
              (try simp only [Act.put, List.setIfInBounds_toArray, List.set_cons_zero, List.set_cons_succ])
              refine takeL (i := 24) (v := undef) rfl (by kernel_rfl) (by kernel_rfl) (by kernel_rfl) (fun _ _ _ h => h) (Or.inr ⟨by rfl, rfl⟩) (unhide HH) ?_
              (try simp only [Act.put, List.setIfInBounds_toArray, List.set_cons_zero, List.set_cons_succ])
              refine takeL (i := 25) (v := undef) rfl (by kernel_rfl) (by kernel_rfl) (by kernel_rfl) (fun _ _ _ h => h) (Or.inr ⟨by rfl, rfl⟩) (unhide HH) ?_
              (try simp only [Act.put, List.setIfInBounds_toArray, List.set_cons_zero, List.set_cons_succ])
              refine takeL (i := 26) (v := undef) rfl (by kernel_rfl) (by kernel_rfl) (by kernel_rfl) (fun _ _ _ h => h) (Or.inr ⟨by rfl, rfl⟩) (unhide HH) ?_
              (try simp only [Act.put, List.setIfInBounds_toArray, List.set_cons_zero, List.set_cons_succ])
              refine takeL (i := 27) (v := undef) rfl (by kernel_rfl) (by kernel_rfl) (by kernel_rfl) (fun _ _ _ h => h) (Or.inr ⟨by rfl, rfl⟩) (unhide HH) ?_
              (try simp only [Act.put, List.setIfInBounds_toArray, List.set_cons_zero, List.set_cons_succ])
              refine takeL (i := 28) (v := undef) rfl (by kernel_rfl) (by kernel_rfl) (by kernel_rfl) (fun _ _ _ h => h) (Or.inr ⟨by rfl, rfl⟩) (unhide HH) ?_
              (try simp only [Act.put, List.setIfInBounds_toArray, List.set_cons_zero, List.set_cons_succ])
              refine takeL (i := 29) (v := undef) rfl (by kernel_rfl) (by kernel_rfl) (by kernel_rfl) (fun _ _ _ h => h) (Or.inr ⟨by rfl, rfl⟩) (unhide HH) ?_
              (try simp only [Act.put, List.setIfInBounds_toArray, List.set_cons_zero, List.set_cons_succ])
              refine takeL (i := 30) (v := ?_) rfl (by kernel_rfl) (by kernel_rfl) (by kernel_rfl) (fun _ _ _ h => h) (Or.inl ⟨by rfl, ?_⟩) (unhide HH) ?_
              rotate_left 1
              · intro W hSW; go_simp; all_goals (with_reducible rfl)
              (try simp only [Act.put, List.setIfInBounds_toArray, List.set_cons_zero, List.set_cons_succ])
              refine takeL (i := 31) (v := ?_) rfl (by kernel_rfl) (by kernel_rfl) (by kernel_rfl) (fun _ _ _ h => h) (Or.inl ⟨by rfl, ?_⟩) (unhide HH) ?_
              rotate_left 1
              · intro W hSW; go_simp; all_goals (with_reducible rfl)
              (try simp only [Act.put, List.setIfInBounds_toArray, List.set_cons_zero, List.set_cons_succ])
              refine takeL (i := 32) (v := ?_) rfl (by kernel_rfl) (by kernel_rfl) (by kernel_rfl) (fun _ _ _ h => h) (Or.inl ⟨by rfl, ?_⟩) (unhide HH) ?_
              rotate_left 1
              · intro W hSW; go_simp; all_goals (with_reducible rfl)
              (try simp only [Act.put, List.setIfInBounds_toArray, List.set_cons_zero, List.set_cons_succ])
              refine takeL (i := 33) (v := ?_) rfl (by kernel_rfl) (by kernel_rfl) (by kernel_rfl) (fun _ _ _ h => h) (Or.inl ⟨by rfl, ?_⟩) (unhide HH) ?_
              rotate_left 1
              · intro W hSW; go_simp; all_goals (with_reducible rfl)
              (try simp only [Act.put, List.setIfInBounds_toArray, List.set_cons_zero, List.set_cons_succ])
              refine takeL (i := 34) (v := ?_) rfl (by kernel_rfl) (by kernel_rfl) (by kernel_rfl) (fun _ _ _ h => h) (Or.inl ⟨by rfl, ?_⟩) (unhide HH) ?_
              rotate_left 1
              · intro W1 hSW; have hcv := conv_arg ((unhide H15).below hSW); clear hSW; go_simp; all_goals (with_reducible rfl)
              (try simp only [Act.put, List.setIfInBounds_toArray, List.set_cons_zero, List.set_cons_succ])
              refine wpAnyH_ready (rs := [35]) (by kernel_rfl) (by simp) ?_
              refine consL rfl (fun K hK => ?_) AllReadyH.nil
              go_simp
              have hk : Below w22.heap.size w22 (w22.alloc (.cells #[.int .u8 255] 5)) := (Below.refl _ _).alloc (Nat.le_refl _) _
              have hA := unhide HONE w22
              generalize w22.alloc (.cells #[.int .u8 255] 5) = w23 at hk hA ⊢
              replace H13 := hide ((unhide H13).below hk)
              replace H15 := hide ((unhide H15).below hk)
              replace HB := hide ((unhide HB).below hk)
              replace HN := hide ((unhide HN).below hk)
              replace HA22 := hide ((unhide HA22).below hk)
              replace HT := hide ((unhide HT).trans (hk.mono (unhide HT).size))
              have HA23 := hide hA
              clear hA
              refine hK.out _ _ hk (fun hHeld => ?_)
              clear hK K HH hHeld
              (try simp only [Act.put, List.setIfInBounds_toArray, List.set_cons_zero, List.set_cons_succ])
              refine stronger (S' := fun W => Below w23.heap.size w23 W) (fun W h => hk.trans (h.mono hk.size)) _ _ _ _ ?_
              have HH : Hid (Below w23.heap.size w23 w23) := Below.refl _ _
              clear hk
              refine wpAnyH_ready (rs := [36]) (by kernel_rfl) (by simp) ?_
              refine consL rfl (fun K hK => ?_) AllReadyH.nil
              go_simp
              refine (bytes7_any _ _ ([255]) _ (unhide HA23)).mono ?_
              rintro e w24 ⟨v24, rfl, hF, hk⟩
              rw [by60_one] at hF
              replace H13 := hide ((unhide H13).below hk)
              replace H15 := hide ((unhide H15).below hk)
              replace HB := hide ((unhide HB).below hk)
              replace HN := hide ((unhide HN).below hk)
              replace HA22 := hide ((unhide HA22).below hk)
              replace HA23 := hide ((unhide HA23).below hk)
              replace HT := hide ((unhide HT).trans (hk.mono (unhide HT).size))
              obtain ⟨g24, hA, hge⟩ := hF.arg (Bs.of (fun x hx => by rw [List.eq_of_mem_replicate hx]; omega))
              obtain ⟨⟨ao24, c24, rfl, h1, h2, h3, h4⟩, _⟩ := hA
              have HA24 : Hid (Arg w24 (.slice ao24 60 c24) g24 (List.replicate 60 255)) := ⟨⟨ao24, c24, by rw [List.length_replicate], h1, h2, h3, h4⟩, (Bs.of (fun x hx => by rw [List.eq_of_mem_replicate hx]; omega))⟩
              rw [show (List.replicate 60 255).length = 60 from List.length_replicate]
              clear h1 h2 h3 h4 hF hge
              go_wp2_with fail
              refine hK.out _ _ hk (fun hHeld => ?_)
              clear hK K HH hHeld
              (try simp only [Act.put, List.setIfInBounds_toArray, List.set_cons_zero, List.set_cons_succ])
              refine stronger (S' := fun W => Below w24.heap.size w24 W) (fun W h => hk.trans (h.mono hk.size)) _ _ _ _ ?_
              have HH : Hid (Below w24.heap.size w24 w24) := Below.refl _ _
              clear hk
              refine takeL (i := 37) (v := ?_) rfl (by kernel_rfl) (by kernel_rfl) (by kernel_rfl) (fun _ _ _ h => h) (Or.inl ⟨by rfl, ?_⟩) (unhide HH) ?_
              rotate_left 1
              · intro W1 hSW; have hcv := conv_arg ((unhide HA24).below hSW); clear hSW; go_simp; all_goals (with_reducible rfl)
              (try simp only [Act.put, List.setIfInBounds_toArray, List.set_cons_zero, List.set_cons_succ])
              refine takeL (i := 38) (v := ?_) rfl (by kernel_rfl) (by kernel_rfl) (by kernel_rfl) (fun _ _ _ h => h) (Or.inl ⟨by rfl, ?_⟩) (unhide HH) ?_
              rotate_left 1
              · intro W hSW; go_simp; all_goals (with_reducible rfl)
              (try simp only [Act.put, List.setIfInBounds_toArray, List.set_cons_zero, List.set_cons_succ])
              refine takeL (i := 39) (v := ?_) rfl (by kernel_rfl) (by kernel_rfl) (by kernel_rfl) (fun _ _ _ h => h) (Or.inl ⟨by rfl, ?_⟩) (unhide HH) ?_
              rotate_left 1
              · intro W hSW; go_simp; all_goals (with_reducible rfl)
              (try simp only [Act.put, List.setIfInBounds_toArray, List.set_cons_zero, List.set_cons_succ])
              refine wpAnyH_done (by kernel_rfl) ?_ _
              refine NoPanic.normal ?_
              go_wp2_with fail
              go_roundw
              case rel => exact ⟨p + 1, _, by go_num, by omega, HN, HO6, HT⟩
              case measure => simp [intOf]; omega
            · have hpl : (nx : Int) ≤ (p : Int) := by omega

              have hX : s.held 1 2 p = List.replicate 60 255 := by rw [(unhide HO).held, if_neg hpn]; rfl
              go_wp2_with fail
              refine (read_cm (d := 1) (b := 2) (unhide HN) (unhide HO).cm (by omega) (by omega) hp8).mono ?_
              rintro e w5 ⟨v5, rfl, hF, hN5, hK5⟩
              rw [hX] at hF
              obtain ⟨o5, c5, rfl⟩ : ∃ o c, v5 = .slice o 60 c := by
                obtain ⟨o, c, h⟩ := hF.shape
                exact ⟨o, c, by rw [h, List.length_replicate]⟩
              have H13 := hide hF
              have HN5 := hide hN5
              replace HT := hide ((unhide HT).trans (hK5.below.mono hm0))
              have HO5 : Hid (Ord { s with ops := inc s.ops } nx wg (by60 b)) := ⟨(unhide HO).cm.upd _ _ _ _ _, (unhide HO).next, (unhide HO).held, (unhide HO).other, (unhide HO).wrong⟩
              have hY : s.held 1 3 p = List.replicate 60 255 := (unhide HO).other p
              clear hF hN5 hK5 hX HN HO
              go_wp2_with fail
              refine (read_cm (d := 1) (b := 3) (unhide HN5) (unhide HO5).cm (by omega) (by omega) hp8).mono ?_
              rintro e w6 ⟨v6, rfl, hF, hN6, hK6⟩
              simp only [hY] at hF
              obtain ⟨o6, c6, rfl⟩ : ∃ o c, v6 = .slice o 60 c := by
                obtain ⟨o, c, h⟩ := hF.shape
                exact ⟨o, c, by rw [h, List.length_replicate]⟩
              obtain ⟨g6, hA6, _⟩ := hF.arg (Bs.of (fun x hx => by rw [List.eq_of_mem_replicate hx]; omega))
              obtain ⟨g5, hA5, _⟩ := ((unhide H13).kn hK6).arg (Bs.of (fun x hx => by rw [List.eq_of_mem_replicate hx]; omega))
              replace H13 := hide hA5
              have H15 := hide hA6
              have HN := hide hN6
              replace HT := hide ((unhide HT).trans (hK6.below.mono hm0))
              have HB := hide ((unhide HA).below (unhide HT))
              have HO6 : Hid (Ord { s with ops := inc (inc s.ops) } nx wg (by60 b)) := ⟨(unhide HO5).cm.upd _ _ _ _ _, (unhide HO5).next, (unhide HO5).held, (unhide HO5).other, (unhide HO5).wrong⟩
              clear hF hN6 hK6 hA5 hA6 hY HN5 HO5
              go_wp2_with fail
              replace HT := hide ((unhide HT).drew)
              replace H13 := hide ((unhide H13).below (Below.refl _ _).drew)
              replace H15 := hide ((unhide H15).below (Below.refl _ _).drew)
              replace HB := hide ((unhide HB).below (Below.refl _ _).drew)
              replace HN := hide ((unhide HN).below (Below.refl _ _).drew)
              refine wp_region_noPanic ?_
              refine wp_region_held_drew (S := fun W => Below w6.drew.heap.size w6.drew W) (by kernel_rfl) (Below.refl _ _) (fun hHeld => ?_)
              have HH := hide hHeld
              clear hHeld
              generalize w6.drew = w21 at HT H13 H15 HB HN HH ⊢
              refine takeL (i := 0) (v := ?_) rfl (by kernel_rfl) (by kernel_rfl) (by kernel_rfl) (fun _ _ _ h => h) (Or.inl ⟨by rfl, ?_⟩) (unhide HH) ?_
              rotate_left 1
              · intro W hSW; go_simp; all_goals (with_reducible rfl)
              (try simp only [Act.put, List.setIfInBounds_toArray, List.set_cons_zero, List.set_cons_succ])
              refine takeL (i := 1) (v := ?_) rfl (by kernel_rfl) (by kernel_rfl) (by kernel_rfl) (fun _ _ _ h => h) (Or.inl ⟨by rfl, ?_⟩) (unhide HH) ?_
              rotate_left 1
              · intro W hSW; go_simp; all_goals (with_reducible rfl)
              (try simp only [Act.put, List.setIfInBounds_toArray, List.set_cons_zero, List.set_cons_succ])
              refine takeL (i := 2) (v := ?_) rfl (by kernel_rfl) (by kernel_rfl) (by kernel_rfl) (fun _ _ _ h => h) (Or.inl ⟨by rfl, ?_⟩) (unhide HH) ?_
              rotate_left 1
              · intro W hSW; go_simp; all_goals (with_reducible rfl)
              (try simp only [Act.put, List.setIfInBounds_toArray, List.set_cons_zero, List.set_cons_succ])
              refine takeL (i := 3) (v := ?_) rfl (by kernel_rfl) (by kernel_rfl) (by kernel_rfl) (fun _ _ _ h => h) (Or.inl ⟨by rfl, ?_⟩) (unhide HH) ?_
              rotate_left 1
              · intro W hSW; go_simp; all_goals (with_reducible rfl)
              (try simp only [Act.put, List.setIfInBounds_toArray, List.set_cons_zero, List.set_cons_succ])
              refine takeL (i := 4) (v := ?_) rfl (by kernel_rfl) (by kernel_rfl) (by kernel_rfl) (fun _ _ _ h => h) (Or.inl ⟨by rfl, ?_⟩) (unhide HH) ?_
              rotate_left 1
              · intro W hSW; go_simp; all_goals (with_reducible rfl)
              (try simp only [Act.put, List.setIfInBounds_toArray, List.set_cons_zero, List.set_cons_succ])
              refine takeL (i := 5) (v := ?_) rfl (by kernel_rfl) (by kernel_rfl) (by kernel_rfl) (fun _ _ _ h => h) (Or.inl ⟨by rfl, ?_⟩) (unhide HH) ?_
              rotate_left 1
              · intro W hSW; go_simp; all_goals (with_reducible rfl)
              (try simp only [Act.put, List.setIfInBounds_toArray, List.set_cons_zero, List.set_cons_succ])
              refine takeL (i := 6) (v := ?_) rfl (by kernel_rfl) (by kernel_rfl) (by kernel_rfl) (fun _ _ _ h => h) (Or.inl ⟨by rfl, ?_⟩) (unhide HH) ?_
              rotate_left 1
              · intro W hSW; go_simp; all_goals (with_reducible rfl)
              (try simp only [Act.put, List.setIfInBounds_toArray, List.set_cons_zero, List.set_cons_succ])
              refine takeL (i := 7) (v := ?_) rfl (by kernel_rfl) (by kernel_rfl) (by kernel_rfl) (fun _ _ _ h => h) (Or.inl ⟨by rfl, ?_⟩) (unhide HH) ?_
              rotate_left 1
              · intro W hSW; go_simp; all_goals (with_reducible rfl)
              (try simp only [Act.put, List.setIfInBounds_toArray, List.set_cons_zero, List.set_cons_succ])
              refine takeL (i := 8) (v := ?_) rfl (by kernel_rfl) (by kernel_rfl) (by kernel_rfl) (fun _ _ _ h => h) (Or.inl ⟨by rfl, ?_⟩) (unhide HH) ?_
              rotate_left 1
              · intro W hSW; go_simp; all_goals (with_reducible rfl)
              (try simp only [Act.put, List.setIfInBounds_toArray, List.set_cons_zero, List.set_cons_succ])
              refine takeL (i := 9) (v := ?_) rfl (by kernel_rfl) (by kernel_rfl) (by kernel_rfl) (fun _ _ _ h => h) (Or.inl ⟨by rfl, ?_⟩) (unhide HH) ?_
              rotate_left 1
              · intro W hSW; go_simp; all_goals (with_reducible rfl)
              (try simp only [Act.put, List.setIfInBounds_toArray, List.set_cons_zero, List.set_cons_succ])
              refine takeL (i := 10) (v := ?_) rfl (by kernel_rfl) (by kernel_rfl) (by kernel_rfl) (fun _ _ _ h => h) (Or.inl ⟨by rfl, ?_⟩) (unhide HH) ?_
              rotate_left 1
              · intro W hSW; go_simp; all_goals (with_reducible rfl)
              (try simp only [Act.put, List.setIfInBounds_toArray, List.set_cons_zero, List.set_cons_succ])
              refine takeL (i := 11) (v := undef) rfl (by kernel_rfl) (by kernel_rfl) (by kernel_rfl) (fun _ _ _ h => h) (Or.inr ⟨by rfl, rfl⟩) (unhide HH) ?_
              (try simp only [Act.put, List.setIfInBounds_toArray, List.set_cons_zero, List.set_cons_succ])
              refine takeL (i := 12) (v := undef) rfl (by kernel_rfl) (by kernel_rfl) (by kernel_rfl) (fun _ _ _ h => h) (Or.inr ⟨by rfl, rfl⟩) (unhide HH) ?_
              (try simp only [Act.put, List.setIfInBounds_toArray, List.set_cons_zero, List.set_cons_succ])
              refine takeL (i := 13) (v := undef) rfl (by kernel_rfl) (by kernel_rfl) (by kernel_rfl) (fun _ _ _ h => h) (Or.inr ⟨by rfl, rfl⟩) (unhide HH) ?_
              (try simp only [Act.put, List.setIfInBounds_toArray, List.set_cons_zero, List.set_cons_succ])
              refine takeL (i := 14) (v := undef) rfl (by kernel_rfl) (by kernel_rfl) (by kernel_rfl) (fun _ _ _ h => h) (Or.inr ⟨by rfl, rfl⟩) (unhide HH) ?_
              (try simp only [Act.put, List.setIfInBounds_toArray, List.set_cons_zero, List.set_cons_succ])
              refine takeL (i := 15) (v := undef) rfl (by kernel_rfl) (by kernel_rfl) (by kernel_rfl) (fun _ _ _ h => h) (Or.inr ⟨by rfl, rfl⟩) (unhide HH) ?_
              (try simp only [Act.put, List.setIfInBounds_toArray, List.set_cons_zero, List.set_cons_succ])
              refine takeL (i := 16) (v := undef) rfl (by kernel_rfl) (by kernel_rfl) (by kernel_rfl) (fun _ _ _ h => h) (Or.inr ⟨by rfl, rfl⟩) (unhide HH) ?_
              (try simp only [Act.put, List.setIfInBounds_toArray, List.set_cons_zero, List.set_cons_succ])
              refine takeL (i := 17) (v := ?_) rfl (by kernel_rfl) (by kernel_rfl) (by kernel_rfl) (fun _ _ _ h => h) (Or.inl ⟨by rfl, ?_⟩) (unhide HH) ?_
              rotate_left 1
              · intro W hSW; go_simp; all_goals (with_reducible rfl)
              (try simp only [Act.put, List.setIfInBounds_toArray, List.set_cons_zero, List.set_cons_succ])
              refine takeL (i := 18) (v := ?_) rfl (by kernel_rfl) (by kernel_rfl) (by kernel_rfl) (fun _ _ _ h => h) (Or.inl ⟨by rfl, ?_⟩) (unhide HH) ?_
              rotate_left 1
              · intro W hSW; go_simp; all_goals (with_reducible rfl)
              (try simp only [Act.put, List.setIfInBounds_toArray, List.set_cons_zero, List.set_cons_succ])
              refine takeL (i := 19) (v := ?_) rfl (by kernel_rfl) (by kernel_rfl) (by kernel_rfl) (fun _ _ _ h => h) (Or.inl ⟨by rfl, ?_⟩) (unhide HH) ?_
              rotate_left 1
              · intro W hSW; go_simp; all_goals (with_reducible rfl)
              (try simp only [Act.put, List.setIfInBounds_toArray, List.set_cons_zero, List.set_cons_succ])
              refine takeL (i := 20) (v := ?_) rfl (by kernel_rfl) (by kernel_rfl) (by kernel_rfl) (fun _ _ _ h => h) (Or.inl ⟨by rfl, ?_⟩) (unhide HH) ?_
              rotate_left 1
              · intro W hSW; go_simp; all_goals (with_reducible rfl)
              (try simp only [Act.put, List.setIfInBounds_toArray, List.set_cons_zero, List.set_cons_succ])
              refine takeL (i := 21) (v := ?_) rfl (by kernel_rfl) (by kernel_rfl) (by kernel_rfl) (fun _ _ _ h => h) (Or.inl ⟨by rfl, ?_⟩) (unhide HH) ?_
              rotate_left 1
              · intro W hSW; go_simp; all_goals (with_reducible rfl)
              (try simp only [Act.put, List.setIfInBounds_toArray, List.set_cons_zero, List.set_cons_succ])
              refine takeL (i := 22) (v := ?_) rfl (by kernel_rfl) (by kernel_rfl) (by kernel_rfl) (fun _ _ _ h => h) (Or.inl ⟨by rfl, ?_⟩) (unhide HH) ?_
              rotate_left 1
              · intro W hSW; go_simp; all_goals (with_reducible rfl)
              (try simp only [Act.put, List.setIfInBounds_toArray, List.set_cons_zero, List.set_cons_succ])
              refine takeL (i := 23) (v := ?_) rfl (by kernel_rfl) (by kernel_rfl) (by kernel_rfl) (fun _ _ _ h => h) (Or.inl ⟨by rfl, ?_⟩) (unhide HH) ?_
              rotate_left 1
              · intro W hSW; go_simp; all_goals (with_reducible rfl)
              (try simp only [Act.put, List.setIfInBounds_toArray, List.set_cons_zero, List.set_cons_succ])
              refine takeL (i := 24) (v := ?_) rfl (by kernel_rfl) (by kernel_rfl) (by kernel_rfl) (fun _ _ _ h => h) (Or.inl ⟨by rfl, ?_⟩) (unhide HH) ?_
              rotate_left 1
              · intro W hSW; go_simp; all_goals (with_reducible rfl)
              (try simp only [Act.put, List.setIfInBounds_toArray, List.set_cons_zero, List.set_cons_succ])
              refine takeL (i := 25) (v := ?_) rfl (by kernel_rfl) (by kernel_rfl) (by kernel_rfl) (fun _ _ _ h => h) (Or.inl ⟨by rfl, ?_⟩) (unhide HH) ?_
              rotate_left 1
              · intro W1 hSW; have hcv := conv_arg ((unhide H13).below hSW); clear hSW; go_simp; all_goals (with_reducible rfl)
              (try simp only [Act.put, List.setIfInBounds_toArray, List.set_cons_zero, List.set_cons_succ])
              refine wpAnyH_ready (rs := [26]) (by kernel_rfl) (by simp) ?_
              refine consL rfl (fun K hK => ?_) AllReadyH.nil
              go_simp
              have hk : Below w21.heap.size w21 (w21.alloc (.cells #[.int .u8 255] 5)) := (Below.refl _ _).alloc (Nat.le_refl _) _
              have hA := unhide HONE w21
              generalize w21.alloc (.cells #[.int .u8 255] 5) = w22 at hk hA ⊢
              replace H13 := hide ((unhide H13).below hk)
              replace H15 := hide ((unhide H15).below hk)
              replace HB := hide ((unhide HB).below hk)
              replace HN := hide ((unhide HN).below hk)
              replace HT := hide ((unhide HT).trans (hk.mono (unhide HT).size))
              have HA22 := hide hA
              clear hA
              refine hK.out _ _ hk (fun hHeld => ?_)
              clear hK K HH hHeld
              (try simp only [Act.put, List.setIfInBounds_toArray, List.set_cons_zero, List.set_cons_succ])
              refine stronger (S' := fun W => Below w22.heap.size w22 W) (fun W h => hk.trans (h.mono hk.size)) _ _ _ _ ?_
              have HH : Hid (Below w22.heap.size w22 w22) := Below.refl _ _
              clear hk
              refine wpAnyH_ready (rs := [27]) (by kernel_rfl) (by simp) ?_
              refine consL rfl (fun K hK => ?_) AllReadyH.nil
              go_simp
              refine (bytes7_any _ _ ([255]) _ (unhide HA22)).mono ?_
              rintro e w23 ⟨v23, rfl, hF, hk⟩
              rw [by60_one] at hF
              replace H13 := hide ((unhide H13).below hk)
              replace H15 := hide ((unhide H15).below hk)
              replace HB := hide ((unhide HB).below hk)
              replace HN := hide ((unhide HN).below hk)
              replace HA22 := hide ((unhide HA22).below hk)
              replace HT := hide ((unhide HT).trans (hk.mono (unhide HT).size))
              obtain ⟨g23, hA, hge⟩ := hF.arg (Bs.of (fun x hx => by rw [List.eq_of_mem_replicate hx]; omega))
              obtain ⟨⟨ao23, c23, rfl, h1, h2, h3, h4⟩, _⟩ := hA
              have HA23 : Hid (Arg w23 (.slice ao23 60 c23) g23 (List.replicate 60 255)) := ⟨⟨ao23, c23, by rw [List.length_replicate], h1, h2, h3, h4⟩, (Bs.of (fun x hx => by rw [List.eq_of_mem_replicate hx]; omega))⟩
              rw [show (List.replicate 60 255).length = 60 from List.length_replicate]
              clear h1 h2 h3 h4 hF hge
              go_wp2_with fail
              refine hK.out _ _ hk (fun hHeld => ?_)
              clear hK K HH hHeld
              (try simp only [Act.put, List.setIfInBounds_toArray, List.set_cons_zero, List.set_cons_succ])
              refine stronger (S' := fun W => Below w23.heap.size w23 W) (fun W h => hk.trans (h.mono hk.size)) _ _ _ _ ?_
              have HH : Hid (Below w23.heap.size w23 w23) := Below.refl _ _
              clear hk
              refine takeL (i := 28) (v := ?_) rfl (by kernel_rfl) (by kernel_rfl) (by kernel_rfl) (fun _ _ _ h => h) (Or.inl ⟨by rfl, ?_⟩) (unhide HH) ?_
              rotate_left 1
              · intro W1 hSW; have hcv := conv_arg ((unhide HA23).below hSW); clear hSW; go_simp; all_goals (with_reducible rfl)
              (try simp only [Act.put, List.setIfInBounds_toArray, List.set_cons_zero, List.set_cons_succ])
              refine takeL (i := 29) (v := ?_) rfl (by kernel_rfl) (by kernel_rfl) (by kernel_rfl) (fun _ _ _ h => h) (Or.inl ⟨by rfl, ?_⟩) (unhide HH) ?_
              rotate_left 1
              · intro W hSW; go_simp; all_goals (with_reducible rfl)
              (try simp only [Act.put, List.setIfInBounds_toArray, List.set_cons_zero, List.set_cons_succ])
              refine takeL (i := 30) (v := ?_) rfl (by kernel_rfl) (by kernel_rfl) (by kernel_rfl) (fun _ _ _ h => h) (Or.inl ⟨by rfl, ?_⟩) (unhide HH) ?_
              rotate_left 1
              · intro W hSW; go_simp; all_goals (with_reducible rfl)
              (try simp only [Act.put, List.setIfInBounds_toArray, List.set_cons_zero, List.set_cons_succ])
              refine takeL (i := 31) (v := ?_) rfl (by kernel_rfl) (by kernel_rfl) (by kernel_rfl) (fun _ _ _ h => h) (Or.inl ⟨by rfl, ?_⟩) (unhide HH) ?_
              rotate_left 1
              · intro W hSW; go_simp; all_goals (with_reducible rfl)
              (try simp only [Act.put, List.setIfInBounds_toArray, List.set_cons_zero, List.set_cons_succ])
              refine takeL (i := 32) (v := ?_) rfl (by kernel_rfl) (by kernel_rfl) (by kernel_rfl) (fun _ _ _ h => h) (Or.inl ⟨by rfl, ?_⟩) (unhide HH) ?_
              rotate_left 1
              · intro W hSW; go_simp; all_goals (with_reducible rfl)
              (try simp only [Act.put, List.setIfInBounds_toArray, List.set_cons_zero, List.set_cons_succ])
              refine takeL (i := 33) (v := ?_) rfl (by kernel_rfl) (by kernel_rfl) (by kernel_rfl) (fun _ _ _ h => h) (Or.inl ⟨by rfl, ?_⟩) (unhide HH) ?_
              rotate_left 1
              · intro W hSW; go_simp; all_goals (with_reducible rfl)
              (try simp only [Act.put, List.setIfInBounds_toArray, List.set_cons_zero, List.set_cons_succ])
              refine takeL (i := 34) (v := ?_) rfl (by kernel_rfl) (by kernel_rfl) (by kernel_rfl) (fun _ _ _ h => h) (Or.inl ⟨by rfl, ?_⟩) (unhide HH) ?_
              rotate_left 1
              · intro W1 hSW; have hcv := conv_arg ((unhide H15).below hSW); clear hSW; go_simp; all_goals (with_reducible rfl)
              (try simp only [Act.put, List.setIfInBounds_toArray, List.set_cons_zero, List.set_cons_succ])
              refine wpAnyH_ready (rs := [35]) (by kernel_rfl) (by simp) ?_
              refine consL rfl (fun K hK => ?_) AllReadyH.nil
              go_simp
              have hk : Below w23.heap.size w23 (w23.alloc (.cells #[.int .u8 255] 5)) := (Below.refl _ _).alloc (Nat.le_refl _) _
              have hA := unhide HONE w23
              generalize w23.alloc (.cells #[.int .u8 255] 5) = w24 at hk hA ⊢
              replace H13 := hide ((unhide H13).below hk)
              replace H15 := hide ((unhide H15).below hk)
              replace HB := hide ((unhide HB).below hk)
              replace HN := hide ((unhide HN).below hk)
              replace HA22 := hide ((unhide HA22).below hk)
              replace HA23 := hide ((unhide HA23).below hk)
              replace HT := hide ((unhide HT).trans (hk.mono (unhide HT).size))
              have HA24 := hide hA
              clear hA
              refine hK.out _ _ hk (fun hHeld => ?_)
              clear hK K HH hHeld
              (try simp only [Act.put, List.setIfInBounds_toArray, List.set_cons_zero, List.set_cons_succ])
              refine stronger (S' := fun W => Below w24.heap.size w24 W) (fun W h => hk.trans (h.mono hk.size)) _ _ _ _ ?_
              have HH : Hid (Below w24.heap.size w24 w24) := Below.refl _ _
              clear hk
              refine wpAnyH_ready (rs := [36]) (by kernel_rfl) (by simp) ?_
              refine consL rfl (fun K hK => ?_) AllReadyH.nil
              go_simp
              refine (bytes7_any _ _ ([255]) _ (unhide HA24)).mono ?_
              rintro e w25 ⟨v25, rfl, hF, hk⟩
              rw [by60_one] at hF
              replace H13 := hide ((unhide H13).below hk)
              replace H15 := hide ((unhide H15).below hk)
              replace HB := hide ((unhide HB).below hk)
              replace HN := hide ((unhide HN).below hk)
              replace HA22 := hide ((unhide HA22).below hk)
              replace HA23 := hide ((unhide HA23).below hk)
              replace HA24 := hide ((unhide HA24).below hk)
              replace HT := hide ((unhide HT).trans (hk.mono (unhide HT).size))
              obtain ⟨g25, hA, hge⟩ := hF.arg (Bs.of (fun x hx => by rw [List.eq_of_mem_replicate hx]; omega))
              obtain ⟨⟨ao25, c25, rfl, h1, h2, h3, h4⟩, _⟩ := hA
              have HA25 : Hid (Arg w25 (.slice ao25 60 c25) g25 (List.replicate 60 255)) := ⟨⟨ao25, c25, by rw [List.length_replicate], h1, h2, h3, h4⟩, (Bs.of (fun x hx => by rw [List.eq_of_mem_replicate hx]; omega))⟩
              rw [show (List.replicate 60 255).length = 60 from List.length_replicate]
              clear h1 h2 h3 h4 hF hge
              go_wp2_with fail
              refine hK.out _ _ hk (fun hHeld => ?_)
              clear hK K HH hHeld
              (try simp only [Act.put, List.setIfInBounds_toArray, List.set_cons_zero, List.set_cons_succ])
              refine stronger (S' := fun W => Below w25.heap.size w25 W) (fun W h => hk.trans (h.mono hk.size)) _ _ _ _ ?_
              have HH : Hid (Below w25.heap.size w25 w25) := Below.refl _ _
              clear hk
              refine takeL (i := 37) (v := ?_) rfl (by kernel_rfl) (by kernel_rfl) (by kernel_rfl) (fun _ _ _ h => h) (Or.inl ⟨by rfl, ?_⟩) (unhide HH) ?_
              rotate_left 1
              · intro W1 hSW; have hcv := conv_arg ((unhide HA25).below hSW); clear hSW; go_simp; all_goals (with_reducible rfl)
              (try simp only [Act.put, List.setIfInBounds_toArray, List.set_cons_zero, List.set_cons_succ])
              refine takeL (i := 38) (v := ?_) rfl (by kernel_rfl) (by kernel_rfl) (by kernel_rfl) (fun _ _ _ h => h) (Or.inl ⟨by rfl, ?_⟩) (unhide HH) ?_
              rotate_left 1
              · intro W hSW; go_simp; all_goals (with_reducible rfl)
              (try simp only [Act.put, List.setIfInBounds_toArray, List.set_cons_zero, List.set_cons_succ])
              refine takeL (i := 39) (v := ?_) rfl (by kernel_rfl) (by kernel_rfl) (by kernel_rfl) (fun _ _ _ h => h) (Or.inl ⟨by rfl, ?_⟩) (unhide HH) ?_
              rotate_left 1
              · intro W hSW; go_simp; all_goals (with_reducible rfl)
              (try simp only [Act.put, List.setIfInBounds_toArray, List.set_cons_zero, List.set_cons_succ])
              refine wpAnyH_done (by kernel_rfl) ?_ _
              refine NoPanic.normal ?_
              go_wp2_with fail
              go_roundw
              case rel => exact ⟨p + 1, _, by go_num, by omega, HN, HO6, HT⟩
              case measure => simp [intOf]; omega
          · obtain rfl : p = 8 := by omega
            go_wp2_with fail
            refine (Wrong_any (unhide HN)).mono ?_
            rintro e wr ⟨rfl, rfl⟩
            rw [(unhide HO).wrong]
            go_wp2_with fail
            go_ret
            exact ⟨rfl, unhide HT⟩

end Go.Proofs.Ytnondiaefpdlpaa
