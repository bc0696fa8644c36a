/-
  The walk of BchGenerator.
-/
import Derived.Test.YtahjcahmlangiaaLp
import Derived.Test.YtahjcahmlangiaaR4g
import Derived.Test.YtahjcahmlangiaaPd
namespace Go.Proofs.Ytahjcahmlangiaa
open Go.RowKit

/-- x to the 255-th and one. -/
def xL : List Nat := ((List.replicate 256 0).set 0 1).set 255 1
theorem xL_len : xL.length = 256 := by unfold xL; rw [List.length_set, List.length_set, List.length_replicate]
theorem xL_cf (i : Nat) : cf xL i = if i = 255 then 1 else if i = 0 then 1 else 0 := by
  unfold xL
  rw [cf_set _ _ _ _ (by rw [List.length_set, List.length_replicate]; omega), cf_set _ _ _ _ (by rw [List.length_replicate]; omega), cf_replicate]
theorem xL_bs : Bs xL := fun i => by
  rw [xL_cf]
  split
  · omega
  · split <;> omega
theorem xL_ev (k : Nat) : ev xL (E k) = 0 := by
  have h1 : Bs [1] := Bs.cons (by omega) Bs.nil
  have he : ev [1] (E k) = 1 := by
    have : ev [1] (E k) = gmul 0 (E k) ^^^ 1 := rfl
    rw [this, zero_gmul (E_lt k), Nat.zero_xor]
  rw [ev_congr (E_lt k) (q := padd [1] (sh 255 [1])) (fun i => by
    rw [xL_cf, cf_padd, cf_sh]
    by_cases h0 : i = 0
    · subst h0; rfl
    · by_cases h2 : i = 255
      · subst h2; rfl
      · rw [if_neg h2, if_neg h0]
        obtain ⟨j, rfl⟩ : ∃ j, i = j + 1 := ⟨i - 1, by omega⟩
        rw [cf_succ, cf_nil]
        by_cases h3 : j + 1 < 255
        · rw [if_pos h3]; rfl
        · rw [if_neg h3]
          obtain ⟨m, hm⟩ : ∃ m, j + 1 - 255 = m + 1 := ⟨j + 1 - 255 - 1, by omega⟩
          rw [hm, cf_succ, cf_nil]
          rfl), ev_padd h1 (Bs.sh h1) (E_lt k), he, ev_sh 255 h1 (E_lt k), he, gmul_one (gp_lt _ _), gp_E, ← E_mod, Nat.mul_mod_left]
  rfl
theorem xL_blk {w : World} {g : Nat} (h : Blk w g (List.replicate 256 0)) : Arg ((w.setCell ⟨g, 0, none⟩ (.int .u8 1)).setCell ⟨g, 255, none⟩ (.int .u8 1)) (.slice (some ⟨g, 0, none⟩) 256 256) g xL := by
  have h2 : Blk ((w.setCell ⟨g, 0, none⟩ (.int .u8 1)).setCell ⟨g, 255, none⟩ (.int .u8 1)) g xL := (h.set 0 1 (by rw [List.length_replicate]; omega)).set 255 1 (by rw [List.length_set, List.length_replicate]; omega)
  have h3 := h2.arg (c := 256) xL_bs (by rw [xL_len]; omega) (by unfold maxLen; omega)
  rwa [xL_len] at h3
theorem genP_trim : trim genP = genP := trim_self (.inr (by rw [genP_facts.1]; show cf genP 32 ≠ 0; rw [genP_facts.2.2.2]; omega))
/-- The generator leaves nothing of it. -/
theorem gen_rest {q r : List Nat} (h : IsDiv xL genP q r) : r = [] := by
  have hl := h.lt
  rw [genP_trim, genP_facts.1] at hl
  obtain ⟨g1, g2, g3⟩ := gRoots_facts
  have hz := roots_few (xs := gRoots.map E) h.br (fun x hx => by
      obtain ⟨k, _, rfl⟩ := List.mem_map.1 hx
      exact E_lt k) (nodup_map (fun a ha b hb e => E_inj (g3 a ha) (g3 b hb) e) g2) (fun x hx => by
      obtain ⟨k, hk, rfl⟩ := List.mem_map.1 hx
      have e := xL_ev k
      rw [← ev_congr (E_lt k) h.eq, ev_padd (Bs.pmul h.bq) h.br (E_lt k), ev_pmul h.bq genP_bin.bs (E_lt k), genP_roots k hk, gmul_zero, Nat.zero_xor] at e
      exact e) (by rw [List.length_map, g1]; omega)
  rw [← h.tr]
  exact trim_nought hz

set_option maxRecDepth 100000 in
set_option maxHeartbeats 8000000 in
theorem gens_walk (z : Int) (w : World) :
    Calls Try.prog 8 #[.int .i64 z] w fun x w' => x = .returned (.bool true) ∧ Below w.heap.size w w' := by
  have hmk256 : ∀ w : World, (Instr.makeSlice 22 (.int .i64 256) (.int .i64 256)).run Try.prog w = .ok (.slice (some ⟨w.heap.size, 0, none⟩) 256 256) (w.alloc (.cells (List.replicate 256 (Value.int .u8 0)).toArray 5)) := run_zeros 256 (by omega)
  have HZ256 := hide (fun W : World => zeros_arg 256 (by omega) W)
  have HZB256 := hide (fun W : World => blk_zeros 256 W)
  obtain ⟨z256, hz256⟩ : ∃ z, (List.replicate 256 (Value.int .u8 0)).toArray = z := ⟨_, rfl⟩
  rw [hz256] at HZ256 HZB256
  simp only [hz256] at hmk256
  clear hz256
  have HT : Hid (Below w.heap.size w w) := Below.refl _ _
  go_enter Try.func8, Try.ntmps8
  go_wp2_with fail
  refine (known_any _).mono ?_
  rintro e w1 ⟨rfl, hk⟩
  replace HT := hide ((unhide HT).trans (hk.mono (unhide HT).size))
  clear hk
  go_wp2_with fail
  refine (generator_any _).mono ?_
  rintro e w2 ⟨v2, rfl, hF, hk⟩
  replace HT := hide ((unhide HT).trans (hk.mono (unhide HT).size))
  obtain ⟨g2, hA, hge⟩ := hF.arg genP_bin.bs
  obtain ⟨⟨ao2, c2, rfl, h1, h2, h3, h4⟩, _⟩ := hA
  have HA2 : Hid (Arg w2 (.slice ao2 33 c2) g2 (genP)) := ⟨⟨ao2, c2, by rw [genP_facts.1], h1, h2, h3, h4⟩, genP_bin.bs⟩
  rw [show (genP).length = 33 from genP_facts.1]
  clear h1 h2 h3 h4 hF hge
  clear hk
  obtain ⟨oG, eG, cG⟩ := (unhide HA2).cells (ne_len genP_facts.1)
  cases eG
  have hc32 := cG 32 (by rw [genP_facts.1]; omega)
  have hc0 := cG 0 (by rw [genP_facts.1]; omega)
  rw [genP_facts.2.2.2] at hc32
  rw [genP_facts.2.2.1, Nat.add_zero] at hc0
  have CG := hide cG
  clear cG
  go_wp2_with fail
  clear hc32 hc0
  go_loop [4] (fun p => ∃ (i : Nat), p = .int .i64 i ∧ i ≤ 33) (fun p => 33 - (intOf p).toNat)
  case atStart => exact ⟨0, rfl, by omega⟩
  case round =>
    obtain ⟨i, rfl, hi⟩ := hrel
    by_cases hlt : i < 33
    · have hi1 : (i : Int) < 33 := by omega
      have hc := unhide CG i (by rw [genP_facts.1]; exact hlt)
      have hb : ((cf genP i : Nat) : Int) ≤ 1 := by have := genP_bin i; omega
      go_wp2_with fail
      go_round
      case rel => exact ⟨i + 1, by go_num, by omega⟩
      case measure => simp [intOf]; omega
    · have hi2 : i = 33 := by omega
      subst hi2
      go_wp2_with fail
      go_loopw [5] (fun p wr => ∃ (i : Nat), p = .int .i64 i ∧ 1 ≤ i ∧ i ≤ 9 ∧ Below w2.heap.size w2 wr) (fun p _ => 9 - (intOf p).toNat)
      case atStart => exact ⟨1, rfl, by omega, by omega, Below.refl _ _⟩
      case round =>
        obtain ⟨i, rfl, hi0, hi, hnd⟩ := hrel
        have HND := hide hnd
        clear hnd
        by_cases hlt : i < 9
        · have hi1 : (i : Int) ≤ 8 := by omega
          go_wp2_with fail
          refine (rexp_any (i : Int) wr).mono ?_
          rintro e w' ⟨rfl, hw'⟩
          subst hw'
          rw [X_nat]
          go_wp2_with fail
          refine (eval_any _ _ genP (E i) w' ((unhide HA2).below (unhide HND)) (by rw [genP_facts.1]; omega) (E_lt _)).mono ?_
          rintro e w3 ⟨rfl, hk⟩
          rw [genP_roots i (gRoots_first hi0 (by omega))]
          have HND3 := hide ((unhide HND).trans (hk.mono (unhide HND).size))
          clear hk
          go_wp2_with fail
          go_roundw
          case rel => exact ⟨i + 1, by go_num, by omega, by omega, unhide HND3⟩
          case measure => simp [intOf]; omega
        · have hi9 : i = 9 := by omega
          subst hi9
          replace HA2 := hide ((unhide HA2).below (unhide HND))
          replace HT := hide ((unhide HT).trans ((unhide HND).mono (unhide HT).size))
          have hwr := (unhide HT).size
          have hZB := unhide HZB256 wr
          have hB : Below wr.heap.size wr (((wr.alloc (.cells z256 5)).setCell ⟨wr.heap.size, 0, none⟩ (.int .u8 1)).setCell ⟨wr.heap.size, 255, none⟩ (.int .u8 1)) := (((Below.refl _ wr).alloc (Nat.le_refl _) _).setCell (p := ⟨wr.heap.size, 0, none⟩) (Nat.le_refl _) _).setCell (p := ⟨wr.heap.size, 255, none⟩) (Nat.le_refl _) _
          have hmkx := hmk256 wr
          clear hmk256
          obtain ⟨wx, hwx⟩ : ∃ x, wr.alloc (.cells z256 5) = x := ⟨_, rfl⟩
          rw [hwx] at hmkx hZB hB
          clear hwx
          have x0 := hZB.cell (j := 0) (by rw [List.length_replicate]; omega)
          have x255 := hZB.cell (j := 255) (by rw [List.length_replicate]; omega)
          have f0 := hZB.free (j := 0)
          have f255 := hZB.free (j := 255)
          have HX := hide (xL_blk hZB)
          have HBX := hide hB
          clear hZB hB
          go_wp2_with fail
          clear x0 x255 f0 f255 hmkx
          replace HA2 := hide ((unhide HA2).below (unhide HBX))
          replace HT := hide ((unhide HT).trans ((unhide HBX).mono hwr))
          generalize (wx.setCell ⟨wr.heap.size, 0, none⟩ (.int .u8 1)).setCell ⟨wr.heap.size, 255, none⟩ (.int .u8 1) = w10 at HX HA2 HT ⊢
          clear HBX
          refine (div_any _ _ _ _ xL genP _ (unhide HX) (unhide HA2) (by rw [xL_len]; omega) (by rw [genP_facts.1]; omega) (by rw [genP_trim]; exact ne_len genP_facts.1)).mono ?_
          rintro e w11 ⟨v1, v2, q, r, rfl, hdiv, hF1, hF2, hk⟩
          have hr0 := gen_rest hdiv
          subst hr0
          obtain ⟨aoR, cR, rfl⟩ : ∃ ao c, v2 = .slice ao 0 c := by
            rcases hF2 with ⟨_, h⟩ | ⟨g, c, h, _⟩
            · exact ⟨none, 0, h⟩
            · exact ⟨_, c, h⟩
          replace HA2 := hide ((unhide HA2).below hk)
          replace HT := hide ((unhide HT).trans (hk.mono (unhide HT).size))
          clear hF1 hF2 hk hdiv HX
          go_wp2_with fail
          refine (rexp_any z w11).mono ?_
          rintro e w' ⟨rfl, hw'⟩
          subst hw'
          go_wp2_with fail
          refine (eval_any _ _ genP (X z) w' (unhide HA2) (by rw [genP_facts.1]; omega) (X_lt _)).mono ?_
          rintro e w12 ⟨rfl, hk⟩
          replace HT := hide ((unhide HT).trans (hk.mono (unhide HT).size))
          clear hk HA2
          obtain ⟨y, hy⟩ : ∃ y, ev genP (X z) = y := ⟨_, rfl⟩
          have HYV := hide hy
          rw [hy]
          clear hy
          go_wp2_with fail
          refine (rgen_any w12).mono ?_
          rintro e w13 ⟨v13, rfl, hF, hk⟩
          obtain ⟨g13, hA, hge⟩ := hF.arg genP_bin.bs
          have HA13 := hide hA
          replace HT := hide ((unhide HT).trans (hk.mono (unhide HT).size))
          clear hF hA hge hk
          go_wp2_with fail
          refine (rexp_any z w13).mono ?_
          rintro e w' ⟨rfl, hw'⟩
          subst hw'
          go_wp2_with fail
          refine (eval_any _ _ genP (X z) w' (unhide HA13) (by rw [genP_facts.1]; omega) (X_lt _)).mono ?_
          rintro e w14 ⟨rfl, hk⟩
          rw [unhide HYV]
          replace HT := hide ((unhide HT).trans (hk.mono (unhide HT).size))
          clear hk HA13
          go_wp2
          go_ret
          exact ⟨rfl, unhide HT⟩

end Go.Proofs.Ytahjcahmlangiaa
