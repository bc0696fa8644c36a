/-
  RsAdds' walk.
-/
import Derived.Test.YtdlbkgehgbacmaaL5
namespace Go.Proofs.Ytdlbkgehgbacmaa
open Go.RowKit

/-- Sums of rows, so many. -/
def SumsOf (x y z : List (List Nat)) (i size : Nat) : Prop := z.length = i ∧ ∀ j, j < i → (z.getD j []).length = size ∧ ∀ k, k < size → rc z j k = rc x j k ^^^ rc y j k

/-- Where they lie. -/
def Lie (w : World) (rs : List (Option Addr × Nat)) (z : List (List Nat)) (i size : Nat) : Prop := ∀ j, j < i → ∃ g, psA rs j = some ⟨g, 0, none⟩ ∧ psC rs j = size ∧ Blk w g (z.getD j []) ∧ Bs (z.getD j [])
theorem Lie.below {w w' : World} {rs : List (Option Addr × Nat)} {z : List (List Nat)} {i size : Nat} (h : Lie w rs z i size) (k : Below w.heap.size w w') : Lie w' rs z i size := fun j hj => by
  obtain ⟨g, h1, h2, h3, h4⟩ := h j hj
  exact ⟨g, h1, h2, h3.below k h3.lt, h4⟩
theorem Lie.arg {w : World} {rs : List (Option Addr × Nat)} {z : List (List Nat)} {i size : Nat} (h : Lie w rs z i size) (hs : ∀ j, j < i → (z.getD j []).length = size) (h5 : size ≤ 1000) {j : Nat} (hj : j < i) : ∃ g, Arg w (.slice (psA rs j) (z.getD j []).length (psC rs j)) g (z.getD j []) := by
  obtain ⟨g, h1, h2, h3, h4⟩ := h j hj
  rw [h1, h2]
  exact ⟨g, h3.arg h4 (by rw [hs j hj]; exact Nat.le_refl _) (by unfold maxLen; omega)⟩

set_option maxRecDepth 100000 in
set_option maxHeartbeats 16000000 in
theorem radd_walk (va : Value) (ga : Nat) (a : List Nat) (vb : Value) (gb : Nat) (b : List Nat) (n0 s0 : Int) (w : World) (hA : Arg w va ga a) (hB : Arg w vb gb b) :
    Calls Try.prog 8 #[va, vb, .int .i64 n0, .int .i64 s0] w fun e w' => e = .returned (.bool true) ∧ Below w.heap.size w w' := by
  have HA := hide hA
  have HA2 := hide hB
  obtain ⟨ao, c, hv, _⟩ := hA.ex
  obtain ⟨bo, d, hv2, _⟩ := hB.ex
  subst hv
  subst hv2
  clear hA hB
  obtain ⟨i0, hi0, hz0, hz1, hz2⟩ := info_parts infoR
  have HI := hide hi0
  clear hi0
  go_enter Try.func8, Try.ntmps8
  go_wp2_with fail
  refine (known_any w).mono ?_
  rintro e w1 ⟨rfl, hk⟩
  have HB := hide hk
  replace HA := hide ((unhide HA).below hk)
  replace HA2 := hide ((unhide HA2).below hk)
  clear hk
  go_wp2_with fail
  refine (within_any n0 13 w1 (by omega) (by omega)).mono ?_
  rintro e w2 ⟨rfl, hw2⟩
  subst hw2
  obtain ⟨m, hm⟩ : ∃ m : Nat, n0 % 13 = (m : Int) := ⟨(n0 % 13).toNat, by omega⟩
  have hm12 : m < 13 := by omega
  rw [hm]
  clear hm
  obtain ⟨n, hn⟩ : ∃ n, 2 + m = n := ⟨_, rfl⟩
  have hn1 : (2 : Int) + (m : Int) = (n : Int) := by omega
  have hn2 : 2 ≤ n ∧ n ≤ 14 := by omega
  obtain ⟨hn2, hn3⟩ := hn2
  clear hn hm12
  go_wp2_with fail
  refine (within_any s0 10 w2 (by omega) (by omega)).mono ?_
  rintro e w3 ⟨rfl, hw3⟩
  subst hw3
  obtain ⟨s, hs⟩ : ∃ s : Nat, s0 % 10 = (s : Int) := ⟨(s0 % 10).toNat, by omega⟩
  have hs10 : s < 10 := by omega
  rw [hs]
  clear hs
  go_wp2_with fail
  refine (rows_any _ ga a n s (by omega) (by omega) w3 (unhide HA)).mono ?_
  rintro e w4 ⟨v9, ps, x, rfl, hO, hl, hs, hk⟩
  replace HB := hide ((unhide HB).trans (hk.mono (unhide HB).size))
  replace HA2 := hide ((unhide HA2).below hk)
  obtain ⟨g9, c9, rfl, _⟩ := hO.some hl (by omega)
  have HO := hide hO
  have HL := hide hl
  have HS := hide hs
  clear hO hl hs hk HA
  go_wp2_with fail
  refine (rows_any _ gb b n s (by omega) (by omega) w4 (unhide HA2)).mono ?_
  rintro e w5 ⟨v10, qs, y, rfl, hO, hl, hs, hk⟩
  replace HB := hide ((unhide HB).trans (hk.mono (unhide HB).size))
  replace HO := hide ((unhide HO).below hk)
  obtain ⟨g10, c10, rfl, _⟩ := hO.some hl (by omega)
  have HO2 := hide hO
  have HL2 := hide hl
  have HS2 := hide hs
  clear hO hl hs hk HA2
  go_wp2_with fail
  go_loopw [11, 12] (fun v p wr => ∃ (i : Nat) (rs : List (Option Addr × Nat)) (z : List (List Nat)) (v0 : Value), v = v0 ∧ p = .int .i64 i ∧ i ≤ n ∧ OwnR w5.heap.size wr v rs z ∧ SumsOf x y z i s ∧ Lie wr rs z i s ∧ Below w5.heap.size w5 wr) (fun _ p _ => n - (intOf p).toNat)
  case atStart => exact ⟨0, [], [], _, rfl, rfl, by omega, OwnR.nil _ _, ⟨rfl, by omega⟩, fun j hj => by omega, Below.refl _ _⟩
  case round =>
    obtain ⟨i, rs, z, v0, rfl, rfl, hi, hO, hSO, hLie, hK⟩ := hrel
    have HLIE := hide hLie
    clear hLie
    have HV : Hid (∃ vo vc, u11 = .slice vo i vc) := by
      rcases hO.shape with ⟨h1, h2⟩ | ⟨q, cq, h1, _⟩
      · exact ⟨none, 0, by rw [h1, ← hSO.1, h2]; rfl⟩
      · exact ⟨_, cq, by rw [← hSO.1]; exact h1⟩
    obtain ⟨vo, vc, hv⟩ := unhide HV
    subst hv
    have HOZ := hide hO
    have HSO := hide hSO
    have HK := hide hK
    have hzr := hK.size
    clear hO hSO hK HV
    by_cases hlt : i < n
    · have hi1 : (i : Int) < (n : Int) := by omega
      have hmk := run_zeros s (by omega)
      have HZB := hide (blk_zeros s wr)
      obtain ⟨zz, hzz⟩ : ∃ z, (List.replicate s (Value.int .u8 0)).toArray = z := ⟨_, rfl⟩
      rw [hzz] at hmk HZB
      clear hzz
      have hka : Below wr.heap.size wr (wr.alloc (.cells zz 5)) := (Below.refl _ _).alloc (Nat.le_refl _) _
      have HKA := hide hka
      clear hka
      go_wp2_with fail
      have hsz : wr.heap.size < (wr.alloc (.cells zz 5)).heap.size := by simp
      obtain ⟨q, hq⟩ : ∃ q, wr.heap.size = q := ⟨_, rfl⟩
      have HQ := hide hq
      generalize wr.alloc (.cells zz 5) = wa at HZB HKA hsz ⊢
      rw [hq] at HZB hsz hzr HKA ⊢
      clear hq hmk
      obtain ⟨wo, hwo⟩ : ∃ x, x = wr := ⟨wr, rfl⟩
      subst hwo
      go_loopw [14] (fun p wx => ∃ k : Nat, p = .int .i64 k ∧ k ≤ s ∧ Blk wx q (fillK s (fun k => rc x i k ^^^ rc y i k) k) ∧ Kp [q] wa wx) (fun p _ => s - (intOf p).toNat)
      case atStart => exact ⟨0, rfl, by omega, by rw [fillK_zero]; exact unhide HZB, Kp.refl _ _⟩
      case round =>
        obtain ⟨wx, hwx⟩ : ∃ x, x = wr := ⟨wr, rfl⟩
        subst hwx
        obtain ⟨k, rfl, hk, hBk, hKk⟩ := hrel
        have HBK := hide hBk
        have HKK := hide hKk
        clear hBk hKk
        by_cases hkl : k < s
        · have hk1 : (k : Int) < (s : Int) := by omega
          have hB5 : Below w5.heap.size w5 wx := below_kp ((unhide HK).trans ((unhide HKA).mono hzr)) (unhide HKK) (by simp; omega) (by have h1 := (unhide HKA).size; have h2 := unhide HQ; omega)
          obtain ⟨gx, ox, cx, hx1, hx2⟩ := own_byte (unhide HO) (unhide HL) hlt (unhide HS i hlt) (by omega)
          obtain ⟨gy, oy, cy, hy1, hy2⟩ := own_byte (unhide HO2) (unhide HL2) hlt (unhide HS2 i hlt) (by omega)
          have hlx1 := block_lt_of_cell hx1
          have hlx2 := block_lt_of_cell (hx2 k hkl)
          have hly1 := block_lt_of_cell hy1
          have hly2 := block_lt_of_cell (hy2 k hkl)
          have HX1 := hide ((hB5.cell hlx1).trans hx1)
          have HX2 := hide ((hB5.cell hlx2).trans (hx2 k hkl))
          have HY1 := hide ((hB5.cell hly1).trans hy1)
          have HY2 := hide ((hB5.cell hly2).trans (hy2 k hkl))
          have h1 : rc x i k < 256 := (unhide HO).bs i k
          have h2 : rc y i k < 256 := (unhide HO2).bs i k
          have HST := hide (fillK_step (f := fun k => rc x i k ^^^ rc y i k) hkl)
          obtain ⟨x1, hxx⟩ : ∃ x1, rc x i k = x1 := ⟨_, rfl⟩
          obtain ⟨y1, hyy⟩ : ∃ y1, rc y i k = y1 := ⟨_, rfl⟩
          dsimp only at hlx1 hlx2 hly1 hly2 HST
          rw [hxx] at h1 HX2 HST
          rw [hyy] at h2 HY2 HST
          have hxor := bits_xor_u8 h1 h2
          clear hxx hyy hx1 hx2 hy1 hy2 hB5
          go_wp2_with fail
          refine wp_region_noPanic ?_
          refine wp_region_held_drew (S := fun W => Kp [q] wx W) (by kernel_rfl) ((Kp.refl _ _).drew) (fun hHeld => ?_)
          have HH := hide hHeld
          clear hHeld
          refine takeL (i := 0) (v := ?_) rfl (by kernel_rfl) (by kernel_rfl) (by kernel_rfl) (fun _ _ _ h => h) (Or.inl ⟨by rfl, ?_⟩) (unhide HH) ?_
          rotate_left 1
          · intro W hSW; go_simp; all_goals (with_reducible rfl)
          (try simp only [Act.put, List.setIfInBounds_toArray, List.set_cons_zero, List.set_cons_succ])
          refine takeL (i := 1) (v := ?_) rfl (by kernel_rfl) (by kernel_rfl) (by kernel_rfl) (fun _ _ _ h => h) (Or.inl ⟨by rfl, ?_⟩) (unhide HH) ?_
          rotate_left 1
          · intro W hSW; go_simp; all_goals (with_reducible rfl)
          (try simp only [Act.put, List.setIfInBounds_toArray, List.set_cons_zero, List.set_cons_succ])
          refine takeL (i := 2) (v := ?_) rfl (by kernel_rfl) (by kernel_rfl) (by kernel_rfl) (fun _ _ _ h => h) (Or.inl ⟨by rfl, ?_⟩) (unhide HH) ?_
          rotate_left 1
          · intro W hSW; go_simp; all_goals (with_reducible rfl)
          (try simp only [Act.put, List.setIfInBounds_toArray, List.set_cons_zero, List.set_cons_succ])
          refine takeL (i := 3) (v := ?_) rfl (by kernel_rfl) (by kernel_rfl) (by kernel_rfl) (fun _ _ _ h => h) (Or.inl ⟨by rfl, ?_⟩) (unhide HH) ?_
          rotate_left 1
          · intro W hSW; go_simp; all_goals (with_reducible rfl)
          (try simp only [Act.put, List.setIfInBounds_toArray, List.set_cons_zero, List.set_cons_succ])
          refine takeL (i := 4) (v := ?_) rfl (by kernel_rfl) (by kernel_rfl) (by kernel_rfl) (fun _ _ _ h => h) (Or.inl ⟨by rfl, ?_⟩) (unhide HH) ?_
          rotate_left 1
          · intro W hSW; go_simp; all_goals (with_reducible rfl)
          (try simp only [Act.put, List.setIfInBounds_toArray, List.set_cons_zero, List.set_cons_succ])
          refine takeL (i := 5) (v := ?_) rfl (by kernel_rfl) (by kernel_rfl) (by kernel_rfl) (fun _ _ _ h => h) (Or.inl ⟨by rfl, ?_⟩) (unhide HH) ?_
          rotate_left 1
          · intro W1 hSW; have hc := hSW.cell (unhide HX1) (by simp; omega); clear hSW; go_simp; all_goals (with_reducible rfl)
          (try simp only [Act.put, List.setIfInBounds_toArray, List.set_cons_zero, List.set_cons_succ])
          refine takeL (i := 6) (v := ?_) rfl (by kernel_rfl) (by kernel_rfl) (by kernel_rfl) (fun _ _ _ h => h) (Or.inl ⟨by rfl, ?_⟩) (unhide HH) ?_
          rotate_left 1
          · intro W hSW; go_simp; all_goals (with_reducible rfl)
          (try simp only [Act.put, List.setIfInBounds_toArray, List.set_cons_zero, List.set_cons_succ])
          refine takeL (i := 7) (v := ?_) rfl (by kernel_rfl) (by kernel_rfl) (by kernel_rfl) (fun _ _ _ h => h) (Or.inl ⟨by rfl, ?_⟩) (unhide HH) ?_
          rotate_left 1
          · intro W hSW; go_simp; all_goals (with_reducible rfl)
          (try simp only [Act.put, List.setIfInBounds_toArray, List.set_cons_zero, List.set_cons_succ])
          refine takeL (i := 8) (v := ?_) rfl (by kernel_rfl) (by kernel_rfl) (by kernel_rfl) (fun _ _ _ h => h) (Or.inl ⟨by rfl, ?_⟩) (unhide HH) ?_
          rotate_left 1
          · intro W1 hSW; have hc := hSW.cell (unhide HX2) (by simp; omega); clear hSW; go_simp; all_goals (with_reducible rfl)
          (try simp only [Act.put, List.setIfInBounds_toArray, List.set_cons_zero, List.set_cons_succ])
          refine takeL (i := 9) (v := ?_) rfl (by kernel_rfl) (by kernel_rfl) (by kernel_rfl) (fun _ _ _ h => h) (Or.inl ⟨by rfl, ?_⟩) (unhide HH) ?_
          rotate_left 1
          · intro W hSW; go_simp; all_goals (with_reducible rfl)
          (try simp only [Act.put, List.setIfInBounds_toArray, List.set_cons_zero, List.set_cons_succ])
          refine takeL (i := 10) (v := ?_) rfl (by kernel_rfl) (by kernel_rfl) (by kernel_rfl) (fun _ _ _ h => h) (Or.inl ⟨by rfl, ?_⟩) (unhide HH) ?_
          rotate_left 1
          · intro W hSW; go_simp; all_goals (with_reducible rfl)
          (try simp only [Act.put, List.setIfInBounds_toArray, List.set_cons_zero, List.set_cons_succ])
          refine takeL (i := 11) (v := ?_) rfl (by kernel_rfl) (by kernel_rfl) (by kernel_rfl) (fun _ _ _ h => h) (Or.inl ⟨by rfl, ?_⟩) (unhide HH) ?_
          rotate_left 1
          · intro W hSW; go_simp; all_goals (with_reducible rfl)
          (try simp only [Act.put, List.setIfInBounds_toArray, List.set_cons_zero, List.set_cons_succ])
          refine takeL (i := 12) (v := ?_) rfl (by kernel_rfl) (by kernel_rfl) (by kernel_rfl) (fun _ _ _ h => h) (Or.inl ⟨by rfl, ?_⟩) (unhide HH) ?_
          rotate_left 1
          · intro W1 hSW; have hc := hSW.cell (unhide HY1) (by simp; omega); clear hSW; go_simp; all_goals (with_reducible rfl)
          (try simp only [Act.put, List.setIfInBounds_toArray, List.set_cons_zero, List.set_cons_succ])
          refine takeL (i := 13) (v := ?_) rfl (by kernel_rfl) (by kernel_rfl) (by kernel_rfl) (fun _ _ _ h => h) (Or.inl ⟨by rfl, ?_⟩) (unhide HH) ?_
          rotate_left 1
          · intro W hSW; go_simp; all_goals (with_reducible rfl)
          (try simp only [Act.put, List.setIfInBounds_toArray, List.set_cons_zero, List.set_cons_succ])
          refine takeL (i := 14) (v := ?_) rfl (by kernel_rfl) (by kernel_rfl) (by kernel_rfl) (fun _ _ _ h => h) (Or.inl ⟨by rfl, ?_⟩) (unhide HH) ?_
          rotate_left 1
          · intro W hSW; go_simp; all_goals (with_reducible rfl)
          (try simp only [Act.put, List.setIfInBounds_toArray, List.set_cons_zero, List.set_cons_succ])
          refine takeL (i := 15) (v := ?_) rfl (by kernel_rfl) (by kernel_rfl) (by kernel_rfl) (fun _ _ _ h => h) (Or.inl ⟨by rfl, ?_⟩) (unhide HH) ?_
          rotate_left 1
          · intro W1 hSW; have hc := hSW.cell (unhide HY2) (by simp; omega); clear hSW; go_simp; all_goals (with_reducible rfl)
          (try simp only [Act.put, List.setIfInBounds_toArray, List.set_cons_zero, List.set_cons_succ])
          refine takeL (i := 16) (v := ?_) rfl (by kernel_rfl) (by kernel_rfl) (by kernel_rfl) (fun _ _ _ h => h) (Or.inl ⟨by rfl, ?_⟩) (unhide HH) ?_
          rotate_left 1
          · intro W hSW; go_simp; all_goals (with_reducible rfl)
          (try simp only [Act.put, List.setIfInBounds_toArray, List.set_cons_zero, List.set_cons_succ])
          refine takeL (i := 17) (v := ?_) rfl (by kernel_rfl) (by kernel_rfl) (by kernel_rfl) (fun _ _ _ h => h) (Or.inl ⟨by rfl, ?_⟩) (unhide HH) ?_
          rotate_left 1
          · intro W hSW; go_simp; all_goals (with_reducible rfl)
          (try simp only [Act.put, List.setIfInBounds_toArray, List.set_cons_zero, List.set_cons_succ])
          refine wpAnyH_ready (rs := [18]) (by kernel_rfl) (by simp) ?_
          refine consL rfl (fun K hK => ?_) AllReadyH.nil
          have he : wx.drew.cell? ⟨q, k, none⟩ = some (.int .u8 ((cf (fillK s (fun k => rc x i k ^^^ rc y i k) k) k : Nat) : Int)) := (unhide HBK).cell (by rw [fillK_len]; exact hkl)
          have hf4 : wx.drew.frozen? ⟨q, k, none⟩ = false := (unhide HBK).free
          go_simp
          have HBW2 : Hid (Blk (wx.setCell ⟨q, k, none⟩ (.int .u8 ((x1 ^^^ y1 : Nat) : Int))).drew q _) := ((unhide HBK).set k (x1 ^^^ y1) (by rw [fillK_len]; exact hkl)).of rfl
          have HKW2 : Hid (Kp [q] wx (wx.setCell ⟨q, k, none⟩ (.int .u8 ((x1 ^^^ y1 : Nat) : Int))).drew) := ((Kp.refl [q] wx).setCell ⟨q, k, none⟩ (.int .u8 ((x1 ^^^ y1 : Nat) : Int)) (.inl (by simp))).drew
          refine hK.out _ _ (unhide HKW2) (fun hHeld => ?_)
          clear hHeld hK K HH he hf4
          (try simp only [Act.put, List.setIfInBounds_toArray, List.set_cons_zero, List.set_cons_succ])
          refine wpAnyH_done (by kernel_rfl) ?_ _
          refine NoPanic.normal ?_
          generalize (wx.setCell ⟨q, k, none⟩ (.int .u8 ((x1 ^^^ y1 : Nat) : Int))).drew = w7 at HBW2 HKW2 ⊢
          go_wp2_with fail
          go_roundw
          case rel => exact ⟨k + 1, by go_num, by omega, by rw [← unhide HST]; exact unhide HBW2, (unhide HKK).trans (unhide HKW2) (by simp)⟩
          case measure => simp [intOf]; omega
        · have hk2 : k = s := by omega
          subst hk2
          have HR : Hid ((fillK k (fun k => rc x i k ^^^ rc y i k) k).length = k) := fillK_len _ _ _
          have HAr : Hid (Arg wx (.slice (some ⟨q, 0, none⟩) k k) q (fillK k (fun k => rc x i k ^^^ rc y i k) k)) := by
            have h := (unhide HBK).arg (c := k) (fillK_bs (fun j => xor_lt ((unhide HO).bs i j) ((unhide HO2).bs i j))) (by rw [fillK_len]; exact Nat.le_refl _) (by unfold maxLen; omega)
            rwa [fillK_len] at h
          have HBR : Hid (Below wo.heap.size wo wx) := by
            show Below _ _ _
            rw [unhide HQ]
            exact below_kp (unhide HKA) (unhide HKK) (by simp) (by have h1 := (unhide HKA).size; have h2 := unhide HQ; omega)
          have HOZ2 := hide ((unhide HOZ).below (unhide HBR))
          have hzx := (unhide HBR).size
          rw [unhide HQ] at hzx
          have hka : Below wx.heap.size wx (wx.alloc (.cells #[.slice (some ⟨q, 0, none⟩) k k] 22)) := (Below.refl _ _).alloc (Nat.le_refl _) _
          have HOZ3 := hide ((unhide HOZ2).below hka)
          have HOW : Hid ((wx.alloc (.cells #[.slice (some ⟨q, 0, none⟩) k k] 22)).ownsRow w5.heap.size 22 1 (.slice vo i vc) i (vals rs z)) := by
            have h := (unhide HOZ3).own
            rwa [(unhide HSO).1] at h
          have HK5 : Hid (Below w5.heap.size w5 (wx.alloc (.cells #[.slice (some ⟨q, 0, none⟩) k k] 22))) := by
            have h1 := (unhide HK).trans ((unhide HBR).mono (by rw [unhide HQ]; exact hzr))
            exact h1.trans (hka.mono (by omega))
          have HAr2 := hide ((unhide HAr).below hka)
          have HKX := hide hka
          clear hka
          go_wp2_with (at_builtin; refine wpList_append_vals _ rfl _ _ 23 rfl w5.heap.size 22 i0 Try.underlying23 (unhide HI) hz0 hz1 hz2 (.slice vo i vc) i (vals rs z) rfl (unhide HOW) (some ⟨wx.heap.size, 0, none⟩) wx.heap.size 1 1 [.slice (some ⟨q, 0, none⟩) k k] rfl rfl (one_src _ _ _ _) (by simp [Value.oneCell']) (fun h => by cases h) (by omega) (by simp; omega) ?_)
          intro v2 w6 ho hg
          have HB6 := hide (below_grown (unhide HK5) hg (by simp; omega) (unhide HOZ3).row)
          have hLie6 : Lie w6 rs z i k := fun j hj => by
            obtain ⟨g, h1, h2, h3, h4⟩ := ((unhide HLIE).below (unhide HBR)).below (unhide HKX) j hj
            exact ⟨g, h1, h2, h3.grown hg (blk_ne_own (unhide HOZ3) h3), h4⟩
          have hrows : ∀ j, j < z.length → ∃ g, Arg w6 (.slice (psA rs j) (z.getD j []).length (psC rs j)) g (z.getD j []) := fun j hj => hLie6.arg (fun j hj => ((unhide HSO).2 j hj).1) (by omega) (by rw [← (unhide HSO).1]; exact hj)
          have hBX := (unhide HBK).below (unhide HKX) (unhide HBK).lt
          have hBX6 := hBX.grown hg (blk_ne_own (unhide HOZ3) hBX)
          have hO6 := (unhide HOZ3).snoc (r := fillK k (fun k => rc x i k ^^^ rc y i k) k) (n := k) (by rw [(unhide HSO).1]; exact ho) hrows (unhide HR) ⟨q, (unhide HAr2).grown hg (fun _ => blk_ne_own (unhide HOZ3) hBX)⟩
          have hps : rs.length = i := by rw [(unhide HOZ).len, (unhide HSO).1]
          have HO6 := hide hO6
          have HSO6 : Hid (SumsOf x y (z ++ [fillK k (fun k => rc x i k ^^^ rc y i k) k]) (i + 1) k) := by
            refine ⟨by simp [(unhide HSO).1], fun j hj => ?_⟩
            by_cases e : j < i
            · unfold rc
              rw [getD_snoc (by rw [(unhide HSO).1]; exact e)]
              exact (unhide HSO).2 j e
            · have e2 : j = z.length := by rw [(unhide HSO).1]; omega
              have e3 : j = i := by omega
              unfold rc
              rw [e2, getD_last, fillK_len]
              refine ⟨rfl, fun k' hk' => ?_⟩
              rw [cf_fillK, if_pos hk', if_pos hk', ← e2, e3]
          have HLIE6 : Hid (Lie w6 (rs ++ [(some ⟨q, 0, none⟩, k)]) (z ++ [fillK k (fun k => rc x i k ^^^ rc y i k) k]) (i + 1) k) := fun j hj => by
            by_cases e : j < i
            · rw [getD_snoc (by rw [(unhide HSO).1]; exact e), (ps_snoc (by omega)).1, (ps_snoc (by omega)).2]
              exact hLie6 j e
            · have e2 : j = z.length := by rw [(unhide HSO).1]; omega
              have e3 : z.length = rs.length := by rw [hps, (unhide HSO).1]
              rw [e2, getD_last, (ps_last e3).1, (ps_last e3).2]
              exact ⟨q, rfl, rfl, hBX6, fillK_bs (fun j => xor_lt ((unhide HO).bs i j) ((unhide HO2).bs i j))⟩
          clear ho hg hLie6 hrows hBX hBX6 hO6
          go_wp2_with fail
          go_roundw
          case rel => exact ⟨i + 1, _, _, _, rfl, by go_num, by omega, unhide HO6, unhide HSO6, unhide HLIE6, unhide HB6⟩
          case measure => simp [intOf]; omega
    · have hi2 : i = n := by omega
      subst hi2
      have HB6 := hide ((unhide HB).trans ((unhide HK).mono (unhide HB).size))
      replace HO := hide ((unhide HO).below (unhide HK))
      replace HO2 := hide ((unhide HO2).below (unhide HK))
      have HLZ : Hid (z.length = i) := (unhide HSO).1
      have HSZ : Hid (∀ j, j < i → (z.getD j []).length = s) := fun j hj => ((unhide HSO).2 j hj).1
      have HBX : Hid (∀ i, Bs (x.getD i [])) := (unhide HO).bs
      have HBY : Hid (∀ i, Bs (y.getD i [])) := (unhide HO2).bs
      have HBZ : Hid (∀ i, Bs (z.getD i [])) := (unhide HOZ).bs
      have HQ1 : Hid (∀ k, k < s → cf (pP z) k = cf (pP x) k ^^^ cf (pP y) k ∧ cf (pQ z) k = cf (pQ x) k ^^^ cf (pQ y) k) := fun k hk => by
        obtain ⟨a1, a2⟩ := okP_of (unhide HL) hn2 hn3 (unhide HS)
        obtain ⟨b1, b2⟩ := okP_of (unhide HL2) hn2 hn3 (unhide HS2)
        obtain ⟨c1, c2⟩ := okP_of (unhide HLZ) hn2 hn3 (unhide HSZ)
        rw [(par_of a1).1, (par_of a1).2, (par_of b1).1, (par_of b1).2, (par_of c1).1, (par_of c1).2, a2, b2, c2, unhide HL, unhide HL2, unhide HLZ]
        simp only [cf_smL, if_pos hk]
        exact ⟨sm_lin (fun _ => by omega) (unhide HBX) (unhide HBY) (fun j hj => ((unhide HSO).2 j (List.mem_range.1 hj)).2 k hk), sm_lin E_lt (unhide HBX) (unhide HBY) (fun j hj => ((unhide HSO).2 j (List.mem_range.1 hj)).2 k hk)⟩
      have HLN : Hid (∀ u : List (List Nat), u.length = i → (∀ j, j < i → (u.getD j []).length = s) → (pP u).length = s ∧ (pQ u).length = s) := fun u h1 h2 => by
        obtain ⟨a1, a2⟩ := okP_of h1 hn2 hn3 h2
        rw [(par_of a1).1, (par_of a1).2, a2]
        exact ⟨smL_len _ _ _ _, smL_len _ _ _ _⟩
      clear HLIE HK
      go_wp2_with fail
      obtain ⟨G, hR, _⟩ := (unhide HO).arg
      refine (parity_any _ G _ _ x wr hR (len_of (unhide HL) (unhide HS) (by omega))).mono ?_
      clear hR
      rintro e w7 ⟨v1, v2, rfl, hP, hQ, hk⟩
      replace HB6 := hide ((unhide HB6).trans (hk.mono (unhide HB6).size))
      replace HO2 := hide ((unhide HO2).below hk)
      replace HOZ := hide ((unhide HOZ).below hk)
      obtain ⟨gxP, hAP, _⟩ := hP.arg (par_bs (unhide HBX)).1
      have hAx := hAP
      obtain ⟨⟨aoxP, cxP, rfl, _⟩, _⟩ := hAx
      rw [(unhide HLN x (unhide HL) (unhide HS)).1] at hAP ⊢
      have HRxP := hide hAP
      clear hAP hP
      obtain ⟨gxQ, hAQ, _⟩ := hQ.arg (par_bs (unhide HBX)).2
      have hAx := hAQ
      obtain ⟨⟨aoxQ, cxQ, rfl, _⟩, _⟩ := hAx
      rw [(unhide HLN x (unhide HL) (unhide HS)).2] at hAQ ⊢
      have HRxQ := hide hAQ
      clear hAQ hQ
      clear hk
      go_wp2_with fail
      obtain ⟨G, hR, _⟩ := (unhide HO2).arg
      refine (parity_any _ G _ _ y w7 hR (len_of (unhide HL2) (unhide HS2) (by omega))).mono ?_
      clear hR
      rintro e w8 ⟨v1, v2, rfl, hP, hQ, hk⟩
      replace HB6 := hide ((unhide HB6).trans (hk.mono (unhide HB6).size))
      replace HOZ := hide ((unhide HOZ).below hk)
      replace HRxP := hide ((unhide HRxP).below hk)
      replace HRxQ := hide ((unhide HRxQ).below hk)
      obtain ⟨gyP, hAP, _⟩ := hP.arg (par_bs (unhide HBY)).1
      have hAx := hAP
      obtain ⟨⟨aoyP, cyP, rfl, _⟩, _⟩ := hAx
      rw [(unhide HLN y (unhide HL2) (unhide HS2)).1] at hAP ⊢
      have HRyP := hide hAP
      clear hAP hP
      obtain ⟨gyQ, hAQ, _⟩ := hQ.arg (par_bs (unhide HBY)).2
      have hAx := hAQ
      obtain ⟨⟨aoyQ, cyQ, rfl, _⟩, _⟩ := hAx
      rw [(unhide HLN y (unhide HL2) (unhide HS2)).2] at hAQ ⊢
      have HRyQ := hide hAQ
      clear hAQ hQ
      clear hk
      go_wp2_with fail
      obtain ⟨G, hR, _⟩ := (unhide HOZ).arg
      refine (parity_any _ G _ _ z w8 hR (len_of (unhide HLZ) (unhide HSZ) (by omega))).mono ?_
      clear hR
      rintro e w9 ⟨v1, v2, rfl, hP, hQ, hk⟩
      replace HB6 := hide ((unhide HB6).trans (hk.mono (unhide HB6).size))
      replace HRxP := hide ((unhide HRxP).below hk)
      replace HRxQ := hide ((unhide HRxQ).below hk)
      replace HRyP := hide ((unhide HRyP).below hk)
      replace HRyQ := hide ((unhide HRyQ).below hk)
      obtain ⟨gzP, hAP, _⟩ := hP.arg (par_bs (unhide HBZ)).1
      have hAx := hAP
      obtain ⟨⟨aozP, czP, rfl, _⟩, _⟩ := hAx
      rw [(unhide HLN z (unhide HLZ) (unhide HSZ)).1] at hAP ⊢
      have HRzP := hide hAP
      clear hAP hP
      obtain ⟨gzQ, hAQ, _⟩ := hQ.arg (par_bs (unhide HBZ)).2
      have hAx := hAQ
      obtain ⟨⟨aozQ, czQ, rfl, _⟩, _⟩ := hAx
      rw [(unhide HLN z (unhide HLZ) (unhide HSZ)).2] at hAQ ⊢
      have HRzQ := hide hAQ
      clear hAQ hQ
      clear hk
      go_wp2_with fail
      go_loopw [21] (fun p wl => ∃ k : Nat, p = .int .i64 k ∧ k ≤ s ∧ Below w9.heap.size w9 wl) (fun p _ => s - (intOf p).toNat)
      case atStart => exact ⟨0, rfl, by omega, Below.refl _ _⟩
      case round =>
        obtain ⟨wl, hwl⟩ : ∃ x, x = wr := ⟨wr, rfl⟩
        subst hwl
        obtain ⟨k, rfl, hk, hK⟩ := hrel
        have HK := hide hK
        clear hK
        by_cases hkl : k < s
        · have hk1 : (k : Int) < (s : Int) := by omega
          obtain ⟨q1, q2⟩ := unhide HQ1 k hkl
          have hlxP := (unhide HLN x (unhide HL) (unhide HS)).1
          obtain ⟨oxP, rfl, hcxP⟩ := ((unhide HRxP).below (unhide HK)).cells (fun e => by rw [e] at hlxP; simp at hlxP; omega)
          have cxP' := hcxP k (by rw [hlxP]; exact hkl)
          have bxP : cf (pP x) k < 256 := (par_bs (unhide HBX)).1 k
          have hlxQ := (unhide HLN x (unhide HL) (unhide HS)).2
          obtain ⟨oxQ, rfl, hcxQ⟩ := ((unhide HRxQ).below (unhide HK)).cells (fun e => by rw [e] at hlxQ; simp at hlxQ; omega)
          have cxQ' := hcxQ k (by rw [hlxQ]; exact hkl)
          have bxQ : cf (pQ x) k < 256 := (par_bs (unhide HBX)).2 k
          have hlyP := (unhide HLN y (unhide HL2) (unhide HS2)).1
          obtain ⟨oyP, rfl, hcyP⟩ := ((unhide HRyP).below (unhide HK)).cells (fun e => by rw [e] at hlyP; simp at hlyP; omega)
          have cyP' := hcyP k (by rw [hlyP]; exact hkl)
          have byP : cf (pP y) k < 256 := (par_bs (unhide HBY)).1 k
          have hlyQ := (unhide HLN y (unhide HL2) (unhide HS2)).2
          obtain ⟨oyQ, rfl, hcyQ⟩ := ((unhide HRyQ).below (unhide HK)).cells (fun e => by rw [e] at hlyQ; simp at hlyQ; omega)
          have cyQ' := hcyQ k (by rw [hlyQ]; exact hkl)
          have byQ : cf (pQ y) k < 256 := (par_bs (unhide HBY)).2 k
          have hlzP := (unhide HLN z (unhide HLZ) (unhide HSZ)).1
          obtain ⟨ozP, rfl, hczP⟩ := ((unhide HRzP).below (unhide HK)).cells (fun e => by rw [e] at hlzP; simp at hlzP; omega)
          have czP' := hczP k (by rw [hlzP]; exact hkl)
          have bzP : cf (pP z) k < 256 := (par_bs (unhide HBZ)).1 k
          have hlzQ := (unhide HLN z (unhide HLZ) (unhide HSZ)).2
          obtain ⟨ozQ, rfl, hczQ⟩ := ((unhide HRzQ).below (unhide HK)).cells (fun e => by rw [e] at hlzQ; simp at hlzQ; omega)
          have czQ' := hczQ k (by rw [hlzQ]; exact hkl)
          have bzQ : cf (pQ z) k < 256 := (par_bs (unhide HBZ)).2 k
          rw [q1] at czP'
          rw [q2] at czQ'
          have hxor1 := bits_xor_u8 bxP byP
          have hxor2 := bits_xor_u8 bxQ byQ
          generalize cf (pP x) k = p1 at *
          generalize cf (pP y) k = p2 at *
          generalize cf (pQ x) k = p3 at *
          generalize cf (pQ y) k = p4 at *
          clear q1 q2 hlxP hlxQ hlyP hlyQ hlzP hlzQ hcxP hcxQ hcyP hcyQ hczP hczQ bzP bzQ
          have e1 : (((p1 ^^^ p2 : Nat) : Int) != ((p1 ^^^ p2 : Nat) : Int)) = false := by simp
          have e2 : (((p3 ^^^ p4 : Nat) : Int) != ((p3 ^^^ p4 : Nat) : Int)) = false := by simp
          go_wp2_with fail
          go_quiet (fail)
          go_wp2_with fail
          go_roundw
          case rel => exact ⟨k + 1, by go_num, by omega, below_drewN (unhide HK) _⟩
          case measure => simp [intOf]; omega
        · have hk2 : k = s := by omega
          subst hk2
          go_wp2_with fail
          go_ret
          exact ⟨rfl, (unhide HB6).trans ((unhide HK).mono (unhide HB6).size)⟩

end Go.Proofs.Ytdlbkgehgbacmaa
