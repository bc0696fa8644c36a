/-
  The walk of RowWrong.
-/
import Derived.Test.YtjdikhelabibnaaGreatMbi
namespace Go.Proofs.YtjdikhelabibnaaGreat
open Go Go.RowKit Go.Shelf

theorem z_one11 (w : World) (k : Nat) (hk : k < 1000) : ZArg (w.alloc (.cells #[.int .i64 (k : Int)] 3)) (.slice (some ⟨w.heap.size, 0, none⟩) 1 1) w.heap.size (ints [k]) :=
  ⟨⟨some ⟨w.heap.size, 0, none⟩, 1, rfl, by simp [ints], by unfold maxLen; omega, (fun h => by cases h), .inr ⟨0, rfl, fun j hj => by
    have : j = 0 := by simpa [ints] using hj
    subst this
    exact (cell_new' w _ _).1⟩⟩, by simp [ints]; omega⟩
theorem z_nil11 (w : World) : ZArg w (.slice none 0 0) 0 (ints []) := ⟨⟨none, 0, rfl, by simp [ints], by simp, fun _ => rfl, .inl rfl⟩, by simp [ints]⟩

set_option maxRecDepth 100000 in
set_option maxHeartbeats 16000000 in
theorem rowwrong_any (ao : Option Addr) (n c g : Nat) (L : List EV) (a1 : Int) (bo : Option Addr) (bn bc gy : Nat) (y : List Nat) (a3 : Int) (w : World) (hL : EArg w (.slice ao n c) g L) (hY : Arg w (.slice bo bn bc) gy y) :
    Calls Tryz.prog 6 #[.slice ao n c, .int .i64 a1, .slice bo bn bc, .int .i64 a3] w fun e w' => e = .returned (.bool true) ∧ Below w.heap.size w w' := by
  obtain ⟨hln, hnc, hcm, -⟩ := hL.mrow
  have HL := hide hL
  have hnm : (n : Int) ≤ 9223372036854775807 := by unfold maxLen at hcm; omega
  clear hL hln hnc hcm
  obtain ⟨bo', bc', hvy, hyc1, hyc2, -⟩ := hY.ex
  obtain ⟨rfl, hyl, rfl⟩ : bo = bo' ∧ bn = y.length ∧ bc = bc' := by cases hvy; exact ⟨rfl, rfl, rfl⟩
  have HYL : Hid (y.length = bn) := hyl.symm
  have HYB := hide hY.bs
  have HY := hide hY
  have hbm : (bn : Int) ≤ 9223372036854775807 := by unfold maxLen at hyc2; omega
  clear hvy hyc1 hyc2 hyl hY
  obtain ⟨k, hk7, hkN⟩ : ∃ k : Nat, a1 % 7 = (k : Int) ∧ k < 7 := ⟨(a1 % 7).toNat, by omega, by omega⟩
  obtain ⟨q, hq14, hqN⟩ : ∃ q : Nat, a3 % 14 = (q : Int) ∧ q < 14 := ⟨(a3 % 14).toNat, by omega, by omega⟩
  have W1 := fun W => (show Calls Tryz.prog 10 #[.int .i64 a1, .int .i64 7] W fun e w' => e = .returned (.int .i64 (k : Int)) ∧ w' = W from (within11_any a1 7 W (by decide) (by decide)).mono (fun e w' h => by rw [← hk7]; exact h))
  have W3 := fun W => (show Calls Tryz.prog 10 #[.int .i64 a3, .int .i64 14] W fun e w' => e = .returned (.int .i64 (q : Int)) ∧ w' = W from (within11_any a3 14 W (by decide) (by decide)).mono (fun e w' h => by rw [← hq14]; exact h))
  have HW1 := hide W1
  have HW3 := hide W3
  clear W1 W3 hk7 hq14
  obtain ⟨iB, hiB, hzB0, hzB1, hzB2⟩ := info_parts infoE
  have HIB := hide hiB
  clear hiB
  go_enter Tryz.func6, Tryz.ntmps6
  go_wp2_with fail
  refine (known11_any w).mono ?_
  rintro e w1 ⟨rfl, hk⟩
  have HT := hide hk
  replace HY := hide ((unhide HY).below hk)
  clear hk
  by_cases hlen : 8 < n
  · have hl1 : (8 : Int) < (n : Int) := by omega
    go_wp2_with fail
    go_ret
    exact ⟨rfl, unhide HT⟩
  have hl1 : (n : Int) ≤ 8 := by omega
  go_wp2_with fail
  have hsl := slots11_any ao n c g L 5 (by omega) _ ((unhide HL).below (unhide HT))
  refine hsl.mono ?_
  clear hsl
  rintro e w2 ⟨v, rfl, hO, hk⟩
  obtain ⟨sa, sn, sc, sg, hv, hE⟩ := hO.arg'
  subst hv
  replace HT := hide ((unhide HT).trans (hk.mono (unhide HT).size))
  replace HY := hide ((unhide HY).below hk)
  have HE := hide hE
  clear hk hO hE
  obtain ⟨S, hS⟩ : ∃ S, gdSl L 5 = S := ⟨_, rfl⟩
  have HSL : Hid (S.length ≤ 5) := by rw [← hS, gdSl_len]; show _ ≤ _; omega
  have HSK : Hid (okL S) := by rw [← hS]; exact gdSl_okL _
  rw [hS] at HE
  clear hS
  go_wp2_with fail
  refine (renc11_any 7 9 4 1 sa sn sc sg S w2 (unhide HE)).mono ?_
  rintro e w3 h
  have hokr : okRow 7 9 4 1 S := ⟨⟨by omega, by omega⟩, ⟨⟨by omega, by omega⟩, ⟨by omega, by omega⟩, by omega, by omega⟩, by have := unhide HSL; omega, unhide HSK⟩
  rcases h.res with ⟨-, vb, ps, rfl, hO⟩ | ⟨h1, -⟩
  rotate_left 1
  · exact absurd hokr h1
  rw [show ((7 : Int) - 2).toNat = 5 from rfl] at hO
  obtain ⟨gB, cB, A, C, rfl, hgB, hcB, hcBm, hRB, hcur⟩ := ownR_blk11 hO (encL_len _ _ _ _ _) (by omega)
  have hs2 := (unhide HT).size
  replace HT := hide ((unhide HT).trans (h.below.mono (unhide HT).size))
  replace HY := hide ((unhide HY).below h.below)
  have HPOK : Hid (∀ i, (S.getD i zEV).Ok) := (unhide HE).get_ok
  have hgBw : w.heap.size ≤ gB := by omega
  have HRB := hide hRB
  have HCUR := hide hcur
  clear hokr hO hRB hcur h HE
  go_wp2_with fail
  refine (unhide HW1 _).mono ?_
  rintro e wx ⟨rfl, hwx⟩
  rw [hwx]
  clear hwx wx
  have hkI : (k : Int) < 7 := by omega
  obtain ⟨f1, f2, -, -⟩ := encL_facts (a := 9) (b := 4) (c := 1) (d := 5) (unhide HPOK) (by omega) (by omega)
  obtain ⟨rk, hrk⟩ : ∃ rk, (encL 5 9 4 1 S).getD k [] = rk := ⟨_, rfl⟩
  have HRKE := hide hrk
  have HSK8 : Hid (rk.length = 48) := by show _ = _; rw [← hrk]; exact f1 k hkN
  have HBK : Hid (Bs rk) := by show Bs _; rw [← hrk]; exact f2 k
  have HV := hide (rarg_vrow (unhide HRB) (encL_len _ _ _ _ _))
  obtain ⟨o9, ho9, hcl⟩ := (unhide HV).at (by omega : 0 < 7)
  obtain rfl : o9 = 0 := by cases ho9; rfl
  have hcT := hcl k hkN
  rw [Nat.zero_add, hrk, unhide HSK8] at hcT
  obtain ⟨gk, hAk⟩ := (unhide HRB).rows k (by rw [encL_len]; exact hkN)
  rw [hrk, unhide HSK8] at hAk
  have hkE : Below w3.heap.size w3 (w3.alloc (.cells #[] 5)) := (Below.refl _ _).alloc (Nat.le_refl _) _
  have HE3 := hide (own_none w3 5)
  have hcTE := (hkE.cell (p := ⟨gB, k, none⟩) (block_lt_of_cell hcT)).trans hcT
  obtain ⟨⟨aK, cK, hvK, hsK, -, hnK, hrK⟩, -⟩ := hAk.below hkE
  rw [unhide HSK8] at hvK hsK
  obtain ⟨rfl, rfl⟩ : A k = aK ∧ C k = cK := by cases hvK; exact ⟨rfl, rfl⟩
  have HNK := hide hnK
  have HRK := hide hrK
  have HKE := hide hkE
  have HSZE : Hid (∀ i, i < 7 → ((encL 5 9 4 1 S).getD i []).length = 48) := f1
  clear hrk f1 f2 ho9 hcl hkE hvK hnK hrK hAk
  go_wp2_with (at_builtin; refine wpList_append_row _ rfl _ _ 47 rfl w3.heap.size 5 iB Tryz.underlying47 (unhide HIB) hzB0 hzB1 hzB2 (.slice (some ⟨w3.heap.size, 0, none⟩) 0 0) 0 [] rfl (unhide HE3) (A k) gk 48 (C k) (ints rk) rfl (by rw [ints_len]; exact unhide HSK8) (unhide HRK) (fun h => by have h0 := unhide HNK h; omega) (by omega) (by simp) ?_)
  intro v17 wb ho hg hnn
  have hkb := below_grown (unhide HKE) hg (by simp) (fun k hk => by have e2 : w3.heap.size = k := Option.some.inj hk; omega)
  obtain ⟨g17, c17, hv17, hg17, hg17l⟩ := owns_shape ho hnn
  subst hv17
  have hF17 := (owns_fr ho).2
  have HBK17 : Hid (Blk wb g17 rk) := by
    rcases hF17 with ⟨_, h⟩ | ⟨g', c', h1, _, _, h2, _⟩
    · cases h
    · injection h1 with h3 h4 h5
      injection h3 with h6
      injection h6 with h7
      rw [h7]; exact h2
  have HC17 : Hid (48 ≤ c17 ∧ c17 ≤ maxLen) := by
    rcases ho.2 with ⟨h, _⟩ | ⟨g', cap, cur, h1, h2, h3, h4, h5, _⟩
    · cases h
    · injection h1 with i3 i4 i5
      rw [i5]; exact ⟨h4, h5⟩
  have HY9 := hide ((unhide HY).below hkb)
  have HBb := hide ((unhide HT).trans (hkb.mono (unhide HT).size))
  have HKwb := hide hkb
  have hgy9 : y ≠ [] → gy < w3.heap.size := fun h => (unhide HY).lt h
  have HGY := hide hgy9
  clear ho hg hnn hkb hF17 hgy9 hcT hcTE hsK
  go_wp2_with fail
  go_loopw [13, 14] (fun q p wr => ∃ (j : Nat) (tu : Bool), q = .bool tu ∧ p = .int .i64 j ∧ j ≤ bn ∧ j ≤ 48 ∧ (tu = true ↔ ∃ c, c < j ∧ cf y c ≠ 0) ∧ Blk wr g17 (addK rk y 1 j) ∧ Kp [g17] wb wr) (fun _ p _ => 48 - (intOf p).toNat)
  case atStart => exact ⟨0, false, rfl, rfl, by omega, by omega, ⟨fun h => (by cases h), fun ⟨c, h, _⟩ => by omega⟩, by rw [addK_zero]; exact unhide HBK17, Kp.refl _ _⟩
  case round =>
    obtain ⟨j, tu, rfl, rfl, hjb, hj48, htu, hBj, hKj⟩ := hrel
    have HTU := hide htu
    have HBJ := hide hBj
    have HKJ := hide hKj
    clear htu hBj hKj
    by_cases hcont : j < bn ∧ j < 48
    · obtain ⟨h1, h2⟩ := hcont
      have i1 : (j : Int) < (bn : Int) := by omega
      have i2 : (j : Int) < 48 := by omega
      have hy0 : y ≠ [] := fun e => by have h := unhide HYL; rw [e] at h; simp at h; omega
      obtain ⟨oy, hyo, hyc⟩ := (unhide HY9).cells hy0
      subst hyo
      have hgyb := unhide HGY hy0
      have HYC := hide ((unhide HKJ).cell (hyc j (by rw [unhide HYL]; exact h1)) (by simp; omega))
      have hy8 : cf y j < 256 := unhide HYB j
      have hr8 : cf rk j < 256 := unhide HBK j
      have HST : Hid ((addK rk y 1 j).set j (cf rk j ^^^ cf y j) = addK rk y 1 (j + 1)) := by
        show _ = _
        rw [← addK_step (by rw [unhide HSK8]; exact h2), gmul_one hy8]
      have HTN1 : Hid ((∃ c, c < j + 1 ∧ cf y c ≠ 0) ↔ (∃ c, c < j ∧ cf y c ≠ 0) ∨ cf y j ≠ 0) := by
        constructor
        · rintro ⟨c, hc, hne⟩
          by_cases e : c = j
          · exact .inr (e ▸ hne)
          · exact .inl ⟨c, by omega, hne⟩
        · rintro (⟨c, hc, hne⟩ | hne)
          · exact ⟨c, by omega, hne⟩
          · exact ⟨j, by omega, hne⟩
      have hcr : wr.cell? ⟨g17, j, none⟩ = some (.int .u8 ((cf rk j : Nat) : Int)) := by
        have h := (unhide HBJ).cell (j := j) (by rw [addK_len, unhide HSK8]; exact h2)
        rwa [addK_at (by rw [unhide HSK8]; exact h2)] at h
      have HCR := hide hcr
      obtain ⟨yj, hyj⟩ : ∃ z, cf y j = z := ⟨_, rfl⟩
      obtain ⟨rj, hrj⟩ : ∃ z, cf rk j = z := ⟨_, rfl⟩
      rw [hyj] at HYC hy8 HST HTN1
      rw [hrj] at HCR hr8 HST
      have hxor := bits_xor_u8 hr8 hy8
      clear hyj hrj hcr hyc hy0
      go_wp2_with fail
      refine wp_region_noPanic ?_
      refine wp_region_held_drew (S := fun W => Kp [g17] wr W) (by kernel_rfl) ((Kp.refl _ _).drew) (fun hHeld => ?_)
      have HH := hide hHeld
      clear hHeld
      refine takeL (i := 0) (v := ?_) rfl (by kernel_rfl) (by kernel_rfl) (by kernel_rfl) (fun _ _ _ h => h) (Or.inl ⟨by rfl, ?_⟩) (unhide HH) ?_
      rotate_left 1
      · intro W hSW; go_simp; all_goals (with_reducible rfl)
      (try simp only [Act.put, List.setIfInBounds_toArray, List.set_cons_zero, List.set_cons_succ])
      refine takeL (i := 1) (v := ?_) rfl (by kernel_rfl) (by kernel_rfl) (by kernel_rfl) (fun _ _ _ h => h) (Or.inl ⟨by rfl, ?_⟩) (unhide HH) ?_
      rotate_left 1
      · intro W hSW; go_simp; all_goals (with_reducible rfl)
      (try simp only [Act.put, List.setIfInBounds_toArray, List.set_cons_zero, List.set_cons_succ])
      refine takeL (i := 2) (v := ?_) rfl (by kernel_rfl) (by kernel_rfl) (by kernel_rfl) (fun _ _ _ h => h) (Or.inl ⟨by rfl, ?_⟩) (unhide HH) ?_
      rotate_left 1
      · intro W hSW; go_simp; all_goals (with_reducible rfl)
      (try simp only [Act.put, List.setIfInBounds_toArray, List.set_cons_zero, List.set_cons_succ])
      refine takeL (i := 4) (v := ?_) rfl (by kernel_rfl) (by kernel_rfl) (by kernel_rfl) (fun _ _ _ h => h) (Or.inl ⟨by rfl, ?_⟩) (unhide HH) ?_
      rotate_left 1
      · intro W hSW; go_simp; all_goals (with_reducible rfl)
      (try simp only [Act.put, List.setIfInBounds_toArray, List.set_cons_zero, List.set_cons_succ])
      refine takeL (i := 5) (v := ?_) rfl (by kernel_rfl) (by kernel_rfl) (by kernel_rfl) (fun _ _ _ h => h) (Or.inl ⟨by rfl, ?_⟩) (unhide HH) ?_
      rotate_left 1
      · intro W hSW; go_simp; all_goals (with_reducible rfl)
      (try simp only [Act.put, List.setIfInBounds_toArray, List.set_cons_zero, List.set_cons_succ])
      refine takeL (i := 6) (v := ?_) rfl (by kernel_rfl) (by kernel_rfl) (by kernel_rfl) (fun _ _ _ h => h) (Or.inl ⟨by rfl, ?_⟩) (unhide HH) ?_
      rotate_left 1
      · intro W hSW; go_simp; all_goals (with_reducible rfl)
      (try simp only [Act.put, List.setIfInBounds_toArray, List.set_cons_zero, List.set_cons_succ])
      refine takeL (i := 7) (v := ?_) rfl (by kernel_rfl) (by kernel_rfl) (by kernel_rfl) (fun _ _ _ h => h) (Or.inl ⟨by rfl, ?_⟩) (unhide HH) ?_
      rotate_left 1
      · intro W1 hSW; have hc := hSW.cell (unhide HYC) (by simp; omega); clear hSW; go_simp; all_goals (with_reducible rfl)
      (try simp only [Act.put, List.setIfInBounds_toArray, List.set_cons_zero, List.set_cons_succ])
      refine wpAnyH_ready (rs := [3]) (by kernel_rfl) (by simp) ?_
      refine consL rfl (fun K hK => ?_) AllReadyH.nil
      have he : wr.cell? ⟨g17, j, none⟩ = some (.int .u8 (rj : Int)) := unhide HCR
      go_simp
      refine hK.out _ _ (unhide HH) (fun hHeld => ?_)
      clear hK K HH
      have HH := hide hHeld
      clear hHeld
      (try simp only [Act.put, List.setIfInBounds_toArray, List.set_cons_zero, List.set_cons_succ])
      clear he
      refine takeL (i := 8) (v := ?_) rfl (by kernel_rfl) (by kernel_rfl) (by kernel_rfl) (fun _ _ _ h => h) (Or.inl ⟨by rfl, ?_⟩) (unhide HH) ?_
      rotate_left 1
      · intro W hSW; go_simp; all_goals (with_reducible rfl)
      (try simp only [Act.put, List.setIfInBounds_toArray, List.set_cons_zero, List.set_cons_succ])
      refine takeL (i := 9) (v := ?_) rfl (by kernel_rfl) (by kernel_rfl) (by kernel_rfl) (fun _ _ _ h => h) (Or.inl ⟨by rfl, ?_⟩) (unhide HH) ?_
      rotate_left 1
      · intro W hSW; go_simp; all_goals (with_reducible rfl)
      (try simp only [Act.put, List.setIfInBounds_toArray, List.set_cons_zero, List.set_cons_succ])
      refine wpAnyH_ready (rs := [10]) (by kernel_rfl) (by simp) ?_
      refine consL rfl (fun K hK => ?_) AllReadyH.nil
      have he : wr.cell? ⟨g17, j, none⟩ = some (.int .u8 (rj : Int)) := unhide HCR
      have hf4 : wr.frozen? ⟨g17, j, none⟩ = false := (unhide HBJ).free
      go_simp
      have HBW2 : Hid (Blk (wr.setCell ⟨g17, j, none⟩ (.int .u8 ((rj ^^^ yj : Nat) : Int))).drew g17 _) := ((unhide HBJ).set j (rj ^^^ yj) (by rw [addK_len, unhide HSK8]; exact h2)).of rfl
      have HKW2 : Hid (Kp [g17] wr (wr.setCell ⟨g17, j, none⟩ (.int .u8 ((rj ^^^ yj : Nat) : Int))).drew) := ((Kp.refl [g17] wr).setCell ⟨g17, j, none⟩ (.int .u8 ((rj ^^^ yj : Nat) : Int)) (.inl (by simp))).drew
      refine hK.out _ _ (unhide HKW2) (fun hHeld => ?_)
      clear hHeld hK K HH he hf4
      (try simp only [Act.put, List.setIfInBounds_toArray, List.set_cons_zero, List.set_cons_succ])
      refine wpAnyH_done (by kernel_rfl) ?_ _
      refine NoPanic.normal ?_
      generalize (wr.setCell ⟨g17, j, none⟩ (.int .u8 ((rj ^^^ yj : Nat) : Int))).drew = w20 at HBW2 HKW2 ⊢
      have hyC := (unhide HKW2).cell (unhide HYC) (by simp; omega)
      cases tu with
      | true =>
        go_wp2_with fail
        go_roundw
        case rel => exact ⟨j + 1, true, rfl, by go_num, by omega, by omega, by rw [unhide HTN1]; exact ⟨fun h => .inl ((unhide HTU).1 h), fun _ => rfl⟩, by rw [← unhide HST]; exact unhide HBW2, (unhide HKJ).trans (unhide HKW2) (by simp)⟩
        case measure => simp [intOf]; omega
      | false =>
        by_cases hyz : yj = 0
        · have e1 : ((yj : Int) != 0) = false := by rw [hyz]; rfl
          have HYZ := hide hyz
          clear hyz
          go_wp2_with fail
          go_roundw
          case rel => exact ⟨j + 1, false, rfl, by go_num, by omega, by omega, by rw [unhide HTN1]; exact ⟨fun h => (by cases h), fun h => h.elim (fun h => (unhide HTU).2 h) (fun h => absurd (unhide HYZ) h)⟩, by rw [← unhide HST]; exact unhide HBW2, (unhide HKJ).trans (unhide HKW2) (by simp)⟩
          case measure => simp [intOf]; omega
        · have e1 : ((yj : Int) != 0) = true := by rw [bne_iff_ne]; omega
          have HYZ := hide hyz
          clear hyz
          go_wp2_with fail
          go_roundw
          case rel => exact ⟨j + 1, true, rfl, by go_num, by omega, by omega, by rw [unhide HTN1]; exact ⟨fun _ => .inr (unhide HYZ), fun _ => rfl⟩, by rw [← unhide HST]; exact unhide HBW2, (unhide HKJ).trans (unhide HKW2) (by simp)⟩
          case measure => simp [intOf]; omega
    · by_cases hjb2 : j < bn
      · have hj48b : (48 : Int) ≤ (j : Int) := by omega
        have i1 : (j : Int) < (bn : Int) := by omega
        have hBE : Blk wr g17 (addK rk y 1 j) := unhide HBJ
        have hbl : (addK rk y 1 j).length = 48 := by rw [addK_len, unhide HSK8]
        have HBr : Hid (Below w.heap.size w wr) := below_kp (unhide HBb) (unhide HKJ) (by simp; have := (unhide HT).size; omega) (unhide HBb).size
        have HB3r : Hid (Below w3.heap.size w3 wr) := below_kp (unhide HKwb) (unhide HKJ) (by simp; omega) (unhide HKwb).size
        have HT17 : Hid (addK rk y 1 j = rk ↔ ¬ ∃ c, c < j ∧ cf y c ≠ 0) := turned_eq11 (unhide HYB) (by rw [unhide HSK8]; exact hj48)
        cases tu with
        | false =>
          go_wp2_with fail
          go_ret
          exact ⟨rfl, unhide HBr⟩
        | true =>
          have HBADN : Hid (addK rk y 1 j ≠ (encL 5 9 4 1 S).getD k []) := by
            rw [unhide HRKE]
            exact fun e => (unhide HT17).1 e ((unhide HTU).1 rfl)
          have hA17 : Arg wr (.slice (some ⟨g17, 0, none⟩) (addK rk y 1 j).length c17) g17 (addK rk y 1 j) := hBE.arg (addK_bs (unhide HBK) (unhide HYB)) (by rw [hbl]; exact (unhide HC17).1) (unhide HC17).2
          have HBBS : Hid (Bs (addK rk y 1 j)) := addK_bs (unhide HBK) (unhide HYB)
          obtain ⟨bad, hbad⟩ : ∃ bad, addK rk y 1 j = bad := ⟨_, rfl⟩
          rw [hbad] at HBADN hA17 hbl HBBS
          have HBL := hide hbl
          clear hBE HT17 hbad
          have hRr := (unhide HRB).below (unhide HB3r)
          have hRx := hRr.put11 (encL_len _ _ _ _ _) hkN hA17
          rw [hbl] at hRx
          obtain ⟨cur, hcur⟩ := unhide HCUR
          have hcur2 := ((unhide HB3r).block gB (Array.getElem?_eq_some_iff.1 hcur).1).trans hcur
          have hf2 : wr.frozen? ⟨gB, k, none⟩ = false := free_blk hcur2
          obtain ⟨o9, ho9, hcl⟩ := ((unhide HV).below (unhide HB3r)).at (by omega : 0 < 7)
          obtain rfl : o9 = 0 := by cases ho9; rfl
          have hc2 := hcl k hkN
          rw [Nat.zero_add, unhide HSZE k hkN] at hc2
          obtain ⟨A2, hA2⟩ : ∃ A2 : Nat → Option Addr, (fun i => if i = k then some ⟨g17, 0, none⟩ else A i) = A2 := ⟨_, rfl⟩
          obtain ⟨C2, hC2⟩ : ∃ C2 : Nat → Nat, (fun i => if i = k then c17 else C i) = C2 := ⟨_, rfl⟩
          rw [hA2, hC2] at hRx
          have HRX := hide hRx
          have HT20 : Hid (Below w.heap.size w (wr.setCell ⟨gB, k, none⟩ (.slice (some ⟨g17, 0, none⟩) 48 c17))) := (unhide HBr).setCell (p := ⟨gB, k, none⟩) hgBw _
          clear hA17 hbl hRr hRx hcur hcur2 ho9 hcl hA2 hC2
          go_wp2_with fail
          clear hf2 hc2
          generalize wr.setCell ⟨gB, k, none⟩ (.slice (some ⟨g17, 0, none⟩) 48 c17) = w20 at HRX HT20 ⊢
          refine (unhide HW3 _).mono ?_
          rintro e wx ⟨rfl, hwx⟩
          rw [hwx]
          clear hwx wx
          by_cases hq7 : q < 7
          rotate_left 1
          · have hq7a : decide ((q : Int) < 7) = false := decide_eq_false (by omega)
            have hq7b : (7 : Int) ≤ (q : Int) := by omega
            clear hq7
            have hRG := unhide HRX
            go_wp2_with fail
            have hpg := pgs11_any _ 7 _ _ _ _ _ none 0 0 0 [] rfl (by rw [List.length_set, encL_len]) (by omega) (by omega) (by simp) w20 hRG (z_nil11 w20)
            refine hpg.mono ?_
            clear hpg hRG
            rintro e w25 ⟨gf, v, Gp, rfl, hPB, hgf, hk⟩
            have HT5 : Hid (Below w.heap.size w w25) := (unhide HT20).trans (hk.mono (unhide HT20).size)
            obtain ⟨cP, hvP, hcP, hcPm⟩ := hPB.ex
            have hPA := hPB.arg
            rw [pagesL_len] at hvP
            subst hvP
            have hdf := decF_wrong (sup := 4) (at' := 1) (d := 5) (a := 9) (b := 4) (c := 1) (S := S) (unhide HPOK) (by omega) (by omega) (A := A2) (C := C2) (gf := gf) (k := k) (bad := bad) hkN (unhide HBL) (unhide HBBS) (unhide HBADN) (lost := []) (.inl rfl) (most := 1) ⟨by omega, by omega⟩
            have hdec := dec11_any 4 1 _ _ _ _ _ 1 (fun i => by
              by_cases hi : i < 7
              · rw [pagesL_get hi]
                split
                · simp [lostP]
                · show (((encL 5 9 4 1 S).set k bad).getD i []).length ≤ 100000
                  rw [getD_set11 (by rw [encL_len]; exact hkN)]
                  split
                  · rw [unhide HBL]; omega
                  · rw [unhide HSZE i hi]; omega
              · rw [List.getD_eq_getElem?_getD, List.getElem?_eq_none (by rw [pagesL_len]; omega)]; simp [zPV]) w25 hPA
            have HDF := hide hdf
            have HDEC := hide hdec
            clear hk hPB hPA hgf hdf hdec hcP hcPm
            go_wp2_with fail
            refine (unhide HDEC).mono ?_
            rintro e w6 ⟨hk, v, hx, sv, g6, hv, hEA, -⟩
            have hdf := unhide HDF
            rw [show 5 + 2 = 7 from rfl] at hdf
            rw [hdf] at hx hv hEA
            have HT6 := hide ((unhide HT5).trans (hk.mono (unhide HT5).size))
            obtain ⟨so, sc6, hs, -⟩ := hEA.ex
            subst hs
            subst hv
            subst hx
            clear HDF HDEC hdf hEA hk
            dsimp only [zRow, List.length_nil]
            go_wp2_with fail
            go_ret
            exact ⟨rfl, (unhide HT6).alloc (unhide HT6).size _⟩
          have hq7b : (q : Int) < 7 := by omega
          by_cases hqk : q = k
          · have hqk1 : ((q : Int) != (k : Int)) = false := by rw [hqk]; simp
            clear hqk
            have hRG := unhide HRX
            go_wp2_with fail
            have hpg := pgs11_any _ 7 _ _ _ _ _ none 0 0 0 [] rfl (by rw [List.length_set, encL_len]) (by omega) (by omega) (by simp) w20 hRG (z_nil11 w20)
            refine hpg.mono ?_
            clear hpg hRG
            rintro e w25 ⟨gf, v, Gp, rfl, hPB, hgf, hk⟩
            have HT5 : Hid (Below w.heap.size w w25) := (unhide HT20).trans (hk.mono (unhide HT20).size)
            obtain ⟨cP, hvP, hcP, hcPm⟩ := hPB.ex
            have hPA := hPB.arg
            rw [pagesL_len] at hvP
            subst hvP
            have hdf := decF_wrong (sup := 4) (at' := 1) (d := 5) (a := 9) (b := 4) (c := 1) (S := S) (unhide HPOK) (by omega) (by omega) (A := A2) (C := C2) (gf := gf) (k := k) (bad := bad) hkN (unhide HBL) (unhide HBBS) (unhide HBADN) (lost := []) (.inl rfl) (most := 1) ⟨by omega, by omega⟩
            have hdec := dec11_any 4 1 _ _ _ _ _ 1 (fun i => by
              by_cases hi : i < 7
              · rw [pagesL_get hi]
                split
                · simp [lostP]
                · show (((encL 5 9 4 1 S).set k bad).getD i []).length ≤ 100000
                  rw [getD_set11 (by rw [encL_len]; exact hkN)]
                  split
                  · rw [unhide HBL]; omega
                  · rw [unhide HSZE i hi]; omega
              · rw [List.getD_eq_getElem?_getD, List.getElem?_eq_none (by rw [pagesL_len]; omega)]; simp [zPV]) w25 hPA
            have HDF := hide hdf
            have HDEC := hide hdec
            clear hk hPB hPA hgf hdf hdec hcP hcPm
            go_wp2_with fail
            refine (unhide HDEC).mono ?_
            rintro e w6 ⟨hk, v, hx, sv, g6, hv, hEA, -⟩
            have hdf := unhide HDF
            rw [show 5 + 2 = 7 from rfl] at hdf
            rw [hdf] at hx hv hEA
            have HT6 := hide ((unhide HT5).trans (hk.mono (unhide HT5).size))
            obtain ⟨so, sc6, hs, -⟩ := hEA.ex
            subst hs
            subst hv
            subst hx
            clear HDF HDEC hdf hEA hk
            dsimp only [zRow, List.length_nil]
            go_wp2_with fail
            go_ret
            exact ⟨rfl, (unhide HT6).alloc (unhide HT6).size _⟩
          have hqk1 : ((q : Int) != (k : Int)) = true := by rw [bne_iff_ne]; omega
          have hkf : Below w20.heap.size w20 (w20.alloc (.cells #[.int .i64 (q : Int)] 3)) := (Below.refl _ _).alloc (Nat.le_refl _) _
          have HZ1 := hide (z_one11 w20 q (by omega))
          replace HRX := hide ((unhide HRX).below hkf)
          replace HT20 := hide ((unhide HT20).trans (hkf.mono (unhide HT20).size))
          clear hkf
          have hRG := unhide HRX
          go_wp2_with fail
          have hpg := pgs11_any _ 7 _ _ _ _ _ _ 1 1 _ [q] rfl (by rw [List.length_set, encL_len]) (by omega) (by omega) (fun i hi => by rw [List.mem_singleton.1 hi]; exact hq7) _ hRG (unhide HZ1)
          refine hpg.mono ?_
          clear hpg hRG
          rintro e w25 ⟨gf, v, Gp, rfl, hPB, hgf, hk⟩
          have HT5 : Hid (Below w.heap.size w w25) := (unhide HT20).trans (hk.mono (unhide HT20).size)
          obtain ⟨cP, hvP, hcP, hcPm⟩ := hPB.ex
          have hPA := hPB.arg
          rw [pagesL_len] at hvP
          subst hvP
          have hdf := decF_wrong (sup := 4) (at' := 1) (d := 5) (a := 9) (b := 4) (c := 1) (S := S) (unhide HPOK) (by omega) (by omega) (A := A2) (C := C2) (gf := gf) (k := k) (bad := bad) hkN (unhide HBL) (unhide HBBS) (unhide HBADN) (lost := [q]) (.inr ⟨q, rfl, hq7, hqk⟩) (most := 1) ⟨by omega, by omega⟩
          have hdec := dec11_any 4 1 _ _ _ _ _ 1 (fun i => by
            by_cases hi : i < 7
            · rw [pagesL_get hi]
              split
              · simp [lostP]
              · show (((encL 5 9 4 1 S).set k bad).getD i []).length ≤ 100000
                rw [getD_set11 (by rw [encL_len]; exact hkN)]
                split
                · rw [unhide HBL]; omega
                · rw [unhide HSZE i hi]; omega
            · rw [List.getD_eq_getElem?_getD, List.getElem?_eq_none (by rw [pagesL_len]; omega)]; simp [zPV]) w25 hPA
          have HDF := hide hdf
          have HDEC := hide hdec
          clear hk hPB hPA hgf hdf hdec hcP hcPm
          go_wp2_with fail
          refine (unhide HDEC).mono ?_
          rintro e w6 ⟨hk, v, hx, sv, g6, hv, hEA, -⟩
          have hdf := unhide HDF
          rw [show 5 + 2 = 7 from rfl] at hdf
          rw [hdf] at hx hv hEA
          have HT6 := hide ((unhide HT5).trans (hk.mono (unhide HT5).size))
          obtain ⟨so, sc6, hs, -⟩ := hEA.ex
          subst hs
          subst hv
          subst hx
          clear HDF HDEC hdf hEA hk
          dsimp only [zRow, List.length_nil]
          go_wp2_with fail
          go_ret
          exact ⟨rfl, (unhide HT6).alloc (unhide HT6).size _⟩
      · have hjb3 : (bn : Int) ≤ (j : Int) := by omega
        have i1 : (bn : Int) ≤ (j : Int) := by omega
        have hBE : Blk wr g17 (addK rk y 1 j) := unhide HBJ
        have hbl : (addK rk y 1 j).length = 48 := by rw [addK_len, unhide HSK8]
        have HBr : Hid (Below w.heap.size w wr) := below_kp (unhide HBb) (unhide HKJ) (by simp; have := (unhide HT).size; omega) (unhide HBb).size
        have HB3r : Hid (Below w3.heap.size w3 wr) := below_kp (unhide HKwb) (unhide HKJ) (by simp; omega) (unhide HKwb).size
        have HT17 : Hid (addK rk y 1 j = rk ↔ ¬ ∃ c, c < j ∧ cf y c ≠ 0) := turned_eq11 (unhide HYB) (by rw [unhide HSK8]; exact hj48)
        cases tu with
        | false =>
          go_wp2_with fail
          go_ret
          exact ⟨rfl, unhide HBr⟩
        | true =>
          have HBADN : Hid (addK rk y 1 j ≠ (encL 5 9 4 1 S).getD k []) := by
            rw [unhide HRKE]
            exact fun e => (unhide HT17).1 e ((unhide HTU).1 rfl)
          have hA17 : Arg wr (.slice (some ⟨g17, 0, none⟩) (addK rk y 1 j).length c17) g17 (addK rk y 1 j) := hBE.arg (addK_bs (unhide HBK) (unhide HYB)) (by rw [hbl]; exact (unhide HC17).1) (unhide HC17).2
          have HBBS : Hid (Bs (addK rk y 1 j)) := addK_bs (unhide HBK) (unhide HYB)
          obtain ⟨bad, hbad⟩ : ∃ bad, addK rk y 1 j = bad := ⟨_, rfl⟩
          rw [hbad] at HBADN hA17 hbl HBBS
          have HBL := hide hbl
          clear hBE HT17 hbad
          have hRr := (unhide HRB).below (unhide HB3r)
          have hRx := hRr.put11 (encL_len _ _ _ _ _) hkN hA17
          rw [hbl] at hRx
          obtain ⟨cur, hcur⟩ := unhide HCUR
          have hcur2 := ((unhide HB3r).block gB (Array.getElem?_eq_some_iff.1 hcur).1).trans hcur
          have hf2 : wr.frozen? ⟨gB, k, none⟩ = false := free_blk hcur2
          obtain ⟨o9, ho9, hcl⟩ := ((unhide HV).below (unhide HB3r)).at (by omega : 0 < 7)
          obtain rfl : o9 = 0 := by cases ho9; rfl
          have hc2 := hcl k hkN
          rw [Nat.zero_add, unhide HSZE k hkN] at hc2
          obtain ⟨A2, hA2⟩ : ∃ A2 : Nat → Option Addr, (fun i => if i = k then some ⟨g17, 0, none⟩ else A i) = A2 := ⟨_, rfl⟩
          obtain ⟨C2, hC2⟩ : ∃ C2 : Nat → Nat, (fun i => if i = k then c17 else C i) = C2 := ⟨_, rfl⟩
          rw [hA2, hC2] at hRx
          have HRX := hide hRx
          have HT20 : Hid (Below w.heap.size w (wr.setCell ⟨gB, k, none⟩ (.slice (some ⟨g17, 0, none⟩) 48 c17))) := (unhide HBr).setCell (p := ⟨gB, k, none⟩) hgBw _
          clear hA17 hbl hRr hRx hcur hcur2 ho9 hcl hA2 hC2
          go_wp2_with fail
          clear hf2 hc2
          generalize wr.setCell ⟨gB, k, none⟩ (.slice (some ⟨g17, 0, none⟩) 48 c17) = w20 at HRX HT20 ⊢
          refine (unhide HW3 _).mono ?_
          rintro e wx ⟨rfl, hwx⟩
          rw [hwx]
          clear hwx wx
          by_cases hq7 : q < 7
          rotate_left 1
          · have hq7a : decide ((q : Int) < 7) = false := decide_eq_false (by omega)
            have hq7b : (7 : Int) ≤ (q : Int) := by omega
            clear hq7
            have hRG := unhide HRX
            go_wp2_with fail
            have hpg := pgs11_any _ 7 _ _ _ _ _ none 0 0 0 [] rfl (by rw [List.length_set, encL_len]) (by omega) (by omega) (by simp) w20 hRG (z_nil11 w20)
            refine hpg.mono ?_
            clear hpg hRG
            rintro e w25 ⟨gf, v, Gp, rfl, hPB, hgf, hk⟩
            have HT5 : Hid (Below w.heap.size w w25) := (unhide HT20).trans (hk.mono (unhide HT20).size)
            obtain ⟨cP, hvP, hcP, hcPm⟩ := hPB.ex
            have hPA := hPB.arg
            rw [pagesL_len] at hvP
            subst hvP
            have hdf := decF_wrong (sup := 4) (at' := 1) (d := 5) (a := 9) (b := 4) (c := 1) (S := S) (unhide HPOK) (by omega) (by omega) (A := A2) (C := C2) (gf := gf) (k := k) (bad := bad) hkN (unhide HBL) (unhide HBBS) (unhide HBADN) (lost := []) (.inl rfl) (most := 1) ⟨by omega, by omega⟩
            have hdec := dec11_any 4 1 _ _ _ _ _ 1 (fun i => by
              by_cases hi : i < 7
              · rw [pagesL_get hi]
                split
                · simp [lostP]
                · show (((encL 5 9 4 1 S).set k bad).getD i []).length ≤ 100000
                  rw [getD_set11 (by rw [encL_len]; exact hkN)]
                  split
                  · rw [unhide HBL]; omega
                  · rw [unhide HSZE i hi]; omega
              · rw [List.getD_eq_getElem?_getD, List.getElem?_eq_none (by rw [pagesL_len]; omega)]; simp [zPV]) w25 hPA
            have HDF := hide hdf
            have HDEC := hide hdec
            clear hk hPB hPA hgf hdf hdec hcP hcPm
            go_wp2_with fail
            refine (unhide HDEC).mono ?_
            rintro e w6 ⟨hk, v, hx, sv, g6, hv, hEA, -⟩
            have hdf := unhide HDF
            rw [show 5 + 2 = 7 from rfl] at hdf
            rw [hdf] at hx hv hEA
            have HT6 := hide ((unhide HT5).trans (hk.mono (unhide HT5).size))
            obtain ⟨so, sc6, hs, -⟩ := hEA.ex
            subst hs
            subst hv
            subst hx
            clear HDF HDEC hdf hEA hk
            dsimp only [zRow, List.length_nil]
            go_wp2_with fail
            go_ret
            exact ⟨rfl, (unhide HT6).alloc (unhide HT6).size _⟩
          have hq7b : (q : Int) < 7 := by omega
          by_cases hqk : q = k
          · have hqk1 : ((q : Int) != (k : Int)) = false := by rw [hqk]; simp
            clear hqk
            have hRG := unhide HRX
            go_wp2_with fail
            have hpg := pgs11_any _ 7 _ _ _ _ _ none 0 0 0 [] rfl (by rw [List.length_set, encL_len]) (by omega) (by omega) (by simp) w20 hRG (z_nil11 w20)
            refine hpg.mono ?_
            clear hpg hRG
            rintro e w25 ⟨gf, v, Gp, rfl, hPB, hgf, hk⟩
            have HT5 : Hid (Below w.heap.size w w25) := (unhide HT20).trans (hk.mono (unhide HT20).size)
            obtain ⟨cP, hvP, hcP, hcPm⟩ := hPB.ex
            have hPA := hPB.arg
            rw [pagesL_len] at hvP
            subst hvP
            have hdf := decF_wrong (sup := 4) (at' := 1) (d := 5) (a := 9) (b := 4) (c := 1) (S := S) (unhide HPOK) (by omega) (by omega) (A := A2) (C := C2) (gf := gf) (k := k) (bad := bad) hkN (unhide HBL) (unhide HBBS) (unhide HBADN) (lost := []) (.inl rfl) (most := 1) ⟨by omega, by omega⟩
            have hdec := dec11_any 4 1 _ _ _ _ _ 1 (fun i => by
              by_cases hi : i < 7
              · rw [pagesL_get hi]
                split
                · simp [lostP]
                · show (((encL 5 9 4 1 S).set k bad).getD i []).length ≤ 100000
                  rw [getD_set11 (by rw [encL_len]; exact hkN)]
                  split
                  · rw [unhide HBL]; omega
                  · rw [unhide HSZE i hi]; omega
              · rw [List.getD_eq_getElem?_getD, List.getElem?_eq_none (by rw [pagesL_len]; omega)]; simp [zPV]) w25 hPA
            have HDF := hide hdf
            have HDEC := hide hdec
            clear hk hPB hPA hgf hdf hdec hcP hcPm
            go_wp2_with fail
            refine (unhide HDEC).mono ?_
            rintro e w6 ⟨hk, v, hx, sv, g6, hv, hEA, -⟩
            have hdf := unhide HDF
            rw [show 5 + 2 = 7 from rfl] at hdf
            rw [hdf] at hx hv hEA
            have HT6 := hide ((unhide HT5).trans (hk.mono (unhide HT5).size))
            obtain ⟨so, sc6, hs, -⟩ := hEA.ex
            subst hs
            subst hv
            subst hx
            clear HDF HDEC hdf hEA hk
            dsimp only [zRow, List.length_nil]
            go_wp2_with fail
            go_ret
            exact ⟨rfl, (unhide HT6).alloc (unhide HT6).size _⟩
          have hqk1 : ((q : Int) != (k : Int)) = true := by rw [bne_iff_ne]; omega
          have hkf : Below w20.heap.size w20 (w20.alloc (.cells #[.int .i64 (q : Int)] 3)) := (Below.refl _ _).alloc (Nat.le_refl _) _
          have HZ1 := hide (z_one11 w20 q (by omega))
          replace HRX := hide ((unhide HRX).below hkf)
          replace HT20 := hide ((unhide HT20).trans (hkf.mono (unhide HT20).size))
          clear hkf
          have hRG := unhide HRX
          go_wp2_with fail
          have hpg := pgs11_any _ 7 _ _ _ _ _ _ 1 1 _ [q] rfl (by rw [List.length_set, encL_len]) (by omega) (by omega) (fun i hi => by rw [List.mem_singleton.1 hi]; exact hq7) _ hRG (unhide HZ1)
          refine hpg.mono ?_
          clear hpg hRG
          rintro e w25 ⟨gf, v, Gp, rfl, hPB, hgf, hk⟩
          have HT5 : Hid (Below w.heap.size w w25) := (unhide HT20).trans (hk.mono (unhide HT20).size)
          obtain ⟨cP, hvP, hcP, hcPm⟩ := hPB.ex
          have hPA := hPB.arg
          rw [pagesL_len] at hvP
          subst hvP
          have hdf := decF_wrong (sup := 4) (at' := 1) (d := 5) (a := 9) (b := 4) (c := 1) (S := S) (unhide HPOK) (by omega) (by omega) (A := A2) (C := C2) (gf := gf) (k := k) (bad := bad) hkN (unhide HBL) (unhide HBBS) (unhide HBADN) (lost := [q]) (.inr ⟨q, rfl, hq7, hqk⟩) (most := 1) ⟨by omega, by omega⟩
          have hdec := dec11_any 4 1 _ _ _ _ _ 1 (fun i => by
            by_cases hi : i < 7
            · rw [pagesL_get hi]
              split
              · simp [lostP]
              · show (((encL 5 9 4 1 S).set k bad).getD i []).length ≤ 100000
                rw [getD_set11 (by rw [encL_len]; exact hkN)]
                split
                · rw [unhide HBL]; omega
                · rw [unhide HSZE i hi]; omega
            · rw [List.getD_eq_getElem?_getD, List.getElem?_eq_none (by rw [pagesL_len]; omega)]; simp [zPV]) w25 hPA
          have HDF := hide hdf
          have HDEC := hide hdec
          clear hk hPB hPA hgf hdf hdec hcP hcPm
          go_wp2_with fail
          refine (unhide HDEC).mono ?_
          rintro e w6 ⟨hk, v, hx, sv, g6, hv, hEA, -⟩
          have hdf := unhide HDF
          rw [show 5 + 2 = 7 from rfl] at hdf
          rw [hdf] at hx hv hEA
          have HT6 := hide ((unhide HT5).trans (hk.mono (unhide HT5).size))
          obtain ⟨so, sc6, hs, -⟩ := hEA.ex
          subst hs
          subst hv
          subst hx
          clear HDF HDEC hdf hEA hk
          dsimp only [zRow, List.length_nil]
          go_wp2_with fail
          go_ret
          exact ⟨rfl, (unhide HT6).alloc (unhide HT6).size _⟩

end Go.Proofs.YtjdikhelabibnaaGreat
