/-
  rs.sums.add: a row is added to the sums, by its shares.
-/
import Derived.Test.YtjdikhelabibnabGreatS5b
namespace Go.Proofs.YtjdikhelabibnabGreat
open Go.RowKit Go.Shelf

theorem sums_box (w : World) (d : Nat) (vp vq : Value) : (w.alloc (.cells #[.int .i64 (d : Int), vp, vq] 105)).cell? ⟨w.heap.size, 0, none⟩ = some (.int .i64 (d : Int)) ∧ (w.alloc (.cells #[.int .i64 (d : Int), vp, vq] 105)).cell? ⟨w.heap.size, 1, none⟩ = some vp ∧ (w.alloc (.cells #[.int .i64 (d : Int), vp, vq] 105)).cell? ⟨w.heap.size, 2, none⟩ = some vq := by
  have h := World.alloc_heap_new w (.cells #[.int .i64 (d : Int), vp, vq] 105)
  refine ⟨?_, ?_, ?_⟩
  · unfold World.cell?; rw [h]; rfl
  · unfold World.cell?; rw [h]; rfl
  · unfold World.cell?; rw [h]; rfl

set_option maxRecDepth 100000 in
set_option maxHeartbeats 8000000 in
theorem add_any5 (d : Nat) (hd : d ≤ 14) (gp gq n cp cq : Nat) (P Q : List Nat) (i : Nat) (hi : i ≤ 16) (v : Value) (gr : Nat) (r : List Nat) (w : World)
    (hP : Blk w gp P) (hQ : Blk w gq Q) (hPl : P.length = n) (hQl : Q.length = n) (hPb : Bs P) (hQb : Bs Q) (hne : gp ≠ gq) (hA : Arg w v gr r) (hr : r.length = n) (hg : r ≠ [] → gr ≠ gp ∧ gr ≠ gq) (hn : n ≤ 100000) :
    Calls Tryz.prog 89 #[sv d (.slice (some ⟨gp, 0, none⟩) n cp) (.slice (some ⟨gq, 0, none⟩) n cq), .int .i64 (i : Int), v] w fun e w' => (∃ u, e = .returned u) ∧ Blk w' gp (addF P r (shP d i)) ∧ Blk w' gq (addF Q r (shQ d i)) ∧ Kp [gp, gq] w w' := by
  have hpl := hP.lt
  have hql := hQ.lt
  have hbs := hA.bs
  obtain ⟨⟨ao, c, rfl, hc1, hc2, hnil, hrow⟩, _⟩ := hA
  rw [hr] at hc1 ⊢
  have HP := hide hP
  have HQ := hide hQ
  have HPB := hide hPb
  have HQB := hide hQb
  have HROW := hide hrow
  have HG := hide hg
  have HBS := hide hbs
  obtain ⟨a, ha⟩ : ∃ a, shP d i = a := ⟨_, rfl⟩
  obtain ⟨b, hb⟩ : ∃ b, shQ d i = b := ⟨_, rfl⟩
  have ha8 : a < 256 := by rw [← ha]; exact shP_lt _ _
  have hb8 : b < 256 := by rw [← hb]; exact shQ_lt _ _
  have HSH := hide (shares_any d hd (some ⟨gp, 0, none⟩) (some ⟨gq, 0, none⟩) n cp n cq i hi)
  rw [ha, hb] at HSH
  rw [ha, hb]
  have HPL := hide hPl
  have HQL := hide hQl
  have HRL := hide hr
  have HNE := hide hne
  clear hP hQ hPb hQb hrow hg hbs hnil ha hb hPl hQl hr hne hi
  unfold sv at *
  go_enter Tryz.func89, Tryz.ntmps89
  go_wp2_with fail
  refine (unhide HSH _).mono ?_
  rintro e w1 ⟨rfl, hk⟩
  obtain ⟨hb0, hb1, hb2⟩ := sums_box w d (.slice (some ⟨gp, 0, none⟩) n cp) (.slice (some ⟨gq, 0, none⟩) n cq)
  have HCP1 := hide ((hk.cell (p := ⟨w.heap.size, 1, none⟩) (by simp)).trans hb1)
  have HCQ1 := hide ((hk.cell (p := ⟨w.heap.size, 2, none⟩) (by simp)).trans hb2)
  have HK1 : Hid (Kp [gp, gq] w w1) := ((Kp.refl _ w).alloc _).ofBelow hk
  have hz1 := (unhide HK1).size
  have hk' : Kp [] w w1 := ((Kp.refl _ w).alloc _).ofBelow hk
  have HP1 : Hid (Blk w1 gp P) := (unhide HP).of (hk'.block gp hpl (by simp))
  have HQ1 : Hid (Blk w1 gq Q) := (unhide HQ).of (hk'.block gq hql (by simp))
  have HROW1 : Hid (Row w1 ao gr (ints r)) := (unhide HROW).keep hk' (by simp)
  clear hk hb0 hb1 hb2 hk' HSH
  go_wp2_with fail
  go_loopw [18] (fun p wr => ∃ k : Nat, p = .int .i64 k ∧ k ≤ n ∧ Blk wr gp (addK P r a k) ∧ Blk wr gq (addK Q r b k) ∧ Kp [gp, gq] w1 wr) (fun p _ => n - (intOf p).toNat)
  case atStart => exact ⟨0, rfl, by omega, by rw [addK_zero]; exact unhide HP1, by rw [addK_zero]; exact unhide HQ1, Kp.refl _ _⟩
  case round =>
    obtain ⟨k, rfl, hk, hBp, hBq, hKr⟩ := hrel
    have HBW := hide hBp
    have HBq := hide hBq
    have HKr := hide hKr
    have hzr := hKr.size
    clear hBp hBq hKr
    by_cases hlt : k < n
    · have hk1 : (k : Int) < (n : Int) := by omega
      have HPL' := unhide HPL
      have HQL' := unhide HQL
      have HNE' := unhide HNE
      have hr0 : r ≠ [] := fun e => by have h := unhide HRL; rw [e] at h; simp at h; omega
      have hgg := unhide HG hr0
      have hgr := (unhide HROW1).block_lt hr0
      obtain ⟨o, rfl⟩ := row_some (unhide HROW1) (by rw [unhide HRL]; omega)
      have hc := (unhide HKr).cell (row_cell (unhide HROW1) (j := k) (by rw [unhide HRL]; exact hlt)) (by simp; exact hgg)
      have hx8 : cf r k < 256 := unhide HBS k
      obtain ⟨x, hxe⟩ : ∃ x, cf r k = x := ⟨_, rfl⟩
      rw [hxe] at hc hx8
      have HX := hide hxe
      obtain ⟨y1, hy1⟩ : ∃ y, cf P k = y := ⟨_, rfl⟩
      have h1 : y1 < 256 := by rw [← hy1]; exact unhide HPB k
      have Hy1 := hide hy1
      obtain ⟨y2, hy2⟩ : ∃ y, cf Q k = y := ⟨_, rfl⟩
      have h2 : y2 < 256 := by rw [← hy2]; exact unhide HQB k
      have Hy2 := hide hy2
      have hxor1 := bits_xor_u8 h1 (gmul_lt (b := a) hx8)
      have hxor2 := bits_xor_u8 h2 (gmul_lt (b := b) hx8)
      have HCPr := hide ((unhide HKr).cell (unhide HCP1) (by simp; omega))
      have HCQr := hide ((unhide HKr).cell (unhide HCQ1) (by simp; omega))
      clear hxe hy1 hy2 hr0
      have HGG := hide hgg
      clear hgg
      go_wp2_with fail
      refine wp_region_noPanic ?_
      refine wp_region_held_drew (S := fun W => Kp [gp] wr W) (by kernel_rfl) ((Kp.refl _ _).drew) (fun hHeld => ?_)
      have HH := hide hHeld
      have HBc : Hid (Blk wr.drew gp _) := (unhide HBW).of rfl
      clear hHeld
      refine takeL (i := 0) (v := ?_) rfl (by kernel_rfl) (by kernel_rfl) (by kernel_rfl) (fun _ _ _ h => h) (Or.inl ⟨by rfl, ?_⟩) (unhide HH) ?_
      rotate_left 1
      · intro W hSW; go_simp; all_goals (with_reducible rfl)
      (try simp only [Act.put, List.setIfInBounds_toArray, List.set_cons_zero, List.set_cons_succ])
      refine takeL (i := 1) (v := ?_) rfl (by kernel_rfl) (by kernel_rfl) (by kernel_rfl) (fun _ _ _ h => h) (Or.inl ⟨by rfl, ?_⟩) (unhide HH) ?_
      rotate_left 1
      · intro W1 hSW; have hc := hSW.cell (unhide HCPr) (by simp; omega); clear hSW; go_simp; all_goals (with_reducible rfl)
      (try simp only [Act.put, List.setIfInBounds_toArray, List.set_cons_zero, List.set_cons_succ])
      refine takeL (i := 2) (v := ?_) rfl (by kernel_rfl) (by kernel_rfl) (by kernel_rfl) (fun _ _ _ h => h) (Or.inl ⟨by rfl, ?_⟩) (unhide HH) ?_
      rotate_left 1
      · intro W hSW; go_simp; all_goals (with_reducible rfl)
      (try simp only [Act.put, List.setIfInBounds_toArray, List.set_cons_zero, List.set_cons_succ])
      refine takeL (i := 3) (v := ?_) rfl (by kernel_rfl) (by kernel_rfl) (by kernel_rfl) (fun _ _ _ h => h) (Or.inl ⟨by rfl, ?_⟩) (unhide HH) ?_
      rotate_left 1
      · intro W hSW; go_simp; all_goals (with_reducible rfl)
      (try simp only [Act.put, List.setIfInBounds_toArray, List.set_cons_zero, List.set_cons_succ])
      refine takeL (i := 5) (v := ?_) rfl (by kernel_rfl) (by kernel_rfl) (by kernel_rfl) (fun _ _ _ h => h) (Or.inl ⟨by rfl, ?_⟩) (unhide HH) ?_
      rotate_left 1
      · intro W hSW; go_simp; all_goals (with_reducible rfl)
      (try simp only [Act.put, List.setIfInBounds_toArray, List.set_cons_zero, List.set_cons_succ])
      refine takeL (i := 6) (v := ?_) rfl (by kernel_rfl) (by kernel_rfl) (by kernel_rfl) (fun _ _ _ h => h) (Or.inl ⟨by rfl, ?_⟩) (unhide HH) ?_
      rotate_left 1
      · intro W hSW; go_simp; all_goals (with_reducible rfl)
      (try simp only [Act.put, List.setIfInBounds_toArray, List.set_cons_zero, List.set_cons_succ])
      refine wpAnyH_ready (rs := [4, 7]) (by kernel_rfl) (by simp) ?_
      refine consL rfl (fun K hK => ?_) (consL rfl (fun K hK => ?_) AllReadyH.nil)
      focus
        have he : wr.drew.cell? ⟨gp, k, none⟩ = some (.int .u8 (y1 : Int)) := (unhide HBc).cell (by rw [addK_len]; omega) |>.trans (by rw [addK_at (by omega), unhide Hy1])
        go_simp
        refine hK.out _ _ (unhide HH) (fun hHeld => ?_)
        clear hK K HH
        have HH := hide hHeld
        clear hHeld
        (try simp only [Act.put, List.setIfInBounds_toArray, List.set_cons_zero, List.set_cons_succ])
        clear he
        refine wpAnyH_ready (rs := [7]) (by kernel_rfl) (by simp) ?_
        refine consL rfl (fun K hK => ?_) AllReadyH.nil
        go_simp
        refine (mul_any x a hx8 ha8 _).mono ?_
        rintro e w4 ⟨rfl, hk4⟩
        have HBd : Hid (Blk w4 gp _) := (unhide HBc).of (hk4.block gp (unhide HBc).lt)
        have HK4 := hide hk4
        clear hk4
        go_wp2_with fail
        refine hK.out _ _ ((unhide HH).ofBelow (unhide HK4)) (fun hHeld => ?_)
        clear hK K HH
        have HH := hide hHeld
        clear hHeld
        (try simp only [Act.put, List.setIfInBounds_toArray, List.set_cons_zero, List.set_cons_succ])
        clear HK4
        refine takeL (i := 8) (v := ?_) rfl (by kernel_rfl) (by kernel_rfl) (by kernel_rfl) (fun _ _ _ h => h) (Or.inl ⟨by rfl, ?_⟩) (unhide HH) ?_
        rotate_left 1
        · intro W hSW; go_simp; all_goals (with_reducible rfl)
        (try simp only [Act.put, List.setIfInBounds_toArray, List.set_cons_zero, List.set_cons_succ])
        refine takeL (i := 9) (v := ?_) rfl (by kernel_rfl) (by kernel_rfl) (by kernel_rfl) (fun _ _ _ h => h) (Or.inl ⟨by rfl, ?_⟩) (unhide HH) ?_
        rotate_left 1
        · intro W hSW; go_simp; all_goals (with_reducible rfl)
        (try simp only [Act.put, List.setIfInBounds_toArray, List.set_cons_zero, List.set_cons_succ])
        refine wpAnyH_ready (rs := [10]) (by kernel_rfl) (by simp) ?_
        refine consL rfl (fun K hK => ?_) AllReadyH.nil
        have he : w4.cell? ⟨gp, k, none⟩ = some (.int .u8 (y1 : Int)) := (unhide HBd).cell (by rw [addK_len]; omega) |>.trans (by rw [addK_at (by omega), unhide Hy1])
        have hf4 : w4.frozen? ⟨gp, k, none⟩ = false := (unhide HBd).free
        go_simp
        have HBW2 := hide ((unhide HBd).set k (y1 ^^^ gmul x a) (by rw [addK_len]; omega))
        have HKW2 := hide ((unhide HH).setCell ⟨gp, k, none⟩ (.int .u8 ((y1 ^^^ gmul x a : Nat) : Int)) (.inl (by simp)))
        refine hK.out _ _ (unhide HKW2) (fun hHeld => ?_)
        clear hHeld hK K HH he hf4
        (try simp only [Act.put, List.setIfInBounds_toArray, List.set_cons_zero, List.set_cons_succ])
        refine wpAnyH_done (by kernel_rfl) ?_ _
        refine NoPanic.normal ?_
        generalize w4.setCell ⟨gp, k, none⟩ (.int .u8 ((y1 ^^^ gmul x a : Nat) : Int)) = w6 at HBW2 HKW2 ⊢
        clear HBc HBd
        have HBP : Hid (Blk w6 gp (addK P r a (k + 1))) := by
          show Blk _ _ _
          rw [← addK_step (by omega), unhide Hy1, unhide HX]; exact unhide HBW2
        have HKP : Hid (Kp [gp, gq] wr w6) := (unhide HKW2).mono (by simp)
        have HCQ := hide ((unhide HKP).cell (unhide HCQr) (by simp; omega))
        have HBW : Hid (Blk w6 gq (addK Q r b k)) := (unhide HBq).of ((unhide HKW2).block gq (unhide HBq).lt (by simp; omega))
        replace HBP := HBP
        clear HBW2 HKW2
        go_wp2_with fail
        refine wp_region_noPanic ?_
        refine wp_region_held_drew (S := fun W => Kp [gq] w6 W) (by kernel_rfl) ((Kp.refl _ _).drew) (fun hHeld => ?_)
        have HH := hide hHeld
        have HBc : Hid (Blk w6.drew gq _) := (unhide HBW).of rfl
        clear hHeld
        refine takeL (i := 0) (v := ?_) rfl (by kernel_rfl) (by kernel_rfl) (by kernel_rfl) (fun _ _ _ h => h) (Or.inl ⟨by rfl, ?_⟩) (unhide HH) ?_
        rotate_left 1
        · intro W hSW; go_simp; all_goals (with_reducible rfl)
        (try simp only [Act.put, List.setIfInBounds_toArray, List.set_cons_zero, List.set_cons_succ])
        refine takeL (i := 1) (v := ?_) rfl (by kernel_rfl) (by kernel_rfl) (by kernel_rfl) (fun _ _ _ h => h) (Or.inl ⟨by rfl, ?_⟩) (unhide HH) ?_
        rotate_left 1
        · intro W1 hSW; have hc := hSW.cell (unhide HCQ) (by simp; omega); clear hSW; go_simp; all_goals (with_reducible rfl)
        (try simp only [Act.put, List.setIfInBounds_toArray, List.set_cons_zero, List.set_cons_succ])
        refine takeL (i := 2) (v := ?_) rfl (by kernel_rfl) (by kernel_rfl) (by kernel_rfl) (fun _ _ _ h => h) (Or.inl ⟨by rfl, ?_⟩) (unhide HH) ?_
        rotate_left 1
        · intro W hSW; go_simp; all_goals (with_reducible rfl)
        (try simp only [Act.put, List.setIfInBounds_toArray, List.set_cons_zero, List.set_cons_succ])
        refine takeL (i := 3) (v := ?_) rfl (by kernel_rfl) (by kernel_rfl) (by kernel_rfl) (fun _ _ _ h => h) (Or.inl ⟨by rfl, ?_⟩) (unhide HH) ?_
        rotate_left 1
        · intro W hSW; go_simp; all_goals (with_reducible rfl)
        (try simp only [Act.put, List.setIfInBounds_toArray, List.set_cons_zero, List.set_cons_succ])
        refine takeL (i := 5) (v := ?_) rfl (by kernel_rfl) (by kernel_rfl) (by kernel_rfl) (fun _ _ _ h => h) (Or.inl ⟨by rfl, ?_⟩) (unhide HH) ?_
        rotate_left 1
        · intro W hSW; go_simp; all_goals (with_reducible rfl)
        (try simp only [Act.put, List.setIfInBounds_toArray, List.set_cons_zero, List.set_cons_succ])
        refine takeL (i := 6) (v := ?_) rfl (by kernel_rfl) (by kernel_rfl) (by kernel_rfl) (fun _ _ _ h => h) (Or.inl ⟨by rfl, ?_⟩) (unhide HH) ?_
        rotate_left 1
        · intro W hSW; go_simp; all_goals (with_reducible rfl)
        (try simp only [Act.put, List.setIfInBounds_toArray, List.set_cons_zero, List.set_cons_succ])
        refine wpAnyH_ready (rs := [4, 7]) (by kernel_rfl) (by simp) ?_
        refine consL rfl (fun K hK => ?_) (consL rfl (fun K hK => ?_) AllReadyH.nil)
        focus
          have he : w6.drew.cell? ⟨gq, k, none⟩ = some (.int .u8 (y2 : Int)) := (unhide HBc).cell (by rw [addK_len]; omega) |>.trans (by rw [addK_at (by omega), unhide Hy2])
          go_simp
          refine hK.out _ _ (unhide HH) (fun hHeld => ?_)
          clear hK K HH
          have HH := hide hHeld
          clear hHeld
          (try simp only [Act.put, List.setIfInBounds_toArray, List.set_cons_zero, List.set_cons_succ])
          clear he
          refine wpAnyH_ready (rs := [7]) (by kernel_rfl) (by simp) ?_
          refine consL rfl (fun K hK => ?_) AllReadyH.nil
          go_simp
          refine (mul_any x b hx8 hb8 _).mono ?_
          rintro e w4 ⟨rfl, hk4⟩
          have HBd : Hid (Blk w4 gq _) := (unhide HBc).of (hk4.block gq (unhide HBc).lt)
          have HK4 := hide hk4
          clear hk4
          go_wp2_with fail
          refine hK.out _ _ ((unhide HH).ofBelow (unhide HK4)) (fun hHeld => ?_)
          clear hK K HH
          have HH := hide hHeld
          clear hHeld
          (try simp only [Act.put, List.setIfInBounds_toArray, List.set_cons_zero, List.set_cons_succ])
          clear HK4
          refine takeL (i := 8) (v := ?_) rfl (by kernel_rfl) (by kernel_rfl) (by kernel_rfl) (fun _ _ _ h => h) (Or.inl ⟨by rfl, ?_⟩) (unhide HH) ?_
          rotate_left 1
          · intro W hSW; go_simp; all_goals (with_reducible rfl)
          (try simp only [Act.put, List.setIfInBounds_toArray, List.set_cons_zero, List.set_cons_succ])
          refine takeL (i := 9) (v := ?_) rfl (by kernel_rfl) (by kernel_rfl) (by kernel_rfl) (fun _ _ _ h => h) (Or.inl ⟨by rfl, ?_⟩) (unhide HH) ?_
          rotate_left 1
          · intro W hSW; go_simp; all_goals (with_reducible rfl)
          (try simp only [Act.put, List.setIfInBounds_toArray, List.set_cons_zero, List.set_cons_succ])
          refine wpAnyH_ready (rs := [10]) (by kernel_rfl) (by simp) ?_
          refine consL rfl (fun K hK => ?_) AllReadyH.nil
          have he : w4.cell? ⟨gq, k, none⟩ = some (.int .u8 (y2 : Int)) := (unhide HBd).cell (by rw [addK_len]; omega) |>.trans (by rw [addK_at (by omega), unhide Hy2])
          have hf4 : w4.frozen? ⟨gq, k, none⟩ = false := (unhide HBd).free
          go_simp
          have HBW2 := hide ((unhide HBd).set k (y2 ^^^ gmul x b) (by rw [addK_len]; omega))
          have HKW2 := hide ((unhide HH).setCell ⟨gq, k, none⟩ (.int .u8 ((y2 ^^^ gmul x b : Nat) : Int)) (.inl (by simp)))
          refine hK.out _ _ (unhide HKW2) (fun hHeld => ?_)
          clear hHeld hK K HH he hf4
          (try simp only [Act.put, List.setIfInBounds_toArray, List.set_cons_zero, List.set_cons_succ])
          refine wpAnyH_done (by kernel_rfl) ?_ _
          refine NoPanic.normal ?_
          replace HBP := hide ((unhide HBP).of ((unhide HKW2).block gp (unhide HBP).lt (by simp; omega)))
          generalize w4.setCell ⟨gq, k, none⟩ (.int .u8 ((y2 ^^^ gmul x b : Nat) : Int)) = w7 at HBW2 HKW2 HBP ⊢
          clear HBc HBd
          go_wp2_with fail
          go_roundw
          case rel =>
            refine ⟨k + 1, by go_num, by omega, ?_, ?_, ?_⟩
            · exact unhide HBP
            · rw [← addK_step (by omega), unhide Hy2, unhide HX]; exact unhide HBW2
            · exact ((unhide HKr).trans ((unhide HKP).trans (unhide HKW2) (by simp) : Kp [gp, gq] wr w7) (by simp))
          case measure => simp [intOf]; omega
        focus
          go_simp
          refine (mul_any x b hx8 hb8 _).mono ?_
          rintro e w4 ⟨rfl, hk4⟩
          have HBd : Hid (Blk w4 gq _) := (unhide HBc).of (hk4.block gq (unhide HBc).lt)
          have HK4 := hide hk4
          clear hk4
          go_wp2_with fail
          refine hK.out _ _ ((unhide HH).ofBelow (unhide HK4)) (fun hHeld => ?_)
          clear hK K HH
          have HH := hide hHeld
          clear hHeld
          (try simp only [Act.put, List.setIfInBounds_toArray, List.set_cons_zero, List.set_cons_succ])
          clear HK4
          refine wpAnyH_ready (rs := [4]) (by kernel_rfl) (by simp) ?_
          refine consL rfl (fun K hK => ?_) AllReadyH.nil
          have he : w4.cell? ⟨gq, k, none⟩ = some (.int .u8 (y2 : Int)) := (unhide HBd).cell (by rw [addK_len]; omega) |>.trans (by rw [addK_at (by omega), unhide Hy2])
          go_simp
          refine hK.out _ _ (unhide HH) (fun hHeld => ?_)
          clear hK K HH
          have HH := hide hHeld
          clear hHeld
          (try simp only [Act.put, List.setIfInBounds_toArray, List.set_cons_zero, List.set_cons_succ])
          clear he
          refine takeL (i := 8) (v := ?_) rfl (by kernel_rfl) (by kernel_rfl) (by kernel_rfl) (fun _ _ _ h => h) (Or.inl ⟨by rfl, ?_⟩) (unhide HH) ?_
          rotate_left 1
          · intro W hSW; go_simp; all_goals (with_reducible rfl)
          (try simp only [Act.put, List.setIfInBounds_toArray, List.set_cons_zero, List.set_cons_succ])
          refine takeL (i := 9) (v := ?_) rfl (by kernel_rfl) (by kernel_rfl) (by kernel_rfl) (fun _ _ _ h => h) (Or.inl ⟨by rfl, ?_⟩) (unhide HH) ?_
          rotate_left 1
          · intro W hSW; go_simp; all_goals (with_reducible rfl)
          (try simp only [Act.put, List.setIfInBounds_toArray, List.set_cons_zero, List.set_cons_succ])
          refine wpAnyH_ready (rs := [10]) (by kernel_rfl) (by simp) ?_
          refine consL rfl (fun K hK => ?_) AllReadyH.nil
          have he : w4.cell? ⟨gq, k, none⟩ = some (.int .u8 (y2 : Int)) := (unhide HBd).cell (by rw [addK_len]; omega) |>.trans (by rw [addK_at (by omega), unhide Hy2])
          have hf4 : w4.frozen? ⟨gq, k, none⟩ = false := (unhide HBd).free
          go_simp
          have HBW2 := hide ((unhide HBd).set k (y2 ^^^ gmul x b) (by rw [addK_len]; omega))
          have HKW2 := hide ((unhide HH).setCell ⟨gq, k, none⟩ (.int .u8 ((y2 ^^^ gmul x b : Nat) : Int)) (.inl (by simp)))
          refine hK.out _ _ (unhide HKW2) (fun hHeld => ?_)
          clear hHeld hK K HH he hf4
          (try simp only [Act.put, List.setIfInBounds_toArray, List.set_cons_zero, List.set_cons_succ])
          refine wpAnyH_done (by kernel_rfl) ?_ _
          refine NoPanic.normal ?_
          replace HBP := hide ((unhide HBP).of ((unhide HKW2).block gp (unhide HBP).lt (by simp; omega)))
          generalize w4.setCell ⟨gq, k, none⟩ (.int .u8 ((y2 ^^^ gmul x b : Nat) : Int)) = w7 at HBW2 HKW2 HBP ⊢
          clear HBc HBd
          go_wp2_with fail
          go_roundw
          case rel =>
            refine ⟨k + 1, by go_num, by omega, ?_, ?_, ?_⟩
            · exact unhide HBP
            · rw [← addK_step (by omega), unhide Hy2, unhide HX]; exact unhide HBW2
            · exact ((unhide HKr).trans ((unhide HKP).trans (unhide HKW2) (by simp) : Kp [gp, gq] wr w7) (by simp))
          case measure => simp [intOf]; omega
      focus
        go_simp
        refine (mul_any x a hx8 ha8 _).mono ?_
        rintro e w4 ⟨rfl, hk4⟩
        have HBd : Hid (Blk w4 gp _) := (unhide HBc).of (hk4.block gp (unhide HBc).lt)
        have HK4 := hide hk4
        clear hk4
        go_wp2_with fail
        refine hK.out _ _ ((unhide HH).ofBelow (unhide HK4)) (fun hHeld => ?_)
        clear hK K HH
        have HH := hide hHeld
        clear hHeld
        (try simp only [Act.put, List.setIfInBounds_toArray, List.set_cons_zero, List.set_cons_succ])
        clear HK4
        refine wpAnyH_ready (rs := [4]) (by kernel_rfl) (by simp) ?_
        refine consL rfl (fun K hK => ?_) AllReadyH.nil
        have he : w4.cell? ⟨gp, k, none⟩ = some (.int .u8 (y1 : Int)) := (unhide HBd).cell (by rw [addK_len]; omega) |>.trans (by rw [addK_at (by omega), unhide Hy1])
        go_simp
        refine hK.out _ _ (unhide HH) (fun hHeld => ?_)
        clear hK K HH
        have HH := hide hHeld
        clear hHeld
        (try simp only [Act.put, List.setIfInBounds_toArray, List.set_cons_zero, List.set_cons_succ])
        clear he
        refine takeL (i := 8) (v := ?_) rfl (by kernel_rfl) (by kernel_rfl) (by kernel_rfl) (fun _ _ _ h => h) (Or.inl ⟨by rfl, ?_⟩) (unhide HH) ?_
        rotate_left 1
        · intro W hSW; go_simp; all_goals (with_reducible rfl)
        (try simp only [Act.put, List.setIfInBounds_toArray, List.set_cons_zero, List.set_cons_succ])
        refine takeL (i := 9) (v := ?_) rfl (by kernel_rfl) (by kernel_rfl) (by kernel_rfl) (fun _ _ _ h => h) (Or.inl ⟨by rfl, ?_⟩) (unhide HH) ?_
        rotate_left 1
        · intro W hSW; go_simp; all_goals (with_reducible rfl)
        (try simp only [Act.put, List.setIfInBounds_toArray, List.set_cons_zero, List.set_cons_succ])
        refine wpAnyH_ready (rs := [10]) (by kernel_rfl) (by simp) ?_
        refine consL rfl (fun K hK => ?_) AllReadyH.nil
        have he : w4.cell? ⟨gp, k, none⟩ = some (.int .u8 (y1 : Int)) := (unhide HBd).cell (by rw [addK_len]; omega) |>.trans (by rw [addK_at (by omega), unhide Hy1])
        have hf4 : w4.frozen? ⟨gp, k, none⟩ = false := (unhide HBd).free
        go_simp
        have HBW2 := hide ((unhide HBd).set k (y1 ^^^ gmul x a) (by rw [addK_len]; omega))
        have HKW2 := hide ((unhide HH).setCell ⟨gp, k, none⟩ (.int .u8 ((y1 ^^^ gmul x a : Nat) : Int)) (.inl (by simp)))
        refine hK.out _ _ (unhide HKW2) (fun hHeld => ?_)
        clear hHeld hK K HH he hf4
        (try simp only [Act.put, List.setIfInBounds_toArray, List.set_cons_zero, List.set_cons_succ])
        refine wpAnyH_done (by kernel_rfl) ?_ _
        refine NoPanic.normal ?_
        generalize w4.setCell ⟨gp, k, none⟩ (.int .u8 ((y1 ^^^ gmul x a : Nat) : Int)) = w6 at HBW2 HKW2 ⊢
        clear HBc HBd
        have HBP : Hid (Blk w6 gp (addK P r a (k + 1))) := by
          show Blk _ _ _
          rw [← addK_step (by omega), unhide Hy1, unhide HX]; exact unhide HBW2
        have HKP : Hid (Kp [gp, gq] wr w6) := (unhide HKW2).mono (by simp)
        have HCQ := hide ((unhide HKP).cell (unhide HCQr) (by simp; omega))
        have HBW : Hid (Blk w6 gq (addK Q r b k)) := (unhide HBq).of ((unhide HKW2).block gq (unhide HBq).lt (by simp; omega))
        replace HBP := HBP
        clear HBW2 HKW2
        go_wp2_with fail
        refine wp_region_noPanic ?_
        refine wp_region_held_drew (S := fun W => Kp [gq] w6 W) (by kernel_rfl) ((Kp.refl _ _).drew) (fun hHeld => ?_)
        have HH := hide hHeld
        have HBc : Hid (Blk w6.drew gq _) := (unhide HBW).of rfl
        clear hHeld
        refine takeL (i := 0) (v := ?_) rfl (by kernel_rfl) (by kernel_rfl) (by kernel_rfl) (fun _ _ _ h => h) (Or.inl ⟨by rfl, ?_⟩) (unhide HH) ?_
        rotate_left 1
        · intro W hSW; go_simp; all_goals (with_reducible rfl)
        (try simp only [Act.put, List.setIfInBounds_toArray, List.set_cons_zero, List.set_cons_succ])
        refine takeL (i := 1) (v := ?_) rfl (by kernel_rfl) (by kernel_rfl) (by kernel_rfl) (fun _ _ _ h => h) (Or.inl ⟨by rfl, ?_⟩) (unhide HH) ?_
        rotate_left 1
        · intro W1 hSW; have hc := hSW.cell (unhide HCQ) (by simp; omega); clear hSW; go_simp; all_goals (with_reducible rfl)
        (try simp only [Act.put, List.setIfInBounds_toArray, List.set_cons_zero, List.set_cons_succ])
        refine takeL (i := 2) (v := ?_) rfl (by kernel_rfl) (by kernel_rfl) (by kernel_rfl) (fun _ _ _ h => h) (Or.inl ⟨by rfl, ?_⟩) (unhide HH) ?_
        rotate_left 1
        · intro W hSW; go_simp; all_goals (with_reducible rfl)
        (try simp only [Act.put, List.setIfInBounds_toArray, List.set_cons_zero, List.set_cons_succ])
        refine takeL (i := 3) (v := ?_) rfl (by kernel_rfl) (by kernel_rfl) (by kernel_rfl) (fun _ _ _ h => h) (Or.inl ⟨by rfl, ?_⟩) (unhide HH) ?_
        rotate_left 1
        · intro W hSW; go_simp; all_goals (with_reducible rfl)
        (try simp only [Act.put, List.setIfInBounds_toArray, List.set_cons_zero, List.set_cons_succ])
        refine takeL (i := 5) (v := ?_) rfl (by kernel_rfl) (by kernel_rfl) (by kernel_rfl) (fun _ _ _ h => h) (Or.inl ⟨by rfl, ?_⟩) (unhide HH) ?_
        rotate_left 1
        · intro W hSW; go_simp; all_goals (with_reducible rfl)
        (try simp only [Act.put, List.setIfInBounds_toArray, List.set_cons_zero, List.set_cons_succ])
        refine takeL (i := 6) (v := ?_) rfl (by kernel_rfl) (by kernel_rfl) (by kernel_rfl) (fun _ _ _ h => h) (Or.inl ⟨by rfl, ?_⟩) (unhide HH) ?_
        rotate_left 1
        · intro W hSW; go_simp; all_goals (with_reducible rfl)
        (try simp only [Act.put, List.setIfInBounds_toArray, List.set_cons_zero, List.set_cons_succ])
        refine wpAnyH_ready (rs := [4, 7]) (by kernel_rfl) (by simp) ?_
        refine consL rfl (fun K hK => ?_) (consL rfl (fun K hK => ?_) AllReadyH.nil)
        focus
          have he : w6.drew.cell? ⟨gq, k, none⟩ = some (.int .u8 (y2 : Int)) := (unhide HBc).cell (by rw [addK_len]; omega) |>.trans (by rw [addK_at (by omega), unhide Hy2])
          go_simp
          refine hK.out _ _ (unhide HH) (fun hHeld => ?_)
          clear hK K HH
          have HH := hide hHeld
          clear hHeld
          (try simp only [Act.put, List.setIfInBounds_toArray, List.set_cons_zero, List.set_cons_succ])
          clear he
          refine wpAnyH_ready (rs := [7]) (by kernel_rfl) (by simp) ?_
          refine consL rfl (fun K hK => ?_) AllReadyH.nil
          go_simp
          refine (mul_any x b hx8 hb8 _).mono ?_
          rintro e w4 ⟨rfl, hk4⟩
          have HBd : Hid (Blk w4 gq _) := (unhide HBc).of (hk4.block gq (unhide HBc).lt)
          have HK4 := hide hk4
          clear hk4
          go_wp2_with fail
          refine hK.out _ _ ((unhide HH).ofBelow (unhide HK4)) (fun hHeld => ?_)
          clear hK K HH
          have HH := hide hHeld
          clear hHeld
          (try simp only [Act.put, List.setIfInBounds_toArray, List.set_cons_zero, List.set_cons_succ])
          clear HK4
          refine takeL (i := 8) (v := ?_) rfl (by kernel_rfl) (by kernel_rfl) (by kernel_rfl) (fun _ _ _ h => h) (Or.inl ⟨by rfl, ?_⟩) (unhide HH) ?_
          rotate_left 1
          · intro W hSW; go_simp; all_goals (with_reducible rfl)
          (try simp only [Act.put, List.setIfInBounds_toArray, List.set_cons_zero, List.set_cons_succ])
          refine takeL (i := 9) (v := ?_) rfl (by kernel_rfl) (by kernel_rfl) (by kernel_rfl) (fun _ _ _ h => h) (Or.inl ⟨by rfl, ?_⟩) (unhide HH) ?_
          rotate_left 1
          · intro W hSW; go_simp; all_goals (with_reducible rfl)
          (try simp only [Act.put, List.setIfInBounds_toArray, List.set_cons_zero, List.set_cons_succ])
          refine wpAnyH_ready (rs := [10]) (by kernel_rfl) (by simp) ?_
          refine consL rfl (fun K hK => ?_) AllReadyH.nil
          have he : w4.cell? ⟨gq, k, none⟩ = some (.int .u8 (y2 : Int)) := (unhide HBd).cell (by rw [addK_len]; omega) |>.trans (by rw [addK_at (by omega), unhide Hy2])
          have hf4 : w4.frozen? ⟨gq, k, none⟩ = false := (unhide HBd).free
          go_simp
          have HBW2 := hide ((unhide HBd).set k (y2 ^^^ gmul x b) (by rw [addK_len]; omega))
          have HKW2 := hide ((unhide HH).setCell ⟨gq, k, none⟩ (.int .u8 ((y2 ^^^ gmul x b : Nat) : Int)) (.inl (by simp)))
          refine hK.out _ _ (unhide HKW2) (fun hHeld => ?_)
          clear hHeld hK K HH he hf4
          (try simp only [Act.put, List.setIfInBounds_toArray, List.set_cons_zero, List.set_cons_succ])
          refine wpAnyH_done (by kernel_rfl) ?_ _
          refine NoPanic.normal ?_
          replace HBP := hide ((unhide HBP).of ((unhide HKW2).block gp (unhide HBP).lt (by simp; omega)))
          generalize w4.setCell ⟨gq, k, none⟩ (.int .u8 ((y2 ^^^ gmul x b : Nat) : Int)) = w7 at HBW2 HKW2 HBP ⊢
          clear HBc HBd
          go_wp2_with fail
          go_roundw
          case rel =>
            refine ⟨k + 1, by go_num, by omega, ?_, ?_, ?_⟩
            · exact unhide HBP
            · rw [← addK_step (by omega), unhide Hy2, unhide HX]; exact unhide HBW2
            · exact ((unhide HKr).trans ((unhide HKP).trans (unhide HKW2) (by simp) : Kp [gp, gq] wr w7) (by simp))
          case measure => simp [intOf]; omega
        focus
          go_simp
          refine (mul_any x b hx8 hb8 _).mono ?_
          rintro e w4 ⟨rfl, hk4⟩
          have HBd : Hid (Blk w4 gq _) := (unhide HBc).of (hk4.block gq (unhide HBc).lt)
          have HK4 := hide hk4
          clear hk4
          go_wp2_with fail
          refine hK.out _ _ ((unhide HH).ofBelow (unhide HK4)) (fun hHeld => ?_)
          clear hK K HH
          have HH := hide hHeld
          clear hHeld
          (try simp only [Act.put, List.setIfInBounds_toArray, List.set_cons_zero, List.set_cons_succ])
          clear HK4
          refine wpAnyH_ready (rs := [4]) (by kernel_rfl) (by simp) ?_
          refine consL rfl (fun K hK => ?_) AllReadyH.nil
          have he : w4.cell? ⟨gq, k, none⟩ = some (.int .u8 (y2 : Int)) := (unhide HBd).cell (by rw [addK_len]; omega) |>.trans (by rw [addK_at (by omega), unhide Hy2])
          go_simp
          refine hK.out _ _ (unhide HH) (fun hHeld => ?_)
          clear hK K HH
          have HH := hide hHeld
          clear hHeld
          (try simp only [Act.put, List.setIfInBounds_toArray, List.set_cons_zero, List.set_cons_succ])
          clear he
          refine takeL (i := 8) (v := ?_) rfl (by kernel_rfl) (by kernel_rfl) (by kernel_rfl) (fun _ _ _ h => h) (Or.inl ⟨by rfl, ?_⟩) (unhide HH) ?_
          rotate_left 1
          · intro W hSW; go_simp; all_goals (with_reducible rfl)
          (try simp only [Act.put, List.setIfInBounds_toArray, List.set_cons_zero, List.set_cons_succ])
          refine takeL (i := 9) (v := ?_) rfl (by kernel_rfl) (by kernel_rfl) (by kernel_rfl) (fun _ _ _ h => h) (Or.inl ⟨by rfl, ?_⟩) (unhide HH) ?_
          rotate_left 1
          · intro W hSW; go_simp; all_goals (with_reducible rfl)
          (try simp only [Act.put, List.setIfInBounds_toArray, List.set_cons_zero, List.set_cons_succ])
          refine wpAnyH_ready (rs := [10]) (by kernel_rfl) (by simp) ?_
          refine consL rfl (fun K hK => ?_) AllReadyH.nil
          have he : w4.cell? ⟨gq, k, none⟩ = some (.int .u8 (y2 : Int)) := (unhide HBd).cell (by rw [addK_len]; omega) |>.trans (by rw [addK_at (by omega), unhide Hy2])
          have hf4 : w4.frozen? ⟨gq, k, none⟩ = false := (unhide HBd).free
          go_simp
          have HBW2 := hide ((unhide HBd).set k (y2 ^^^ gmul x b) (by rw [addK_len]; omega))
          have HKW2 := hide ((unhide HH).setCell ⟨gq, k, none⟩ (.int .u8 ((y2 ^^^ gmul x b : Nat) : Int)) (.inl (by simp)))
          refine hK.out _ _ (unhide HKW2) (fun hHeld => ?_)
          clear hHeld hK K HH he hf4
          (try simp only [Act.put, List.setIfInBounds_toArray, List.set_cons_zero, List.set_cons_succ])
          refine wpAnyH_done (by kernel_rfl) ?_ _
          refine NoPanic.normal ?_
          replace HBP := hide ((unhide HBP).of ((unhide HKW2).block gp (unhide HBP).lt (by simp; omega)))
          generalize w4.setCell ⟨gq, k, none⟩ (.int .u8 ((y2 ^^^ gmul x b : Nat) : Int)) = w7 at HBW2 HKW2 HBP ⊢
          clear HBc HBd
          go_wp2_with fail
          go_roundw
          case rel =>
            refine ⟨k + 1, by go_num, by omega, ?_, ?_, ?_⟩
            · exact unhide HBP
            · rw [← addK_step (by omega), unhide Hy2, unhide HX]; exact unhide HBW2
            · exact ((unhide HKr).trans ((unhide HKP).trans (unhide HKW2) (by simp) : Kp [gp, gq] wr w7) (by simp))
          case measure => simp [intOf]; omega
    · have hk2 : k = n := by omega
      subst hk2
      go_wp2
      go_end0
      refine ⟨⟨_, rfl⟩, ?_, ?_, (unhide HK1).trans (unhide HKr) (by simp)⟩
      · rw [← addK_all (k := k) (by rw [unhide HPL]; exact Nat.le_refl _)]; exact unhide HBW
      · rw [← addK_all (k := k) (by rw [unhide HQL]; exact Nat.le_refl _)]; exact unhide HBq

end Go.Proofs.YtjdikhelabibnabGreat
