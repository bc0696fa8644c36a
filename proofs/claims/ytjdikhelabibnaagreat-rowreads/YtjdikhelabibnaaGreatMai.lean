/-
  
-/
import Derived.Test.YtjdikhelabibnaaGreatMah
import Derived.Test.YtjdikhelabibnaaGreatMag
import Derived.Test.YtjdikhelabibnaaGreatMaf
namespace Go.Proofs.YtjdikhelabibnaaGreat
open Go.RowKit Go.Shelf
theorem sums_box (w : World) (d : Nat) (vp vq : Value) : (w.alloc (.cells #[.int .i64 (d : Int), vp, vq] 103)).cell? ⟨w.heap.size, 0, none⟩ = some (.int .i64 (d : Int)) ∧ (w.alloc (.cells #[.int .i64 (d : Int), vp, vq] 103)).cell? ⟨w.heap.size, 1, none⟩ = some vp ∧ (w.alloc (.cells #[.int .i64 (d : Int), vp, vq] 103)).cell? ⟨w.heap.size, 2, none⟩ = some vq := by
 have h := World.alloc_heap_new w (.cells #[.int .i64 (d : Int), vp, vq] 103)
 refine ⟨?_, ?_, ?_⟩
 ·unfold World.cell?; rw [h]; rfl
 ·unfold World.cell?; rw [h]; rfl
 unfold World.cell?; rw [h]; rfl
set_option maxRecDepth 100000 in
set_option maxHeartbeats 8000000 in
theorem add_any5 (d : Nat) (hd : d ≤ 14) (gp gq n cp cq : Nat) (P Q : List Nat) (i : Nat) (hi : i ≤ 16) (v : Value) (gr : Nat) (r : List Nat) (w : World)
  (hP : Blk w gp P) (hQ : Blk w gq Q) (hPl : P.length = n) (hQl : Q.length = n) (hPb : Bs P) (hQb : Bs Q) (hne : gp ≠ gq) (hA : Arg w v gr r) (hr : r.length = n) (hg : r ≠ [] → gr ≠ gp ∧ gr ≠ gq) (hn : n ≤ 100000) :
  Calls Tryz.prog 93 #[sv d (.slice (some ⟨gp, 0, none⟩) n cp) (.slice (some ⟨gq, 0, none⟩) n cq), .int .i64 (i : Int), v] w fun e w' => (∃ u, e = .returned u) ∧ Blk w' gp (addF P r (shP d i)) ∧ Blk w' gq (addF Q r (shQ d i)) ∧ Kp [gp, gq] w w' := by
 have hpl := hP.lt
 have hql := hQ.lt
 have hbs := hA.bs
 obtain ⟨⟨ao, c, rfl, hc1, hc2, hnil, hrow⟩, _⟩ := hA
 rw [hr] at hc1 ⊢
 have HP := hide hP
 have HQ := hide hQ
 have HPB := hide hPb
 have HQB := hide hQb
 have HROW := hide hrow
 have HG := hide hg
 have HBS := hide hbs
 obtain ⟨a, ha⟩ : ∃ a, shP d i = a := ⟨_, rfl⟩
 obtain ⟨b, hb⟩ : ∃ b, shQ d i = b := ⟨_, rfl⟩
 have ha8 : a < 256 := by rw [← ha]; exact shP_lt _ _
 have hb8 : b < 256 := by rw [← hb]; exact shQ_lt _ _
 have HSH := hide (shares_any d hd (some ⟨gp, 0, none⟩) (some ⟨gq, 0, none⟩) n cp n cq i hi)
 rw [ha, hb] at HSH
 rw [ha, hb]
 have HPL := hide hPl
 have HQL := hide hQl
 have HRL := hide hr
 have HNE := hide hne
 clear hP hQ hPb hQb hrow hg hbs hnil ha hb hPl hQl hr hne hi
 unfold sv at *
 go_enter Tryz.func93, Tryz.ntmps93
 go_wp2_with fail
 refine (uh HSH _).mono ?_
 rintro e w1 ⟨rfl, hk⟩
 obtain ⟨hb0, hb1, hb2⟩ := sums_box w d (.slice (some ⟨gp, 0, none⟩) n cp) (.slice (some ⟨gq, 0, none⟩) n cq)
 have HCP1 := hide ((hk.cell (p := ⟨w.heap.size, 1, none⟩) (by simp)).trans hb1)
 have HCQ1 := hide ((hk.cell (p := ⟨w.heap.size, 2, none⟩) (by simp)).trans hb2)
 have HK1 : Hid (Kp [gp, gq] w w1) := ((Kp.refl _ w).alloc _).ofBelow hk
 have hz1 := (uh HK1).size
 have hk' : Kp [] w w1 := ((Kp.refl _ w).alloc _).ofBelow hk
 have HP1 : Hid (Blk w1 gp P) := (uh HP).of (hk'.block gp hpl (by simp))
 have HQ1 : Hid (Blk w1 gq Q) := (uh HQ).of (hk'.block gq hql (by simp))
 have HROW1 : Hid (Row w1 ao gr (ints r)) := (uh HROW).keep hk' (by simp)
 clear hk hb0 hb1 hb2 hk' HSH
 go_wp2_with fail
 go_loopw [18] (fun p wr => ∃ k : Nat, p = .int .i64 k ∧ k ≤ n ∧ Blk wr gp (addK P r a k) ∧ Blk wr gq (addK Q r b k) ∧ Kp [gp, gq] w1 wr) (fun p _ => n - (intOf p).toNat)
 case atStart => exact ⟨0, rfl, by omega, by rw [addK_zero]; exact uh HP1, by rw [addK_zero]; exact uh HQ1, Kp.refl _ _⟩
 case round =>
  obtain ⟨k, rfl, hk, hBp, hBq, hKr⟩ := hrel
  have HBW := hide hBp
  have HBq := hide hBq
  have HKr := hide hKr
  have hzr := hKr.size
  clear hBp hBq hKr
  by_cases hlt : k < n
  ·have hk1 : (k : Int) < (n : Int) := by omega
   have HPL' := uh HPL
   have HQL' := uh HQL
   have HNE' := uh HNE
   have hr0 : r ≠ [] := fun e => by have h := uh HRL; rw [e] at h; simp at h; omega
   have hgg := uh HG hr0
   have hgr := (uh HROW1).block_lt hr0
   obtain ⟨o, rfl⟩ := row_some (uh HROW1) (by rw [uh HRL]; omega)
   have hc := (uh HKr).cell (row_cell (uh HROW1) (j := k) (by rw [uh HRL]; exact hlt)) (by simp; exact hgg)
   have hx8 : cf r k < 256 := uh HBS k
   obtain ⟨x, hxe⟩ : ∃ x, cf r k = x := ⟨_, rfl⟩
   rw [hxe] at hc hx8
   have HX := hide hxe
   obtain ⟨y1, hy1⟩ : ∃ y, cf P k = y := ⟨_, rfl⟩
   have h1 : y1 < 256 := by rw [← hy1]; exact uh HPB k
   have Hy1 := hide hy1
   obtain ⟨y2, hy2⟩ : ∃ y, cf Q k = y := ⟨_, rfl⟩
   have h2 : y2 < 256 := by rw [← hy2]; exact uh HQB k
   have Hy2 := hide hy2
   have hxor1 := bits_xor_u8 h1 (gmul_lt (b := a) hx8)
   have hxor2 := bits_xor_u8 h2 (gmul_lt (b := b) hx8)
   have HCPr := hide ((uh HKr).cell (uh HCP1) (by simp; omega))
   have HCQr := hide ((uh HKr).cell (uh HCQ1) (by simp; omega))
   clear hxe hy1 hy2 hr0
   have HGG := hide hgg
   clear hgg
   go_wp2_with fail
   refine wp_region_noPanic ?_
   refine wp_region_held_drew (S := fun W => Kp [gp] wr W) (by kernel_rfl) ((Kp.refl _ _).drew) (fun hHeld => ?_)
   have HH := hide hHeld
   have HBc : Hid (Blk wr.drew gp _) := (uh HBW).of rfl
   clear hHeld
   refine tkL 0 (uh HH) ?_
   (try simp only [layB])
   refine tkW 1 (v := ?_) ?_ (uh HH) ?_
   rotate_left 1
   ·intro W1 hSW; have hc := hSW.cell (uh HCPr) (by simp; omega); clear hSW; go_simp; all_goals (with_reducible rfl)
   (try simp only [layB])
   refine tkL 2 (uh HH) ?_
   (try simp only [layB])
   refine tkL 3 (uh HH) ?_
   (try simp only [layB])
   refine tkL 5 (uh HH) ?_
   (try simp only [layB])
   refine tkL 6 (uh HH) ?_
   (try simp only [layB])
   refine wpAnyH_ready (rs := [4, 7]) (by kernel_rfl) (by simp) ?_
   refine consL rfl (fun K hK => ?_) (consL rfl (fun K hK => ?_) AllReadyH.nil)
   focus
    have he : wr.drew.cell? ⟨gp, k, none⟩ = some (.int .u8 (y1 : Int)) := (uh HBc).cell (by rw [addK_len]; omega) |>.trans (by rw [addK_at (by omega), uh Hy1])
    go_simp
    refine hK.out _ _ (uh HH) (fun hHeld => ?_)
    clear hK K HH
    have HH := hide hHeld
    clear hHeld
    (try simp only [layB])
    clear he
    refine wpAnyH_ready (rs := [7]) (by kernel_rfl) (by simp) ?_
    refine consL rfl (fun K hK => ?_) AllReadyH.nil
    go_simp
    refine (mul_any x a hx8 ha8 _).mono ?_
    rintro e w4 ⟨rfl, hk4⟩
    have HBd : Hid (Blk w4 gp _) := (uh HBc).of (hk4.block gp (uh HBc).lt)
    have HK4 := hide hk4
    clear hk4
    go_wp2_with fail
    refine hK.out _ _ ((uh HH).ofBelow (uh HK4)) (fun hHeld => ?_)
    clear hK K HH
    have HH := hide hHeld
    clear hHeld
    (try simp only [layB])
    clear HK4
    refine tkL 8 (uh HH) ?_
    (try simp only [layB])
    refine tkL 9 (uh HH) ?_
    (try simp only [layB])
    refine wpAnyH_ready (rs := [10]) (by kernel_rfl) (by simp) ?_
    refine consL rfl (fun K hK => ?_) AllReadyH.nil
    have he : w4.cell? ⟨gp, k, none⟩ = some (.int .u8 (y1 : Int)) := (uh HBd).cell (by rw [addK_len]; omega) |>.trans (by rw [addK_at (by omega), uh Hy1])
    have hf4 : w4.frozen? ⟨gp, k, none⟩ = false := (uh HBd).free
    go_simp
    have HBW2 := hide ((uh HBd).set k (y1 ^^^ gmul x a) (by rw [addK_len]; omega))
    have HKW2 := hide ((uh HH).setCell ⟨gp, k, none⟩ (.int .u8 ((y1 ^^^ gmul x a : Nat) : Int)) (.inl (by simp)))
    refine hK.out _ _ (uh HKW2) (fun hHeld => ?_)
    clear hHeld hK K HH he hf4
    (try simp only [layB])
    refine wpAnyH_done (by kernel_rfl) ?_ _
    refine NoPanic.normal ?_
    generalize w4.setCell ⟨gp, k, none⟩ (.int .u8 ((y1 ^^^ gmul x a : Nat) : Int)) = w6 at HBW2 HKW2 ⊢
    clear HBc HBd
    have HBP : Hid (Blk w6 gp (addK P r a (k + 1))) := by
     show Blk _ _ _
     rw [← addK_step (by omega), uh Hy1, uh HX]; exact uh HBW2
    have HKP : Hid (Kp [gp, gq] wr w6) := (uh HKW2).mono (by simp)
    have HCQ := hide ((uh HKP).cell (uh HCQr) (by simp; omega))
    have HBW : Hid (Blk w6 gq (addK Q r b k)) := (uh HBq).of ((uh HKW2).block gq (uh HBq).lt (by simp; omega))
    replace HBP := HBP
    clear HBW2 HKW2
    go_wp2_with fail
    refine wp_region_noPanic ?_
    refine wp_region_held_drew (S := fun W => Kp [gq] w6 W) (by kernel_rfl) ((Kp.refl _ _).drew) (fun hHeld => ?_)
    have HH := hide hHeld
    have HBc : Hid (Blk w6.drew gq _) := (uh HBW).of rfl
    clear hHeld
    refine tkL 0 (uh HH) ?_
    (try simp only [layB])
    refine tkW 1 (v := ?_) ?_ (uh HH) ?_
    rotate_left 1
    ·intro W1 hSW; have hc := hSW.cell (uh HCQ) (by simp; omega); clear hSW; go_simp; all_goals (with_reducible rfl)
    (try simp only [layB])
    refine tkL 2 (uh HH) ?_
    (try simp only [layB])
    refine tkL 3 (uh HH) ?_
    (try simp only [layB])
    refine tkL 5 (uh HH) ?_
    (try simp only [layB])
    refine tkL 6 (uh HH) ?_
    (try simp only [layB])
    refine wpAnyH_ready (rs := [4, 7]) (by kernel_rfl) (by simp) ?_
    refine consL rfl (fun K hK => ?_) (consL rfl (fun K hK => ?_) AllReadyH.nil)
    focus
     have he : w6.drew.cell? ⟨gq, k, none⟩ = some (.int .u8 (y2 : Int)) := (uh HBc).cell (by rw [addK_len]; omega) |>.trans (by rw [addK_at (by omega), uh Hy2])
     go_simp
     refine hK.out _ _ (uh HH) (fun hHeld => ?_)
     clear hK K HH
     have HH := hide hHeld
     clear hHeld
     (try simp only [layB])
     clear he
     refine wpAnyH_ready (rs := [7]) (by kernel_rfl) (by simp) ?_
     refine consL rfl (fun K hK => ?_) AllReadyH.nil
     go_simp
     refine (mul_any x b hx8 hb8 _).mono ?_
     rintro e w4 ⟨rfl, hk4⟩
     have HBd : Hid (Blk w4 gq _) := (uh HBc).of (hk4.block gq (uh HBc).lt)
     have HK4 := hide hk4
     clear hk4
     go_wp2_with fail
     refine hK.out _ _ ((uh HH).ofBelow (uh HK4)) (fun hHeld => ?_)
     clear hK K HH
     have HH := hide hHeld
     clear hHeld
     (try simp only [layB])
     clear HK4
     refine tkL 8 (uh HH) ?_
     (try simp only [layB])
     refine tkL 9 (uh HH) ?_
     (try simp only [layB])
     refine wpAnyH_ready (rs := [10]) (by kernel_rfl) (by simp) ?_
     refine consL rfl (fun K hK => ?_) AllReadyH.nil
     have he : w4.cell? ⟨gq, k, none⟩ = some (.int .u8 (y2 : Int)) := (uh HBd).cell (by rw [addK_len]; omega) |>.trans (by rw [addK_at (by omega), uh Hy2])
     have hf4 : w4.frozen? ⟨gq, k, none⟩ = false := (uh HBd).free
     go_simp
     have HBW2 := hide ((uh HBd).set k (y2 ^^^ gmul x b) (by rw [addK_len]; omega))
     have HKW2 := hide ((uh HH).setCell ⟨gq, k, none⟩ (.int .u8 ((y2 ^^^ gmul x b : Nat) : Int)) (.inl (by simp)))
     refine hK.out _ _ (uh HKW2) (fun hHeld => ?_)
     clear hHeld hK K HH he hf4
     (try simp only [layB])
     refine wpAnyH_done (by kernel_rfl) ?_ _
     refine NoPanic.normal ?_
     replace HBP := hide ((uh HBP).of ((uh HKW2).block gp (uh HBP).lt (by simp; omega)))
     generalize w4.setCell ⟨gq, k, none⟩ (.int .u8 ((y2 ^^^ gmul x b : Nat) : Int)) = w7 at HBW2 HKW2 HBP ⊢
     clear HBc HBd
     go_wp2_with fail
     go_roundw
     case rel =>
      refine ⟨k + 1, by go_num, by omega, ?_, ?_, ?_⟩
      ·exact uh HBP
      ·rw [← addK_step (by omega), uh Hy2, uh HX]; exact uh HBW2
      exact ((uh HKr).trans ((uh HKP).trans (uh HKW2) (by simp) : Kp [gp, gq] wr w7) (by simp))
     case measure => simp [intOf]; omega
    focus
     go_simp
     refine (mul_any x b hx8 hb8 _).mono ?_
     rintro e w4 ⟨rfl, hk4⟩
     have HBd : Hid (Blk w4 gq _) := (uh HBc).of (hk4.block gq (uh HBc).lt)
     have HK4 := hide hk4
     clear hk4
     go_wp2_with fail
     refine hK.out _ _ ((uh HH).ofBelow (uh HK4)) (fun hHeld => ?_)
     clear hK K HH
     have HH := hide hHeld
     clear hHeld
     (try simp only [layB])
     clear HK4
     refine wpAnyH_ready (rs := [4]) (by kernel_rfl) (by simp) ?_
     refine consL rfl (fun K hK => ?_) AllReadyH.nil
     have he : w4.cell? ⟨gq, k, none⟩ = some (.int .u8 (y2 : Int)) := (uh HBd).cell (by rw [addK_len]; omega) |>.trans (by rw [addK_at (by omega), uh Hy2])
     go_simp
     refine hK.out _ _ (uh HH) (fun hHeld => ?_)
     clear hK K HH
     have HH := hide hHeld
     clear hHeld
     (try simp only [layB])
     clear he
     refine tkL 8 (uh HH) ?_
     (try simp only [layB])
     refine tkL 9 (uh HH) ?_
     (try simp only [layB])
     refine wpAnyH_ready (rs := [10]) (by kernel_rfl) (by simp) ?_
     refine consL rfl (fun K hK => ?_) AllReadyH.nil
     have he : w4.cell? ⟨gq, k, none⟩ = some (.int .u8 (y2 : Int)) := (uh HBd).cell (by rw [addK_len]; omega) |>.trans (by rw [addK_at (by omega), uh Hy2])
     have hf4 : w4.frozen? ⟨gq, k, none⟩ = false := (uh HBd).free
     go_simp
     have HBW2 := hide ((uh HBd).set k (y2 ^^^ gmul x b) (by rw [addK_len]; omega))
     have HKW2 := hide ((uh HH).setCell ⟨gq, k, none⟩ (.int .u8 ((y2 ^^^ gmul x b : Nat) : Int)) (.inl (by simp)))
     refine hK.out _ _ (uh HKW2) (fun hHeld => ?_)
     clear hHeld hK K HH he hf4
     (try simp only [layB])
     refine wpAnyH_done (by kernel_rfl) ?_ _
     refine NoPanic.normal ?_
     replace HBP := hide ((uh HBP).of ((uh HKW2).block gp (uh HBP).lt (by simp; omega)))
     generalize w4.setCell ⟨gq, k, none⟩ (.int .u8 ((y2 ^^^ gmul x b : Nat) : Int)) = w7 at HBW2 HKW2 HBP ⊢
     clear HBc HBd
     go_wp2_with fail
     go_roundw
     case rel =>
      refine ⟨k + 1, by go_num, by omega, ?_, ?_, ?_⟩
      ·exact uh HBP
      ·rw [← addK_step (by omega), uh Hy2, uh HX]; exact uh HBW2
      exact ((uh HKr).trans ((uh HKP).trans (uh HKW2) (by simp) : Kp [gp, gq] wr w7) (by simp))
     case measure => simp [intOf]; omega
   focus
    go_simp
    refine (mul_any x a hx8 ha8 _).mono ?_
    rintro e w4 ⟨rfl, hk4⟩
    have HBd : Hid (Blk w4 gp _) := (uh HBc).of (hk4.block gp (uh HBc).lt)
    have HK4 := hide hk4
    clear hk4
    go_wp2_with fail
    refine hK.out _ _ ((uh HH).ofBelow (uh HK4)) (fun hHeld => ?_)
    clear hK K HH
    have HH := hide hHeld
    clear hHeld
    (try simp only [layB])
    clear HK4
    refine wpAnyH_ready (rs := [4]) (by kernel_rfl) (by simp) ?_
    refine consL rfl (fun K hK => ?_) AllReadyH.nil
    have he : w4.cell? ⟨gp, k, none⟩ = some (.int .u8 (y1 : Int)) := (uh HBd).cell (by rw [addK_len]; omega) |>.trans (by rw [addK_at (by omega), uh Hy1])
    go_simp
    refine hK.out _ _ (uh HH) (fun hHeld => ?_)
    clear hK K HH
    have HH := hide hHeld
    clear hHeld
    (try simp only [layB])
    clear he
    refine tkL 8 (uh HH) ?_
    (try simp only [layB])
    refine tkL 9 (uh HH) ?_
    (try simp only [layB])
    refine wpAnyH_ready (rs := [10]) (by kernel_rfl) (by simp) ?_
    refine consL rfl (fun K hK => ?_) AllReadyH.nil
    have he : w4.cell? ⟨gp, k, none⟩ = some (.int .u8 (y1 : Int)) := (uh HBd).cell (by rw [addK_len]; omega) |>.trans (by rw [addK_at (by omega), uh Hy1])
    have hf4 : w4.frozen? ⟨gp, k, none⟩ = false := (uh HBd).free
    go_simp
    have HBW2 := hide ((uh HBd).set k (y1 ^^^ gmul x a) (by rw [addK_len]; omega))
    have HKW2 := hide ((uh HH).setCell ⟨gp, k, none⟩ (.int .u8 ((y1 ^^^ gmul x a : Nat) : Int)) (.inl (by simp)))
    refine hK.out _ _ (uh HKW2) (fun hHeld => ?_)
    clear hHeld hK K HH he hf4
    (try simp only [layB])
    refine wpAnyH_done (by kernel_rfl) ?_ _
    refine NoPanic.normal ?_
    generalize w4.setCell ⟨gp, k, none⟩ (.int .u8 ((y1 ^^^ gmul x a : Nat) : Int)) = w6 at HBW2 HKW2 ⊢
    clear HBc HBd
    have HBP : Hid (Blk w6 gp (addK P r a (k + 1))) := by
     show Blk _ _ _
     rw [← addK_step (by omega), uh Hy1, uh HX]; exact uh HBW2
    have HKP : Hid (Kp [gp, gq] wr w6) := (uh HKW2).mono (by simp)
    have HCQ := hide ((uh HKP).cell (uh HCQr) (by simp; omega))
    have HBW : Hid (Blk w6 gq (addK Q r b k)) := (uh HBq).of ((uh HKW2).block gq (uh HBq).lt (by simp; omega))
    replace HBP := HBP
    clear HBW2 HKW2
    go_wp2_with fail
    refine wp_region_noPanic ?_
    refine wp_region_held_drew (S := fun W => Kp [gq] w6 W) (by kernel_rfl) ((Kp.refl _ _).drew) (fun hHeld => ?_)
    have HH := hide hHeld
    have HBc : Hid (Blk w6.drew gq _) := (uh HBW).of rfl
    clear hHeld
    refine tkL 0 (uh HH) ?_
    (try simp only [layB])
    refine tkW 1 (v := ?_) ?_ (uh HH) ?_
    rotate_left 1
    ·intro W1 hSW; have hc := hSW.cell (uh HCQ) (by simp; omega); clear hSW; go_simp; all_goals (with_reducible rfl)
    (try simp only [layB])
    refine tkL 2 (uh HH) ?_
    (try simp only [layB])
    refine tkL 3 (uh HH) ?_
    (try simp only [layB])
    refine tkL 5 (uh HH) ?_
    (try simp only [layB])
    refine tkL 6 (uh HH) ?_
    (try simp only [layB])
    refine wpAnyH_ready (rs := [4, 7]) (by kernel_rfl) (by simp) ?_
    refine consL rfl (fun K hK => ?_) (consL rfl (fun K hK => ?_) AllReadyH.nil)
    focus
     have he : w6.drew.cell? ⟨gq, k, none⟩ = some (.int .u8 (y2 : Int)) := (uh HBc).cell (by rw [addK_len]; omega) |>.trans (by rw [addK_at (by omega), uh Hy2])
     go_simp
     refine hK.out _ _ (uh HH) (fun hHeld => ?_)
     clear hK K HH
     have HH := hide hHeld
     clear hHeld
     (try simp only [layB])
     clear he
     refine wpAnyH_ready (rs := [7]) (by kernel_rfl) (by simp) ?_
     refine consL rfl (fun K hK => ?_) AllReadyH.nil
     go_simp
     refine (mul_any x b hx8 hb8 _).mono ?_
     rintro e w4 ⟨rfl, hk4⟩
     have HBd : Hid (Blk w4 gq _) := (uh HBc).of (hk4.block gq (uh HBc).lt)
     have HK4 := hide hk4
     clear hk4
     go_wp2_with fail
     refine hK.out _ _ ((uh HH).ofBelow (uh HK4)) (fun hHeld => ?_)
     clear hK K HH
     have HH := hide hHeld
     clear hHeld
     (try simp only [layB])
     clear HK4
     refine tkL 8 (uh HH) ?_
     (try simp only [layB])
     refine tkL 9 (uh HH) ?_
     (try simp only [layB])
     refine wpAnyH_ready (rs := [10]) (by kernel_rfl) (by simp) ?_
     refine consL rfl (fun K hK => ?_) AllReadyH.nil
     have he : w4.cell? ⟨gq, k, none⟩ = some (.int .u8 (y2 : Int)) := (uh HBd).cell (by rw [addK_len]; omega) |>.trans (by rw [addK_at (by omega), uh Hy2])
     have hf4 : w4.frozen? ⟨gq, k, none⟩ = false := (uh HBd).free
     go_simp
     have HBW2 := hide ((uh HBd).set k (y2 ^^^ gmul x b) (by rw [addK_len]; omega))
     have HKW2 := hide ((uh HH).setCell ⟨gq, k, none⟩ (.int .u8 ((y2 ^^^ gmul x b : Nat) : Int)) (.inl (by simp)))
     refine hK.out _ _ (uh HKW2) (fun hHeld => ?_)
     clear hHeld hK K HH he hf4
     (try simp only [layB])
     refine wpAnyH_done (by kernel_rfl) ?_ _
     refine NoPanic.normal ?_
     replace HBP := hide ((uh HBP).of ((uh HKW2).block gp (uh HBP).lt (by simp; omega)))
     generalize w4.setCell ⟨gq, k, none⟩ (.int .u8 ((y2 ^^^ gmul x b : Nat) : Int)) = w7 at HBW2 HKW2 HBP ⊢
     clear HBc HBd
     go_wp2_with fail
     go_roundw
     case rel =>
      refine ⟨k + 1, by go_num, by omega, ?_, ?_, ?_⟩
      ·exact uh HBP
      ·rw [← addK_step (by omega), uh Hy2, uh HX]; exact uh HBW2
      exact ((uh HKr).trans ((uh HKP).trans (uh HKW2) (by simp) : Kp [gp, gq] wr w7) (by simp))
     case measure => simp [intOf]; omega
    focus
     go_simp
     refine (mul_any x b hx8 hb8 _).mono ?_
     rintro e w4 ⟨rfl, hk4⟩
     have HBd : Hid (Blk w4 gq _) := (uh HBc).of (hk4.block gq (uh HBc).lt)
     have HK4 := hide hk4
     clear hk4
     go_wp2_with fail
     refine hK.out _ _ ((uh HH).ofBelow (uh HK4)) (fun hHeld => ?_)
     clear hK K HH
     have HH := hide hHeld
     clear hHeld
     (try simp only [layB])
     clear HK4
     refine wpAnyH_ready (rs := [4]) (by kernel_rfl) (by simp) ?_
     refine consL rfl (fun K hK => ?_) AllReadyH.nil
     have he : w4.cell? ⟨gq, k, none⟩ = some (.int .u8 (y2 : Int)) := (uh HBd).cell (by rw [addK_len]; omega) |>.trans (by rw [addK_at (by omega), uh Hy2])
     go_simp
     refine hK.out _ _ (uh HH) (fun hHeld => ?_)
     clear hK K HH
     have HH := hide hHeld
     clear hHeld
     (try simp only [layB])
     clear he
     refine tkL 8 (uh HH) ?_
     (try simp only [layB])
     refine tkL 9 (uh HH) ?_
     (try simp only [layB])
     refine wpAnyH_ready (rs := [10]) (by kernel_rfl) (by simp) ?_
     refine consL rfl (fun K hK => ?_) AllReadyH.nil
     have he : w4.cell? ⟨gq, k, none⟩ = some (.int .u8 (y2 : Int)) := (uh HBd).cell (by rw [addK_len]; omega) |>.trans (by rw [addK_at (by omega), uh Hy2])
     have hf4 : w4.frozen? ⟨gq, k, none⟩ = false := (uh HBd).free
     go_simp
     have HBW2 := hide ((uh HBd).set k (y2 ^^^ gmul x b) (by rw [addK_len]; omega))
     have HKW2 := hide ((uh HH).setCell ⟨gq, k, none⟩ (.int .u8 ((y2 ^^^ gmul x b : Nat) : Int)) (.inl (by simp)))
     refine hK.out _ _ (uh HKW2) (fun hHeld => ?_)
     clear hHeld hK K HH he hf4
     (try simp only [layB])
     refine wpAnyH_done (by kernel_rfl) ?_ _
     refine NoPanic.normal ?_
     replace HBP := hide ((uh HBP).of ((uh HKW2).block gp (uh HBP).lt (by simp; omega)))
     generalize w4.setCell ⟨gq, k, none⟩ (.int .u8 ((y2 ^^^ gmul x b : Nat) : Int)) = w7 at HBW2 HKW2 HBP ⊢
     clear HBc HBd
     go_wp2_with fail
     go_roundw
     case rel =>
      refine ⟨k + 1, by go_num, by omega, ?_, ?_, ?_⟩
      ·exact uh HBP
      ·rw [← addK_step (by omega), uh Hy2, uh HX]; exact uh HBW2
      exact ((uh HKr).trans ((uh HKP).trans (uh HKW2) (by simp) : Kp [gp, gq] wr w7) (by simp))
     case measure => simp [intOf]; omega
  have hk2 : k = n := by omega
  subst hk2
  go_wp2
  go_end0
  refine ⟨⟨_, rfl⟩, ?_, ?_, (uh HK1).trans (uh HKr) (by simp)⟩
  ·rw [← addK_all (k := k) (by rw [uh HPL]; exact Nat.le_refl _)]; exact uh HBW
  rw [← addK_all (k := k) (by rw [uh HQL]; exact Nat.le_refl _)]; exact uh HBq
end Go.Proofs.YtjdikhelabibnaaGreat

namespace Go.Proofs.YtjdikhelabibnaaGreat
open Go.RowKit Go.Shelf
attribute [local go_sem] Oper.semAt_some
structure Sums (w : World) (b d gp gq n : Nat) (P Q : List Nat) : Prop where
 box : w.heap[b]? = some (.cells #[.int .i64 (d : Int), .slice (some ⟨gp, 0, none⟩) n n, .slice (some ⟨gq, 0, none⟩) n n] 103 (0, 0))
 p : Blk w gp P
 q : Blk w gq Q
 pl : P.length = n
 ql : Q.length = n
 pb : Bs P
 qb : Bs Q
 pq : gp ≠ gq
 bp : b ≠ gp
 bq : b ≠ gq
theorem cells_stay {W W' : World} {k : Nat} {cs : Array Value} {t : TypeId} {f : Nat × Nat} {row : Option Nat} (h : W.heap[k]? = some (.cells cs t f)) (hg : W.grownBy W' row) (hr : ∀ r, row = some r → ∃ o : Obj, W.heap[r]? = some o ∧ o.isCells = false) : W'.heap[k]? = W.heap[k]? :=
 hg.block k (lt_of_block h) (fun e => by
  obtain ⟨o, ho, hc⟩ := hr k e.symm
  rw [h] at ho
  cases ho
  simp [Obj.isCells] at hc)
theorem Sums.of {W W' : World} {b d gp gq n : Nat} {P Q : List Nat} (h : Sums W b d gp gq n P Q) (h1 : W'.heap[b]? = W.heap[b]?) (h2 : W'.heap[gp]? = W.heap[gp]?) (h3 : W'.heap[gq]? = W.heap[gq]?) : Sums W' b d gp gq n P Q :=
 ⟨h1.trans h.box, h.p.of h2, h.q.of h3, h.pl, h.ql, h.pb, h.qb, h.pq, h.bp, h.bq⟩
theorem Sums.kept {W W' : World} {b d gp gq n : Nat} {P Q : List Nat} {row : Option Nat} (h : Sums W b d gp gq n P Q) (hg : W.grownBy W' row) (hr : ∀ r, row = some r → ∃ o : Obj, W.heap[r]? = some o ∧ o.isCells = false) : Sums W' b d gp gq n P Q := by
 obtain ⟨c1, e1, _⟩ := h.p
 obtain ⟨c2, e2, _⟩ := h.q
 exact h.of (cells_stay h.box hg hr) (cells_stay e1 hg hr) (cells_stay e2 hg hr)
theorem Sums.cells {W : World} {b d gp gq n : Nat} {P Q : List Nat} (h : Sums W b d gp gq n P Q) : W.cell? ⟨b, 0, none⟩ = some (.int .i64 (d : Int)) ∧ W.cell? ⟨b, 1, none⟩ = some (.slice (some ⟨gp, 0, none⟩) n n) ∧ W.cell? ⟨b, 2, none⟩ = some (.slice (some ⟨gq, 0, none⟩) n n) := by
 have h := h.box
 refine ⟨?_, ?_, ?_⟩
 ·unfold World.cell?; rw [h]; rfl
 ·unfold World.cell?; rw [h]; rfl
 unfold World.cell?; rw [h]; rfl
theorem three_at {W : World} {b : Nat} {a0 a1 a2 : Value} {t : TypeId} (h : W.heap[b]? = some (.cells #[a0, a1, a2] t (0, 0))) : (W.cell? ⟨b, 0, none⟩ = some a0 ∧ W.cell? ⟨b, 1, none⟩ = some a1 ∧ W.cell? ⟨b, 2, none⟩ = some a2) ∧ ∀ j, W.frozen? ⟨b, j, none⟩ = false := by
 refine ⟨⟨?_, ?_, ?_⟩, fun j => free_of_two h⟩
 ·unfold World.cell?; rw [h]; rfl
 ·unfold World.cell?; rw [h]; rfl
 unfold World.cell?; rw [h]; rfl
theorem three_set0 {W : World} {b : Nat} {a0 a1 a2 x : Value} {t : TypeId} (h : W.heap[b]? = some (.cells #[a0, a1, a2] t (0, 0))) : (W.setCell ⟨b, 0, none⟩ x).heap[b]? = some (.cells #[x, a1, a2] t (0, 0)) := by
 rw [heap_setCell_same W b 0 _ t x h]; rfl
theorem three_set1 {W : World} {b : Nat} {a0 a1 a2 x : Value} {t : TypeId} (h : W.heap[b]? = some (.cells #[a0, a1, a2] t (0, 0))) : (W.setCell ⟨b, 1, none⟩ x).heap[b]? = some (.cells #[a0, x, a2] t (0, 0)) := by
 rw [heap_setCell_same W b 1 _ t x h]; rfl
theorem three_set2 {W : World} {b : Nat} {a0 a1 a2 x : Value} {t : TypeId} (h : W.heap[b]? = some (.cells #[a0, a1, a2] t (0, 0))) : (W.setCell ⟨b, 2, none⟩ x).heap[b]? = some (.cells #[a0, a1, x] t (0, 0)) := by
 rw [heap_setCell_same W b 2 _ t x h]; rfl
theorem three_new (w : World) (o0 o1 o2 : Obj) : ((((w.alloc o0).alloc o1).alloc o2).drew).heap[w.heap.size]? = some o0 ∧ ((((w.alloc o0).alloc o1).alloc o2).drew).heap[w.heap.size + 1]? = some o1 ∧ ((((w.alloc o0).alloc o1).alloc o2).drew).heap[w.heap.size + 1 + 1]? = some o2 ∧ Below w.heap.size w ((((w.alloc o0).alloc o1).alloc o2).drew) := by
 refine ⟨?_, ?_, ?_, ((((Below.refl _ w).alloc (Nat.le_refl _) _).alloc (by simp) _).alloc (by simp only [World.size_alloc]; omega) _).drew⟩
 ·exact (Below.heap_alloc _ _ _ (by simp only [World.size_alloc]; omega)).trans ((Below.heap_alloc _ _ _ (by simp)).trans (World.alloc_heap_new w o0))
 ·have := World.alloc_heap_new (w.alloc o0) o1
  rw [World.size_alloc] at this
  exact (Below.heap_alloc _ _ _ (by simp)).trans this
 have := World.alloc_heap_new ((w.alloc o0).alloc o1) o2
 rw [World.size_alloc, World.size_alloc] at this
 exact this
theorem zeros_cells (n : Nat) : ∀ j, j < (List.replicate n 0).length → (List.replicate n (Value.int .u8 0)).toArray[j]? = some (.int .u8 ((cf (List.replicate n 0) j : Nat) : Int)) := fun j hj => by
 rw [List.length_replicate] at hj
 rw [cf_zeros]
 simp [hj]
def zsv : Value := .agg #[.int .i64 0, .slice none 0 0, .slice none 0 0]
set_option maxRecDepth 100000 in
set_option maxHeartbeats 4000000 in
theorem sumsOf_not (v : Value) (hv : ∃ gf lb, v = .func (.func gf) #[] lb) (d : Int) (hd : d < 2 ∨ 14 < d) (w : World) :
  Calls Tryz.prog 54 #[v, .int .i64 d] w fun e w' => e = .returned (.tuple #[zsv, .bool false]) ∧ Below w.heap.size w w' := by
 obtain ⟨gf, lb, rfl⟩ := hv
 unfold zsv
 have HB1 : Hid (Below w.heap.size w (w.alloc (.cells #[.int .i64 0, .slice none 0 0, .slice none 0 0] 103))) := (Below.refl _ w).alloc (Nat.le_refl _) _
 have hR : (w.alloc (.cells #[.int .i64 0, .slice none 0 0, .slice none 0 0] 103)).heap[w.heap.size]? = some (.cells #[.int .i64 0, .slice none 0 0, .slice none 0 0] 103 (0, 0)) := World.alloc_heap_new w _
 have HR := hide hR
 clear hR
 go_enter Tryz.func54, Tryz.ntmps54
 have hd' : (decide (d < 2) || decide (14 < d)) = true := by simp; exact hd
 rcases hd with hd | hd
 ·have h1 : decide (d < 2) = true := by simpa using hd
  go_wp2
  obtain ⟨⟨d0, d1, d2⟩, _⟩ := three_at (uh HR)
  refine bodyPost_ret (v := .tuple #[.agg #[.int .i64 0, .slice none 0 0, .slice none 0 0], .bool false]) ?_ rfl ⟨rfl, uh HB1⟩
  simp [results, Tryz.f54, go_sem, d0, d1, d2]
 have h1 : decide (d < 2) = false := by simp; omega
 have h2 : decide (14 < d) = true := by simpa using hd
 go_wp2
 obtain ⟨⟨d0, d1, d2⟩, _⟩ := three_at (uh HR)
 refine bodyPost_ret (v := .tuple #[.agg #[.int .i64 0, .slice none 0 0, .slice none 0 0], .bool false]) ?_ rfl ⟨rfl, uh HB1⟩
 simp [results, Tryz.f54, go_sem, d0, d1, d2]
set_option maxRecDepth 100000 in
set_option maxHeartbeats 8000000 in
theorem sumsOf_any (gf : Nat) (lb : Array Value) (N : Nat) (A : Nat → Option Addr) (C : Nat → Nat) (K : Nat → Bool) (l : List (List Nat)) (d : Nat) (w : World) (hs : Seq5 gf lb N A (fun i => (l.getD i []).length) C K w)
    (hrows : ∀ i, i < N → ∃ g, Arg w (.slice (A i) (l.getD i []).length (C i)) g (l.getD i [])) (hbsl : ∀ i, Bs (l.getD i [])) (hd1 : 2 ≤ d) (hd2 : d ≤ 14) (hN : N ≤ 16) (hex : ∃ i, i < N ∧ K i = true) (hlen : ∀ i, (l.getD i []).length ≤ 100000) :
    Calls Tryz.prog 54 #[.func (.func gf) #[] lb, .int .i64 (d : Int)] w fun e w' => Below w.heap.size w w' ∧
      ((∃ n gp gq, e = .returned (.tuple #[sv d (.slice (some ⟨gp, 0, none⟩) n n) (.slice (some ⟨gq, 0, none⟩) n n), .bool true]) ∧ (∀ i, i < N → K i = true → (l.getD i []).length = n) ∧
          gp ≠ gq ∧ w.heap.size ≤ gp ∧ w.heap.size ≤ gq ∧ Blk w' gp (smL (shP d) l ((List.range N).filter K) n) ∧ Blk w' gq (smL (shQ d) l ((List.range N).filter K) n)) ∨
       (e = .returned (.tuple #[zsv, .bool false]) ∧ ∃ i j, i < N ∧ j < N ∧ K i = true ∧ K j = true ∧ (l.getD i []).length ≠ (l.getD j []).length)) := by
  have HS := hide hs
  have HROWS := hide hrows
  have HLEN := hide hlen
  have HBSL : Hid (∀ i, Bs (l.getD i [])) := hbsl
  clear hbsl
  have hd1' : (2 : Int) ≤ (d : Int) := by omega
  have hd2' : (d : Int) ≤ 14 := by omega
  clear hs hrows hlen
  refine (callsIn_wide (n := 3)).1 ?_
  refine callsIn_of_wp_marks Tryz.func54 rfl trivial ?_ rfl
  simp only [Tryz.ntmps54, List.size_toArray, List.length_cons, List.length_nil, Nat.reduceAdd, Nat.reduceSub, Array.replicate_succ, Array.replicate_zero, List.push_toArray, List.append_toArray, List.nil_append, List.cons_append]
  gi_wp2
  have HB1 : Hid (Below w.heap.size w (w.alloc (.cells #[.int .i64 0, .slice none 0 0, .slice none 0 0] 103))) := (Below.refl _ w).alloc (Nat.le_refl _) _
  have HR1 : Hid ((w.alloc (.cells #[.int .i64 0, .slice none 0 0, .slice none 0 0] 103)).heap[w.heap.size]? = some (.cells #[.int .i64 0, .slice none 0 0, .slice none 0 0] 103 (0, 0))) := World.alloc_heap_new w _
  have hz1 : w.heap.size < (w.alloc (.cells #[.int .i64 0, .slice none 0 0, .slice none 0 0] 103)).heap.size := by simp
  generalize w.alloc (.cells #[.int .i64 0, .slice none 0 0, .slice none 0 0] 103) = w1 at HB1 HR1 hz1 ⊢
  refine ⟨trivial, (callsIn_wide.2 (sizeOf_any gf lb N A _ C K w1 ((uh HS).below (uh HB1)) (fun i => by have := uh HLEN i; omega))).mono ?_⟩
  rintro e w2 ⟨hk, h⟩
  have HB2 := hide ((uh HB1).trans (hk.mono (by omega)))
  have HR2 := hide ((hk.block w.heap.size (by omega)).trans (uh HR1))
  have hz2 : w.heap.size < w2.heap.size := Nat.lt_of_lt_of_le hz1 hk.size
  clear hk HB1 HR1
  rcases h with ⟨n, rfl, hn1, hn2⟩ | ⟨rfl, hbad⟩
  · obtain ⟨i0, hi0, hk0, hn0⟩ := hn2 hex
    have hn : n ≤ 100000 := by rw [← hn0]; exact uh HLEN i0
    have HN1 := hide hn1
    clear hn1 hn2 hi0 hk0 hn0
    gi_wp2
    refine wpIn_mono (Q := fun e a' W => e = .normal ∧ ∃ gp gq b, a' = { tmps := #[.func (.func gf) #[] lb, .int .i64 (d : Int), undef, undef, .pointer (some ⟨w.heap.size, 0, none⟩), .bool false, .int .i64 (n : Int), .bool true, .pointer (some ⟨b, 0, none⟩), undef, undef, .int .i64 (d : Int), .bool (decide ((d : Int) < 2)), .bool (decide ((d : Int) < 2)), .int .i64 (d : Int), .bool (decide (14 < (d : Int))), .bool (decide ((d : Int) < 2) || decide (14 < (d : Int))), undef,
      .tuple #[.int .i64 (n : Int), .bool true], .func (.func gf) #[] lb, .tuple #[.int .i64 (n : Int), .bool true], .int .i64 (n : Int), .bool true, .bool true, .bool false, undef, .int .i64 (d : Int), .int .i64 (n : Int), .slice (some ⟨gp, 0, none⟩) n n, .int .i64 (n : Int), .slice (some ⟨gq, 0, none⟩) n n, sv d (.slice (some ⟨gp, 0, none⟩) n n) (.slice (some ⟨gq, 0, none⟩) n n), undef, undef, undef, undef, undef, undef, undef, undef], defers := [] } ∧
      Sums W b d gp gq n (List.replicate n 0) (List.replicate n 0) ∧ w2.heap.size ≤ gp ∧ w2.heap.size ≤ gq ∧ w2.heap.size ≤ b ∧ Below w2.heap.size w2 W) ?_ ?_
    · have hmk := run_zeros n (by omega)
      obtain ⟨zz, hzz⟩ : ∃ z, (List.replicate n (Value.int .u8 0)).toArray = z := ⟨_, rfl⟩
      rw [hzz] at hmk
      have HZC := hide (zeros_cells n)
      rw [hzz] at HZC
      clear hzz
      rw [wpIn_wide]
      go_region
      all_goals obtain ⟨h0, h1, h2, hB⟩ := three_new w2 _ _ _
      all_goals refine ⟨rfl, _, _, _, rfl, ⟨by first | exact h0 | exact h1 | exact h2, ⟨zz, by first | exact h0 | exact h1 | exact h2, uh HZC⟩, ⟨zz, by first | exact h2 | exact h1 | exact h0, uh HZC⟩, by simp, by simp, Bs.zeros _, Bs.zeros _, by omega, by omega, by omega⟩, by omega, by omega, by omega, hB⟩
    rintro e a' W ⟨rfl, gp, gq, b, rfl, hS, hgp, hgq, hb, hk⟩
    have HSM := hide hS
    have HBW := hide ((uh HB2).trans (hk.mono (by omega)))
    have HRW := hide ((hk.block w.heap.size (by omega)).trans (uh HR2))
    have hzW := hk.size
    clear hS hk
    unfold sv
    gi_wp2
    refine wpIn_rangeFunc_ownF rfl (by omega) (gf := gf) (lb := lb) rfl trivial (uh HS).enters
      ((uh HS).seq W [gp, gq] W.heap.size (uh HBW) (by simp; omega) (by omega))
      (fun h k => h.trans k) (kq_b (Nat.le_refl _)) (Below.refl _ _) (fun _ => rfl)
      (fun pre W' => (Sums W' b d gp gq n (smL (shP d) l (pre.map Subtype.val) n) (smL (shQ d) l (pre.map Subtype.val) n) ∧ W'.heap[w.heap.size]? = some (.cells #[.int .i64 0, .slice none 0 0, .slice none 0 0] 103 (0, 0))) ∧ Kp [gp, gq] W W')
      (fun _ _ _ => False)
      (OwnFrom.and (Own.from (fun s A B row hs hg hr => ⟨hs.1.kept hg hr, (cells_stay hs.2 hg hr).trans hs.2⟩) _) (ownFrom_kp (Nat.le_refl _)))
      (fun _ _ _ _ _ hs _ _ => hs)
      ⟨⟨by simp only [List.map_nil, smL_nil]; exact uh HSM, uh HRW⟩, Kp.refl _ _⟩
      (fun x => { tmps := #[.func (.func gf) #[] lb, .int .i64 (d : Int), undef, undef, .pointer (some ⟨w.heap.size, 0, none⟩), .bool false, .int .i64 (n : Int), .bool true, .pointer (some ⟨b, 0, none⟩), .int .i64 x.val, .slice (A x.val) (l.getD x.val []).length (C x.val), .int .i64 (d : Int), .bool (decide ((d : Int) < 2)), .bool (decide ((d : Int) < 2)), .int .i64 (d : Int), .bool (decide (14 < (d : Int))), .bool (decide ((d : Int) < 2) || decide (14 < (d : Int))), undef,
        .tuple #[.int .i64 (n : Int), .bool true], .func (.func gf) #[] lb, .tuple #[.int .i64 (n : Int), .bool true], .int .i64 (n : Int), .bool true, .bool true, .bool false, undef, .int .i64 (d : Int), .int .i64 (n : Int), .slice (some ⟨gp, 0, none⟩) n n, .int .i64 (n : Int), .slice (some ⟨gq, 0, none⟩) n n, .agg #[.int .i64 (d : Int), .slice (some ⟨gp, 0, none⟩) n n, .slice (some ⟨gq, 0, none⟩) n n], .func (.func gf) #[] lb, .int .i64 x.val, .slice (A x.val) (l.getD x.val []).length (C x.val), undef, undef, undef, undef, undef], defers := [] }) ?assign ?body ?done ?stop
    case assign =>
      intro l x W K hK
      gi_wp2
      exact hK
    case body =>
      rintro l0 pre x W3 ⟨⟨hS, hR⟩, hK⟩ _
      have HSM := hide hS
      have HR3 := hide hR
      have HK3 := hide hK
      obtain ⟨c0, c1, c2⟩ := hS.cells
      obtain ⟨g, hA⟩ := uh HROWS x.val x.2.1
      have hxn := uh HN1 x.val x.2.1 x.2.2
      have hb3 : Below w.heap.size w W3 := ⟨hK.os.trans (uh HBW).os, hK.tape.trans (uh HBW).tape, hK.output.trans (uh HBW).output, Nat.le_trans (uh HBW).size hK.size, fun i hi => (hK.block i (by have := (uh HBW).size; omega) (by simp; omega)).trans ((uh HBW).block i hi)⟩
      have HA : Hid (Arg W3 (.slice (A x.val) n (C x.val)) g (l.getD x.val [])) := by
        show Arg _ _ _ _
        rw [← hxn]
        exact hA.below hb3
      have HG : Hid (l.getD x.val [] ≠ [] → g ≠ gp ∧ g ≠ gq) := fun h => by have := hA.lt h; omega
      have HXN := hide hxn
      have hx16 : x.val ≤ 16 := by have := x.2.1; omega
      dsimp only
      rw [hxn]
      clear hS hR hK hA hxn hb3
      gi_wp2
      refine ⟨trivial, (CallsIn.inRound l0 (callsIn_wide.2 (add_any5 d (by omega) gp gq n n n _ _ x.val hx16 _ g _ W3 (uh HSM).p (uh HSM).q (uh HSM).pl (uh HSM).ql (uh HSM).pb (uh HSM).qb (uh HSM).pq (uh HA) (uh HXN) (uh HG) hn))).mono ?_⟩
      rintro e W4 ⟨⟨u, rfl⟩, hp4, hq4, hk4⟩
      rw [addF_smL] at hp4 hq4
      have HQ : Hid (KeepsOthers W3 W4 ∧ Kq [gp, gq] W.heap.size W3 W4 ∧ ((Sums W4 b d gp gq n (smL (shP d) l ((pre ++ [x]).map Subtype.val) n) (smL (shQ d) l ((pre ++ [x]).map Subtype.val) n) ∧ W4.heap[w.heap.size]? = some (.cells #[.int .i64 0, .slice none 0 0, .slice none 0 0] 103 (0, 0))) ∧ Kp [gp, gq] W W4)) := by
        show _ ∧ _
        have hsm := uh HSM
        refine ⟨⟨hk4.size, fun k o ho hc => ?_⟩, kp_kq hk4 (uh HK3).size, ⟨⟨?_, ?_, ?_, smL_len _ _ _ _, smL_len _ _ _ _, smL_bs (uh HBSL), smL_bs (uh HBSL), hsm.pq, hsm.bp, hsm.bq⟩, hk4.heap (uh HR3) (by simp; omega)⟩, (uh HK3).trans hk4 (by simp)⟩
        · by_cases e1 : k = gp
          · obtain ⟨cur, h1, _⟩ := hsm.p
            rw [e1, h1] at ho
            cases ho
            simp [Obj.isCells] at hc
          by_cases e2 : k = gq
          · obtain ⟨cur, h1, _⟩ := hsm.q
            rw [e2, h1] at ho
            cases ho
            simp [Obj.isCells] at hc
          exact hk4.heap ho (by simp; exact ⟨e1, e2⟩)
        · exact hk4.heap hsm.box (by have := hsm.bp; have := hsm.bq; simp; omega)
        · rw [List.map_append]; exact hp4
        rw [List.map_append]; exact hq4
      clear hp4 hq4 hk4
      gi_wp2
      exact uh HQ
    case done =>
      rintro D ys W3 hD hys ⟨⟨hS, hR⟩, hK⟩ hKD
      rw [hys] at hS
      obtain ⟨c0, c1, c2⟩ := hS.cells
      have HSM := hide hS
      have HK3 := hide hK
      have HKD := hide hKD
      have HR3 := hide hR
      clear hS hK hKD
      obtain ⟨⟨r0, _, _⟩, f0⟩ := three_at hR
      have e1 := three_set0 (x := .int .i64 (d : Int)) hR
      obtain ⟨⟨_, r1, _⟩, f1⟩ := three_at e1
      have e2 := three_set1 (x := .slice (some ⟨gp, 0, none⟩) n n) e1
      obtain ⟨⟨_, _, r2⟩, f2⟩ := three_at e2
      have e3 := three_set2 (x := .slice (some ⟨gq, 0, none⟩) n n) e2
      have E3 := hide e3
      have hk3 := (((uh HK3).mono (S' := [w.heap.size, gp, gq]) (by simp)).setCell ⟨w.heap.size, 0, none⟩ (.int .i64 (d : Int)) (by simp)).setCell ⟨w.heap.size, 1, none⟩ (.slice (some ⟨gp, 0, none⟩) n n) (by simp)
      have hk4 := hk3.setCell ⟨w.heap.size, 2, none⟩ (.slice (some ⟨gq, 0, none⟩) n n) (by simp)
      have HK4 := hide hk4
      have hko := (((KeepsOthers.setCell W3 ⟨w.heap.size, 0, none⟩ (.int .i64 (d : Int))).trans (KeepsOthers.setCell _ ⟨w.heap.size, 1, none⟩ (.slice (some ⟨gp, 0, none⟩) n n))).trans (KeepsOthers.setCell _ ⟨w.heap.size, 2, none⟩ (.slice (some ⟨gq, 0, none⟩) n n))).same D _ (uh HKD) rfl
      have HKO := hide hko
      have HSP : Hid (Blk (((W3.setCell ⟨w.heap.size, 0, none⟩ (.int .i64 (d : Int))).setCell ⟨w.heap.size, 1, none⟩ (.slice (some ⟨gp, 0, none⟩) n n)).setCell ⟨w.heap.size, 2, none⟩ (.slice (some ⟨gq, 0, none⟩) n n)) gp _) :=
        (uh HSM).p.of (((Below.heap_setCell _ _ _ _ (by simp; omega)).trans (Below.heap_setCell _ _ _ _ (by simp; omega))).trans (Below.heap_setCell _ _ _ _ (by simp; omega)))
      have HSQ : Hid (Blk (((W3.setCell ⟨w.heap.size, 0, none⟩ (.int .i64 (d : Int))).setCell ⟨w.heap.size, 1, none⟩ (.slice (some ⟨gp, 0, none⟩) n n)).setCell ⟨w.heap.size, 2, none⟩ (.slice (some ⟨gq, 0, none⟩) n n)) gq _) :=
        (uh HSM).q.of (((Below.heap_setCell _ _ _ _ (by simp; omega)).trans (Below.heap_setCell _ _ _ _ (by simp; omega))).trans (Below.heap_setCell _ _ _ _ (by simp; omega)))
      have g0 := f0 0
      have g1 := f1 1
      have g2 := f2 2
      clear f0 f1 f2 hk3 hk4 hko e1 e2 e3
      gi_wp2
      generalize ((W3.setCell ⟨w.heap.size, 0, none⟩ (.int .i64 (d : Int))).setCell ⟨w.heap.size, 1, none⟩ (.slice (some ⟨gp, 0, none⟩) n n)).setCell ⟨w.heap.size, 2, none⟩ (.slice (some ⟨gq, 0, none⟩) n n) = W4 at E3 HK4 HKO HSP HSQ ⊢
      refine ⟨by simp, .inl ⟨_, _, rfl, run_takeDeferred (uh HKO), ?_⟩⟩
      have hD' : D ≠ w.heap.size := by omega
      have e4 : (W4.putObj D (.deferred none)).heap[w.heap.size]? = _ := (World.putObj_heap_other hD'.symm).trans (uh E3)
      obtain ⟨⟨d0, d1, d2⟩, _⟩ := three_at e4
      refine ⟨.tuple #[sv d (.slice (some ⟨gp, 0, none⟩) n n) (.slice (some ⟨gq, 0, none⟩) n n), .bool true], ?_, ?_, .inl ⟨n, gp, gq, rfl, uh HN1, (uh HSM).pq, by omega, by omega, (uh HSP).of (World.putObj_heap_other ?_), (uh HSQ).of (World.putObj_heap_other ?_)⟩⟩
      · simp [results, Tryz.f54, go_sem, d0, d1, d2, sv]
      · refine (uh HBW).trans ?_
        have hk5 := (uh HK4).grown (grownBy_putObj' _ D (.deferred none)) (fun k e => by cases e; exact .inr hD)
        exact ⟨hk5.os, hk5.tape, hk5.output, hk5.size, fun k hk => hk5.block k (by omega) (by simp; omega)⟩
      · intro e; have := (uh HSP).lt; obtain ⟨cur, h1, _⟩ := uh HSP; have h2 := uh HKO; rw [← e, h1] at h2; cases h2
      intro e; have := (uh HSQ).lt; obtain ⟨cur, h1, _⟩ := uh HSQ; have h2 := uh HKO; rw [← e, h1] at h2; cases h2
    case stop =>
      rintro D c pre W _ _ h _
      exact h.elim
  have HBAD := hide hbad
  clear hbad
  have hR := uh HR2
  obtain ⟨⟨r0, _, _⟩, f0⟩ := three_at hR
  have e1 := three_set0 (x := .int .i64 0) hR
  obtain ⟨⟨_, r1, _⟩, f1⟩ := three_at e1
  have e2 := three_set1 (x := .slice none 0 0) e1
  obtain ⟨⟨_, _, r2⟩, f2⟩ := three_at e2
  have e3 := three_set2 (x := .slice none 0 0) e2
  have E3 := hide e3
  have HB3 := hide ((((uh HB2).setCell (p := ⟨w.heap.size, 0, none⟩) (by simp) (.int .i64 0)).setCell (p := ⟨w.heap.size, 1, none⟩) (by simp) (.slice none 0 0)).setCell (p := ⟨w.heap.size, 2, none⟩) (by simp) (.slice none 0 0))
  have g0 := f0 0
  have g1 := f1 1
  have g2 := f2 2
  clear f0 f1 f2 e1 e2 e3 hR
  gi_wp2
  generalize ((w2.setCell ⟨w.heap.size, 0, none⟩ (.int .i64 0)).setCell ⟨w.heap.size, 1, none⟩ (.slice none 0 0)).setCell ⟨w.heap.size, 2, none⟩ (.slice none 0 0) = W4 at E3 HB3 ⊢
  obtain ⟨⟨d0, d1, d2⟩, _⟩ := three_at (uh E3)
  refine ⟨.tuple #[zsv, .bool false], ?_, uh HB3, .inr ⟨rfl, uh HBAD⟩⟩
  simp [results, Tryz.f54, go_sem, d0, d1, d2, zsv]
end Go.Proofs.YtjdikhelabibnaaGreat

namespace Go.Proofs.YtjdikhelabibnaaGreat
open Go.RowKit Go.Shelf
set_option maxHeartbeats 1000000 in
theorem nought1_any (x : Nat) (w : World) : Calls Tryz.prog 141 #[.int .u8 (x : Int)] w fun e w' => e = .returned (.bool ((x : Int) != 0)) ∧ w' = w := by
 go_enter Tryz.func141, Tryz.ntmps141
 go_wp2
 go_ret
 exact ⟨rfl, rfl⟩
set_option maxRecDepth 100000 in
set_option maxHeartbeats 2000000 in
theorem ifb_any (v : Value) (g : Nat) (s : List Nat) (w : World) (hA : Arg w v g s) :
  Calls Tryz.prog 152 #[v, .func (.func 141) #[] #[]] w fun e w' => ∃ r : Int, e = .returned (.int .i64 r) ∧ w' = w ∧ ((r = -1 ∧ nil0 s = true) ∨ (0 ≤ r ∧ nil0 s = false)) := by
 obtain ⟨⟨ao, c, rfl, hc1, hc2, hnil, hr⟩, hbs⟩ := hA
 have HR := hide hr
 have HBS := hide hbs
 obtain ⟨n, hn⟩ : ∃ n, s.length = n := ⟨_, rfl⟩
 rw [hn] at hc1 ⊢
 have HN := hide hn
 have hnm : (n : Int) ≤ 9223372036854775807 := by unfold maxLen at hc2; omega
 clear hr hnil hn hbs
 go_enter Tryz.func152, Tryz.ntmps152
 go_wp2_with fail
 go_loop [8] (fun p => ∃ i : Nat, p = .int .i64 i ∧ i ≤ n ∧ ∀ k, k < i → cf s k = 0) (fun p => n - (intOf p).toNat)
 case atStart => exact ⟨0, rfl, by omega, by simp⟩
 case round =>
  obtain ⟨i, rfl, hi, hz⟩ := hrel
  have HZ := hide hz
  clear hz
  by_cases hlt : i < n
  ·have hi1 : (i : Int) < (n : Int) := by omega
   obtain ⟨o, rfl⟩ := row_some (uh HR) (by rw [uh HN]; omega)
   have hc := row_cell (uh HR) (j := i) (by rw [uh HN]; exact hlt)
   obtain ⟨y, hy⟩ : ∃ y, cf s i = y := ⟨_, rfl⟩
   have HY := hide hy
   rw [hy] at hc
   clear hy
   go_wp2_with fail
   refine (nought1_any y w).mono ?_
   rintro e w' ⟨rfl, hw'⟩
   subst hw'
   by_cases h0 : y = 0
   ·have e1 : ((y : Int) != 0) = false := by rw [h0]; rfl
    have H0 := hide h0
    clear h0
    go_wp2_with fail
    go_round
    case rel => exact ⟨i + 1, by go_num, by omega, fun k hk => by
     by_cases e : k = i
     ·rw [e, uh HY]; exact uh H0
     exact uh HZ k (by omega)⟩
    case measure => simp [intOf]; omega
   have e1 : ((y : Int) != 0) = true := by rw [bne_iff_ne]; omega
   have H0 := hide h0
   clear h0
   go_wp2_with fail
   go_ret
   refine ⟨i, rfl, rfl, .inr ⟨by omega, ?_⟩⟩
   cases hnl : nil0 s with
   | false => rfl
   | true => exact absurd ((uh HY).symm.trans ((nil0_iff s).1 hnl i (by rw [uh HN]; exact hlt))) (uh H0)
  have hi2 : i = n := by omega
  subst hi2
  go_wp2
  go_ret
  exact ⟨-1, rfl, rfl, .inl ⟨rfl, (nil0_iff s).2 (fun k hk => uh HZ k (by rw [← uh HN]; exact hk))⟩⟩
set_option maxHeartbeats 1000000 in
theorem cfb_any (v : Value) (g : Nat) (s : List Nat) (w : World) (hA : Arg w v g s) :
  Calls Tryz.prog 140 #[v, .func (.func 141) #[] #[]] w fun e w' => e = .returned (.bool (!nil0 s)) ∧ w' = w := by
 obtain ⟨ao, c, hv, _⟩ := hA.ex
 have HA := hide hA
 subst hv
 clear hA
 go_enter Tryz.func140, Tryz.ntmps140
 go_wp2_with fail
 refine (ifb_any _ g s w (uh HA)).mono ?_
 rintro e w' ⟨r, rfl, rfl, h⟩
 rcases h with ⟨hr, hz⟩ | ⟨hr, hz⟩
 ·subst hr
  have HD := hide hz
  clear hz
  go_wp2
  go_ret
  rw [uh HD]
  exact ⟨rfl, rfl⟩
 have HD := hide hz
 clear hz
 go_wp2
 go_ret
 rw [uh HD]
 exact ⟨rfl, rfl⟩
set_option maxHeartbeats 1000000 in
theorem nought_any (v : Value) (g : Nat) (s : List Nat) (w : World) (hA : Arg w v g s) :
  Calls Tryz.prog 101 #[v] w fun e w' => e = .returned (.bool (nil0 s)) ∧ w' = w := by
 obtain ⟨ao, c, hv, _⟩ := hA.ex
 have HA := hide hA
 subst hv
 clear hA
 go_enter Tryz.func101, Tryz.ntmps101
 go_wp2_with fail
 refine (cfb_any _ g s w (uh HA)).mono ?_
 rintro e w' ⟨rfl, rfl⟩
 go_wp2
 go_ret
 exact ⟨by simp, rfl⟩
theorem below_drewN5 {n : Nat} {a w : World} (h : Below n a w) (m : Nat) : Below n a (w.drewN m) := ⟨h.os, h.tape, h.output, h.size, h.block⟩
theorem filter_true (N : Nat) : (List.range N).filter (fun _ => true) = List.range N := List.filter_eq_self.2 (fun _ _ => rfl)
set_option maxRecDepth 100000 in
set_option maxHeartbeats 4000000 in
theorem parity_any (v : Value) (G : Nat) (A : Nat → Option Addr) (C : Nat → Nat) (l : List (List Nat)) (w : World) (hA : RArg w v G A C l) (hlen : ∀ i, (l.getD i []).length ≤ 100000) :
  Calls Tryz.prog 28 #[v] w fun e w' => ∃ v1 v2, e = .returned (.tuple #[v1, v2]) ∧ Fr w.heap.size w' v1 (pP l) ∧ Fr w.heap.size w' v2 (pQ l) ∧ Below w.heap.size w w' := by
 obtain ⟨ao, c, hv, hc1, hc2, hnil, hrow⟩ := hA.ex
 have HA := hide hA
 have HLEN := hide hlen
 have HROW := hide hrow
 clear hrow hlen hA hnil
 subst hv
 obtain ⟨N, hN⟩ : ∃ N, l.length = N := ⟨_, rfl⟩
 rw [hN] at hc1 ⊢
 have HN := hide hN
 clear hN
 have hNm : (N : Int) ≤ 9223372036854775807 := by unfold maxLen at hc2; omega
 go_enter Tryz.func28, Tryz.ntmps28
 go_wp2_with fail
 refine (all_any5 _ w ⟨_, _, _, rfl⟩).mono ?_
 rintro e w1 ⟨rfl, hcb, hlt, hk⟩
 have HB1 := hide hk
 have HCB := hide hcb
 clear hk hcb
 go_wp2_with fail
 by_cases hd : 2 ≤ N ∧ N ≤ 14
 ·obtain ⟨hd1, hd2⟩ := hd
  have hseq : Seq5 94 _ N A (fun i => (l.getD i []).length) C (fun _ => true) w1 := all_seq (by omega) (uh HCB) (by have h := uh HROW; rw [uh HN] at h; exact h.below (uh HB1))
  refine (sumsOf_any _ _ N A C (fun _ => true) l N w1 hseq (fun i hi => by obtain ⟨g, hg⟩ := (uh HA).rows i (by rw [uh HN]; exact hi); exact ⟨g, hg.below (uh HB1)⟩) (uh HA).bs hd1 hd2 (by omega) ⟨0, by omega, rfl⟩ (uh HLEN)).mono ?_
  clear hseq
  rintro e w2 ⟨hk, h⟩
  have HB2 := hide ((uh HB1).trans (hk.mono (uh HB1).size))
  clear hk
  rcases h with ⟨n, gp, gq, rfl, hn, hpq, hgp, hgq, hP, hQ⟩ | ⟨rfl, i, j, hi, hj, _, _, hne⟩
  ·have hev : evn l := evn_of (n := n) (fun i hi => hn i (by rw [← uh HN]; exact hi) rfl)
   have hsz : size l = n := hn 0 (by omega) rfl
   have HOK : Hid (okP l = true) := by show _ = _; unfold okP; rw [(evn_iff l).2 hev, uh HN]; simp; omega
   rw [filter_true] at hP hQ
   have HP : Hid (Blk w2 gp (pP l)) := by show Blk _ _ _; unfold pP; rw [if_pos (uh HOK), ← smL_parP, uh HN, hsz]; exact hP
   have HQ : Hid (Blk w2 gq (pQ l)) := by show Blk _ _ _; unfold pQ; rw [if_pos (uh HOK), ← smL_parQ, uh HN, hsz]; exact hQ
   have HL1 : Hid ((pP l).length = n) := by show _ = _; unfold pP; rw [if_pos (uh HOK), parP, smL_len, hsz]
   have HL2 : Hid ((pQ l).length = n) := by show _ = _; unfold pQ; rw [if_pos (uh HOK), parQ, smL_len, hsz]
   have hn5 : n ≤ 100000 := by rw [← hsz]; exact uh HLEN 0
   have hgp' : w.heap.size ≤ gp := by omega
   have hgq' : w.heap.size ≤ gq := by omega
   clear hn hev hsz hP hQ hpq hgp hgq
   unfold sv
   go_wp2_with fail
   have HB3 := hide ((uh HB2).trans ((Below.refl _ w2).alloc (Nat.le_refl _) (.cells #[.int .i64 (N : Int), .slice (some ⟨gp, 0, none⟩) n n, .slice (some ⟨gq, 0, none⟩) n n] 103) |>.mono (uh HB2).size))
   replace HP := hide ((uh HP).below ((Below.refl _ w2).alloc (Nat.le_refl _) (.cells #[.int .i64 (N : Int), .slice (some ⟨gp, 0, none⟩) n n, .slice (some ⟨gq, 0, none⟩) n n] 103)) (uh HP).lt)
   replace HQ := hide ((uh HQ).below ((Below.refl _ w2).alloc (Nat.le_refl _) (.cells #[.int .i64 (N : Int), .slice (some ⟨gp, 0, none⟩) n n, .slice (some ⟨gq, 0, none⟩) n n] 103)) (uh HQ).lt)
   obtain ⟨hb0, hb1, hb2⟩ := sums_box w2 N (.slice (some ⟨gp, 0, none⟩) n n) (.slice (some ⟨gq, 0, none⟩) n n)
   generalize w2.alloc (.cells #[.int .i64 (N : Int), .slice (some ⟨gp, 0, none⟩) n n, .slice (some ⟨gq, 0, none⟩) n n] 103) = w3 at HB3 HP HQ hb0 hb1 hb2 ⊢
   go_quiet (fail)
   go_wp2
   go_returns
   exact ⟨_, _, rfl, .inr ⟨gp, n, by rw [uh HL1]; rfl, by rw [uh HL1]; exact Nat.le_refl _, by unfold maxLen; omega, (uh HP).of rfl, hgp'⟩, .inr ⟨gq, n, by rw [uh HL2]; rfl, by rw [uh HL2]; exact Nat.le_refl _, by unfold maxLen; omega, (uh HQ).of rfl, hgq'⟩, below_drewN5 (uh HB3) _⟩
  have HNO : Hid (okP l = false) := by
   show _ = _
   unfold okP
   rw [not_evn (by rw [uh HN]; exact hi) (by rw [uh HN]; exact hj) hne, Bool.and_false]
  clear hi hj hne
  unfold zsv
  go_wp2_with fail
  have HB3 := hide ((uh HB2).trans ((Below.refl _ w2).alloc (Nat.le_refl _) (.cells #[.int .i64 0, .slice none 0 0, .slice none 0 0] 103) |>.mono (uh HB2).size))
  go_returns
  exact ⟨_, _, rfl, .inl ⟨by simp [pP, uh HNO], rfl⟩, .inl ⟨by simp [pQ, uh HNO], rfl⟩, uh HB3⟩
 have HNO : Hid (okP l = false) := by
  show _ = _
  unfold okP
  rw [uh HN]
  simp
  intro h1 h2
  exact absurd ⟨h1, h2⟩ hd
 refine (sumsOf_not _ ⟨_, _, rfl⟩ (N : Int) (by omega) w1).mono ?_
 rintro e w2 ⟨rfl, hk⟩
 have HB2 := hide ((uh HB1).trans (hk.mono (uh HB1).size))
 clear hk hd
 unfold zsv
 go_wp2_with fail
 have HB3 := hide ((uh HB2).trans ((Below.refl _ w2).alloc (Nat.le_refl _) (.cells #[.int .i64 0, .slice none 0 0, .slice none 0 0] 103) |>.mono (uh HB2).size))
 go_returns
 exact ⟨_, _, rfl, .inl ⟨by simp [pP, uh HNO], rfl⟩, .inl ⟨by simp [pQ, uh HNO], rfl⟩, uh HB3⟩
set_option maxRecDepth 100000 in
set_option maxHeartbeats 4000000 in
theorem check_any5 (v : Value) (G : Nat) (A : Nat → Option Addr) (C : Nat → Nat) (l : List (List Nat)) (w : World) (hA : RArg w v G A C l) (hlen : ∀ i, (l.getD i []).length ≤ 100000) :
  Calls Tryz.prog 69 #[v] w fun e w' => e = .returned (.bool (chk l)) ∧ Below w.heap.size w w' := by
 obtain ⟨ao, c, hv, hc1, hc2, hnil, hrow⟩ := hA.ex
 have HA := hide hA
 have HLEN := hide hlen
 have HROW := hide hrow
 clear hrow hlen hA hnil
 subst hv
 obtain ⟨N, hN⟩ : ∃ N, l.length = N := ⟨_, rfl⟩
 rw [hN] at hc1 ⊢
 have HN := hide hN
 clear hN
 have hNm : (N : Int) ≤ 9223372036854775807 := by unfold maxLen at hc2; omega
 go_enter Tryz.func69, Tryz.ntmps69
 go_wp2_with fail
 refine (all_any5 _ w ⟨_, _, _, rfl⟩).mono ?_
 rintro e w1 ⟨rfl, hcb, hlt, hk⟩
 have HB1 := hide hk
 have HCB := hide hcb
 clear hk hcb
 by_cases hd : 4 ≤ N ∧ N ≤ 16
 ·obtain ⟨hd1, hd2⟩ := hd
  have e2 : (N : Int) - 2 = ((N - 2 : Nat) : Int) := by omega
  obtain ⟨d, hdd⟩ : ∃ d, N - 2 = d := ⟨_, rfl⟩
  rw [hdd] at e2
  have HDD := hide hdd
  have hd3 : 2 ≤ d ∧ d ≤ 14 := by omega
  obtain ⟨hd3, hd4⟩ := hd3
  clear hdd
  go_wp2_with fail
  (try rw [e2])
  have hseq : Seq5 94 _ N A (fun i => (l.getD i []).length) C (fun _ => true) w1 := all_seq (by omega) (uh HCB) (by have h := uh HROW; rw [uh HN] at h; exact h.below (uh HB1))
  refine (sumsOf_any _ _ N A C (fun _ => true) l d w1 hseq (fun i hi => by obtain ⟨g, hg⟩ := (uh HA).rows i (by rw [uh HN]; exact hi); exact ⟨g, hg.below (uh HB1)⟩) (uh HA).bs hd3 hd4 (by omega) ⟨0, by omega, rfl⟩ (uh HLEN)).mono ?_
  clear hseq
  rintro e w2 ⟨hk, h⟩
  have HB2 := hide ((uh HB1).trans (hk.mono (uh HB1).size))
  clear hk
  rcases h with ⟨n, gp, gq, rfl, hn, hpq, hgp, hgq, hP, hQ⟩ | ⟨rfl, i, j, hi, hj, _, _, hne⟩
  ·have hev : evn l := evn_of (n := n) (fun i hi => hn i (by rw [← uh HN]; exact hi) rfl)
   have hsz : size l = n := hn 0 (by omega) rfl
   have HOK : Hid (okC l = true) := by show _ = _; unfold okC; rw [(evn_iff l).2 hev, uh HN]; simp; omega
   rw [filter_true] at hP hQ
   have hP' : Blk w2 gp (allP l) := by unfold allP; rw [uh HN, uh HDD, hsz]; exact hP
   have hQ' : Blk w2 gq (allQ l) := by unfold allQ; rw [uh HN, uh HDD, hsz]; exact hQ
   have hn5 : n ≤ 100000 := by rw [← hsz]; exact uh HLEN 0
   have hl1 : (allP l).length = n := by unfold allP; rw [smL_len, hsz]
   have hl2 : (allQ l).length = n := by unfold allQ; rw [smL_len, hsz]
   have hA1 : Arg w2 (.slice (some ⟨gp, 0, none⟩) n n) gp (allP l) := by
    have := hP'.arg (c := n) (smL_bs (uh HA).bs) (by rw [hl1]; exact Nat.le_refl _) (by unfold maxLen; omega)
    rwa [hl1] at this
   have hA2 : Arg w2 (.slice (some ⟨gq, 0, none⟩) n n) gq (allQ l) := by
    have := hQ'.arg (c := n) (smL_bs (uh HA).bs) (by rw [hl2]; exact Nat.le_refl _) (by unfold maxLen; omega)
    rwa [hl2] at this
   have HA1 := hide hA1
   have HA2 := hide hA2
   clear hn hev hsz hP hQ hpq hgp hgq hP' hQ' hl1 hl2 hA1 hA2
   unfold sv
   go_wp2_with fail
   have hk3 : Below w2.heap.size w2 (w2.alloc (.cells #[.int .i64 (d : Int), .slice (some ⟨gp, 0, none⟩) n n, .slice (some ⟨gq, 0, none⟩) n n] 103)) := (Below.refl _ w2).alloc (Nat.le_refl _) _
   have HB3 := hide ((uh HB2).trans (hk3.mono (uh HB2).size))
   replace HA1 := hide ((uh HA1).below hk3)
   replace HA2 := hide ((uh HA2).below hk3)
   obtain ⟨hb0, hb1, hb2⟩ := sums_box w2 d (.slice (some ⟨gp, 0, none⟩) n n) (.slice (some ⟨gq, 0, none⟩) n n)
   clear hk3
   generalize w2.alloc (.cells #[.int .i64 (d : Int), .slice (some ⟨gp, 0, none⟩) n n, .slice (some ⟨gq, 0, none⟩) n n] 103) = w3 at HB3 HA1 HA2 hb0 hb1 hb2 ⊢
   refine (nought_any _ gp _ w3 (uh HA1)).mono ?_
   rintro e w4 ⟨rfl, hw4⟩
   subst hw4
   cases h1 : nil0 (allP l) with
   | false =>
    have HR : Hid (chk l = false) := by show _ = _; unfold chk; rw [h1]; simp
    clear h1
    go_wp2
    go_ret
    rw [uh HR]
    exact ⟨rfl, uh HB3⟩
   | true =>
    have HR : Hid (chk l = nil0 (allQ l)) := by show _ = _; unfold chk; rw [h1, uh HOK]; simp
    clear h1
    go_wp2_with fail
    refine (nought_any _ gq _ _ (uh HA2)).mono ?_
    rintro e w5 ⟨rfl, hw5⟩
    subst hw5
    go_wp2
    go_ret
    rw [uh HR]
    exact ⟨by simp, uh HB3⟩
  have HNO : Hid (chk l = false) := by
   show _ = _
   unfold chk okC
   rw [not_evn (by rw [uh HN]; exact hi) (by rw [uh HN]; exact hj) hne]
   simp
  clear hi hj hne
  unfold zsv
  go_wp2_with fail
  have HB3 := hide ((uh HB2).trans ((Below.refl _ w2).alloc (Nat.le_refl _) (.cells #[.int .i64 0, .slice none 0 0, .slice none 0 0] 103) |>.mono (uh HB2).size))
  go_ret
  rw [uh HNO]
  exact ⟨rfl, uh HB3⟩
 have HNO : Hid (chk l = false) := by
  show _ = _
  unfold chk okC
  rw [uh HN]
  simp
  intro h1 h2
  exact absurd ⟨h1, h2⟩ hd
 go_wp2_with fail
 refine (sumsOf_not _ ⟨_, _, rfl⟩ ((N : Int) - 2) (by omega) w1).mono ?_
 rintro e w2 ⟨rfl, hk⟩
 have HB2 := hide ((uh HB1).trans (hk.mono (uh HB1).size))
 clear hk hd
 unfold zsv
 go_wp2_with fail
 have HB3 := hide ((uh HB2).trans ((Below.refl _ w2).alloc (Nat.le_refl _) (.cells #[.int .i64 0, .slice none 0 0, .slice none 0 0] 103) |>.mono (uh HB2).size))
 go_ret
 rw [uh HNO]
 exact ⟨rfl, uh HB3⟩
end Go.Proofs.YtjdikhelabibnaaGreat

namespace Go.Proofs.YtjdikhelabibnaaGreat
open Go.RowKit
end Go.Proofs.YtjdikhelabibnaaGreat
