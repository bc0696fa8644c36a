/-
  The second telling's division (ramekinref3.Div).
-/
import Derived.Test.YtibmfblppjcenaaRm
import Derived.Test.YtibmfblppjcenaaGri3
namespace Go.Proofs.Ytibmfblppjcenaa
open Go.RowKit

/-- How long a slice is. -/
def lenOfV : Value → Nat
  | .slice _ n _ => n
  | _ => 0

theorem Fr.sh {n : Nat} {w : World} {v : Value} {s : List Nat} (h : Fr n w v s) : ∃ ao l c, v = .slice ao l c := by
  rcases h with ⟨rfl, rfl⟩ | ⟨g, c, rfl, _⟩
  · exact ⟨_, _, _, rfl⟩
  · exact ⟨_, _, _, rfl⟩

/-- r, and i steps of f times d taken from place k on. -/
def subJ (r d : List Nat) (k f i j : Nat) : Nat := cf r j ^^^ (if k ≤ j ∧ j < k + i then gmul f (cf d (j - k)) else 0)

theorem sub_step {r d s : List Nat} {k f i z : Nat} (h : ∀ j, cf s j = subJ r d k f i j) (h1 : z ≤ k + i) (h2 : k + i ≤ z) (hz : z < s.length) (j : Nat) : cf (s.set z (cf s z ^^^ gmul f (cf d i))) j = subJ r d k f (i + 1) j := by
  have hz2 : z = k + i := by omega
  rw [cf_set _ _ _ _ hz]
  by_cases e : j = z
  · rw [if_pos e, e, h, subJ, subJ, hz2, if_neg (by omega), if_pos (by omega), Nat.xor_zero, Nat.add_sub_cancel_left]
  · rw [if_neg e, h, subJ, subJ]
    by_cases e2 : k ≤ j ∧ j < k + i
    · rw [if_pos e2, if_pos (by omega)]
    · rw [if_neg e2, if_neg (by omega)]

theorem sub_row {r d : List Nat} {k f : Nat} (j : Nat) : subJ r d k f d.length j = cf r j ^^^ (if k ≤ j then gmul f (cf d (j - k)) else 0) := by
  rw [subJ]
  congr 1
  by_cases e : k ≤ j
  · rw [if_pos e]
    by_cases e2 : j < k + d.length
    · rw [if_pos ⟨e, e2⟩]
    · rw [if_neg (by omega), cf_ge (p := d) (by omega), gmul_zero]
  · rw [if_neg e, if_neg (by omega)]

/-- What is left is shorter. -/
theorem sub_short {r d s : List Nat} {k f t top : Nat} (hr : Bs r) (hd : Bs d) (hl : d.length = t + 1) (h0 : cf d t ≠ 0) (htop : top = pw (cf d t) (-1)) (hlen : r.length = k + t + 1) (hf : f = gmul (cf r (k + t)) top)
    (h : ∀ j, cf s j = cf r j ^^^ (if k ≤ j then gmul f (cf d (j - k)) else 0)) : (trim s).length < r.length := by
  have ht : top < 256 := by rw [htop]; exact pw_lt _ _
  have h1 : gmul (cf d t) top = 1 := by rw [htop]; exact gmul_inv (hd t) h0
  have := trim_short (p := s) (n := k + t) (fun i hi => by
    rw [h, if_pos (by omega)]
    by_cases e : i = k + t
    · rw [e, Nat.add_sub_cancel_left, hf, gmul_assoc (hr _) ht (hd t), gmul_comm ht (hd t), h1, gmul_one (hr _), Nat.xor_self]
    · rw [cf_ge (p := r) (by omega), cf_ge (p := d) (by omega), gmul_zero]; rfl)
  omega

set_option maxRecDepth 100000 in
set_option maxHeartbeats 4000000 in
theorem rdiv_nought (va vb : Value) (ga gb : Nat) (a b : List Nat) (w : World) (hA : Arg w va ga a) (hB : Arg w vb gb b) (hb : b.length ≤ 100000) (h : trim b = []) :
    Calls Try.prog 11 #[va, vb] w fun e w' => e = .returned (.tuple #[.slice none 0 0, .slice none 0 0, .bool false]) ∧ Below w.heap.size w w' := by
  obtain ⟨⟨ao, c, rfl, _⟩, _⟩ := hA
  have HB := hide hB
  obtain ⟨⟨bo, d, rfl, _⟩, _⟩ := hB
  go_enter Try.func11, Try.ntmps11
  go_wp2_with fail
  refine (rtrim_any _ gb b w (unhide HB) hb).mono ?_
  rintro e w1 ⟨v1, rfl, hF, hk⟩
  rw [h] at hF
  have HK := hide hk
  have hv : ∃ bo d, v1 = .slice bo 0 d := by
    rcases hF with ⟨_, h⟩ | ⟨g, c, h, _⟩
    · exact ⟨_, _, h⟩
    · exact ⟨_, _, h⟩
  obtain ⟨bo, d, rfl⟩ := hv
  clear hF hk
  go_wp2
  go_returns
  exact ⟨rfl, unhide HK⟩

set_option maxRecDepth 100000 in
set_option maxHeartbeats 8000000 in
theorem rdiv_any (va vb : Value) (ga gb : Nat) (a b : List Nat) (w : World) (hA : Arg w va ga a) (hB : Arg w vb gb b) (ha : a.length ≤ 10000) (hb : b.length ≤ 10000) (h : trim b ≠ []) :
    Calls Try.prog 11 #[va, vb] w fun e w' => ∃ v1 v2 q r, e = .returned (.tuple #[v1, v2, .bool true]) ∧ IsDiv a b q r ∧ Fr w.heap.size w' v1 q ∧ Fr w.heap.size w' v2 r ∧ Below w.heap.size w w' := by
  have HA := hide hA
  have HB := hide hB
  obtain ⟨⟨ao, c, rfl, _⟩, hbs⟩ := hA
  obtain ⟨⟨bo, d, rfl, _⟩, hbs2⟩ := hB
  have hlb := trim_len b
  have hla := trim_len a
  obtain ⟨t, ht⟩ : ∃ t, (trim b).length = t + 1 := ⟨(trim b).length - 1, by have := List.length_pos_iff.2 h; omega⟩
  have hy0 : cf (trim b) t ≠ 0 := by
    have := trim_last h
    rwa [← cf_trim b, ht, Nat.add_sub_cancel] at this
  obtain ⟨y, hy⟩ : ∃ y, cf (trim b) t = y := ⟨_, rfl⟩
  have hyl : y < 256 := by rw [← hy]; exact hbs2.trim t
  obtain ⟨top, htop⟩ : ∃ top, pw y (-1) = top := ⟨_, rfl⟩
  have htl : top < 256 := by rw [← htop]; exact pw_lt _ _
  obtain ⟨M, hM⟩ : ∃ M, (trim a).length = M := ⟨_, rfl⟩
  have htb : t < 100000 := by omega
  have hMb : M ≤ 10000 := by omega
  have HT := hide ht
  have HM := hide hM
  have HY := hide hy
  have HY0 := hide hy0
  have HTOP := hide htop
  obtain ⟨zs, hzs⟩ : ∃ zs, (List.replicate M (Value.int .u8 0)).toArray = zs := ⟨_, rfl⟩
  have hmk := run_zeros M (by omega)
  rw [hzs] at hmk
  have HZ0 : Hid (∀ W : World, Blk (W.alloc (.cells zs 5)) W.heap.size (List.replicate M 0)) := fun W => by rw [← hzs]; exact blk_zeros M W
  clear hzs
  have hb0 : ((t : Int) + 1 == 0) = false := by rw [beq_eq_false_iff_ne]; omega
  clear ht hM hy hy0 htop hlb hla h
  go_enter Try.func11, Try.ntmps11
  go_wp2_with fail
  refine (rtrim_any _ gb b w (unhide HB) (by omega)).mono ?_
  rintro e w1 ⟨v1, rfl, hF1, hk1⟩
  have hv1 : ∃ gd cd, v1 = .slice (some ⟨gd, 0, none⟩) (t + 1) cd ∧ Blk w1 gd (trim b) ∧ w.heap.size ≤ gd := by
    rcases hF1 with ⟨h, _⟩ | ⟨g, c, h1, h2, h3, h4, h5⟩
    · have := unhide HT
      rw [h] at this
      simp at this
    · exact ⟨g, c, by rw [← unhide HT]; exact h1, h4, h5⟩
  obtain ⟨gd, cd, rfl, hBd, hgd⟩ := hv1
  have HBD := hide hBd
  have hgd2 := hBd.lt
  have HW1 := hide hk1
  have hz1 := hk1.size
  clear hF1 hBd hk1
  go_wp2_with fail
  refine (rtrim_any _ ga a w1 ((unhide HA).below (unhide HW1)) (by omega)).mono ?_
  rintro e w2 ⟨v2, rfl, hF2, hk2⟩
  have hv2 : ∃ a2 c2, v2 = .slice a2 M c2 := by
    rcases hF2 with ⟨h, h'⟩ | ⟨g, c, h1, _⟩
    · have := unhide HM
      rw [h] at this
      exact ⟨_, _, by rw [← this]; exact h'⟩
    · exact ⟨_, _, by rw [← unhide HM]; exact h1⟩
  obtain ⟨a2, c2, rfl⟩ := hv2
  have hz2 := hk2.size
  have HF2 := hide hF2
  have HBD2 := hide ((unhide HBD).below hk2 hgd2)
  have HK2 : Hid (Kp [] w w2) := ((Kp.refl [] w).ofBelow (unhide HW1)).ofBelow hk2
  clear hF2 hk2
  have HBQ := hide (unhide HZ0 w2)
  have HK3 : Hid (Kp [] w2 (w2.alloc (.cells zs 5))) := (Kp.refl [] w2).alloc _
  have hcd := (unhide HK3).cell ((unhide HBD2).cell (j := t) (by rw [unhide HT]; omega)) (by simp)
  rw [unhide HY] at hcd
  have hin : (t : Int) < (t : Int) + 1 := by omega
  go_wp2_with fail
  refine (rinv_any y hyl _).mono ?_
  rintro e w3 ⟨rfl, hw3⟩
  rw [unhide HTOP, hw3]
  clear hw3 w3
  obtain ⟨w3, hw3⟩ : ∃ w3, w2.alloc (.cells zs 5) = w3 := ⟨_, rfl⟩
  have hz3 : w2.heap.size < w3.heap.size := by rw [← hw3]; simp
  rw [hw3] at HBQ HK3 hcd ⊢
  clear hw3 hcd hmk HZ0
  obtain ⟨gq, hgq⟩ : ∃ gq, w2.heap.size = gq := ⟨_, rfl⟩
  have HBD3 := hide ((unhide HBD2).of ((unhide HK3).block gd (by omega) (by simp)))
  have HFR : Hid ((trim a = [] ∧ Value.slice a2 M c2 = .slice none 0 0) ∨ ∃ g c, Value.slice a2 M c2 = .slice (some ⟨g, 0, none⟩) (trim a).length c ∧ (trim a).length ≤ c ∧ c ≤ maxLen ∧ Blk w3 g (trim a) ∧ w1.heap.size ≤ g ∧ g ≠ gq) := by
    rcases unhide HF2 with h | ⟨g, c, k1, k2, k3, k4, k5⟩
    · exact .inl h
    · exact .inr ⟨g, c, k1, k2, k3, k4.of ((unhide HK3).block g k4.lt (by simp)), k5, by have := k4.lt; omega⟩
  have hgq1 : w1.heap.size ≤ gq := by omega
  rw [hgq] at HBQ
  have HKW3 : Hid (Kp [] w w3) := (unhide HK2).trans (unhide HK3) (by simp)
  clear HK2 HK3 HF2 HBD2 HBD
  go_wp2_with fail
  clear hgq
  go_loopw [7] (fun p wr => ∃ q r : List Nat, q.length = M ∧ Bs q ∧ Bs r ∧ trim r = r ∧ r.length ≤ M ∧ Eqv (padd (pmul q (trim b)) r) a ∧ (∀ i, i + (t + 1) ≤ r.length → cf q i = 0) ∧ ((r = [] ∧ p = .slice none 0 0) ∨ ∃ g c, p = .slice (some ⟨g, 0, none⟩) r.length c ∧ r.length ≤ c ∧ c ≤ maxLen ∧ Blk wr g r ∧ w1.heap.size ≤ g ∧ g ≠ gq) ∧ Blk wr gd (trim b) ∧ Blk wr gq q ∧ Kp [] w wr)
    (fun p _ => lenOfV p)
  case atStart =>
    refine ⟨List.replicate M 0, trim a, by simp, Bs.zeros _, hbs.trim, trim_trim a, by rw [unhide HM]; exact Nat.le_refl _, fun i => ?_, fun i _ => cf_zeros _ _, unhide HFR, unhide HBD3, unhide HBQ, unhide HKW3⟩
    rw [cf_padd, pmul_comm (Bs.zeros M) hbs2.trim i, pmul_right (trim b) (q' := []) (fun j => cf_zeros M j) i, pmul_nil, Nat.zero_xor, cf_trim a i]
  case round =>
    obtain ⟨q, r, hql, hqb, hrb, hrt, hrM, hEq, hlow, hfr, hBd, hBq, hKW⟩ := hrel
    have HEQ := hide hEq
    have HLOW := hide hlow
    have HRT := hide hrt
    have HBDx := hide hBd
    have HBQx := hide hBq
    have HKWx := hide hKW
    have hzw := hKW.size
    have hgq2 := hBq.lt
    have hgd3 := hBd.lt
    clear hEq hlow hrt hBd hBq hKW HFR HBD3 HBQ HKW3
    by_cases hlt : t + 1 ≤ r.length
    · have hfr2 : ∃ g c, u7 = .slice (some ⟨g, 0, none⟩) r.length c ∧ r.length ≤ c ∧ c ≤ maxLen ∧ Blk wr g r ∧ w1.heap.size ≤ g ∧ g ≠ gq := by
        rcases hfr with ⟨h, _⟩ | h
        · rw [h] at hlt; simp at hlt
        · exact h
      obtain ⟨gr, cr, rfl, hcr1, hcr2, hBr, hgr, hgrq⟩ := hfr2
      clear hfr
      obtain ⟨n, hn⟩ : ∃ n, r.length = n := ⟨_, rfl⟩
      rw [hn] at hlt hrM hcr1
      have HN := hide hn
      obtain ⟨k, hk⟩ : ∃ k, n - (t + 1) = k := ⟨_, rfl⟩
      obtain ⟨j, hj⟩ : ∃ j, n - 1 = j := ⟨_, rfl⟩
      have hk1 : (n : Int) - ((t : Int) + 1) = (k : Int) := by omega
      have hj1 : (n : Int) - 1 = (j : Int) := by omega
      have hkj : j = k + t := by omega
      have HKJ := hide hkj
      have hj2 : (j : Int) < (n : Int) := by omega
      have hk2 : (k : Int) < (M : Int) := by omega
      have hk3 : k + t + 1 ≤ n := by omega
      have hk4 : n ≤ k + t + 1 := by omega
      have hge : (t : Int) + 1 ≤ (n : Int) := by omega
      obtain ⟨x, hx⟩ : ∃ x, cf r j = x := ⟨_, rfl⟩
      have hxl : x < 256 := by rw [← hx]; exact hrb j
      have hcx := hBr.cell (j := j) (by omega)
      rw [hx] at hcx
      have HX := hide hx
      obtain ⟨f, hf⟩ : ∃ f, gmul x top = f := ⟨_, rfl⟩
      have hfl : f < 256 := by rw [← hf]; exact gmul_lt hxl
      have HFF := hide hf
      have HBR := hide hBr
      have hgr2 := hBr.lt
      clear hn hk hj hkj hx hf hBr
      rw [show r.length = n from unhide HN]
      go_wp2_with fail
      refine (rmul_any x top hxl htl _).mono ?_
      rintro e w5 ⟨rfl, hw5⟩
      rw [hw5, unhide HFF]
      clear hw5 w5
      have hcq := (unhide HBQx).cell (j := k) (by omega)
      have hfq : wr.frozen? ⟨gq, k, none⟩ = false := (unhide HBQx).free
      go_wp2_with fail
      have HBQ3 := hide ((unhide HBQx).set k f (by omega))
      have HBR3 : Hid (Blk (wr.setCell ⟨gq, k, none⟩ (.int .u8 (f : Int))) gr r) := (unhide HBR).of (Below.heap_setCell _ _ _ _ hgrq)
      have HBD4 : Hid (Blk (wr.setCell ⟨gq, k, none⟩ (.int .u8 (f : Int))) gd (trim b)) := (unhide HBDx).of (Below.heap_setCell _ _ _ _ (by simp; omega))
      have HKW4 : Hid (Kp [] w (wr.setCell ⟨gq, k, none⟩ (.int .u8 (f : Int)))) := (unhide HKWx).setCell _ _ (.inr (by simp; omega))
      clear hcx hcq hfq
      go_loopw [12] (fun p wr => ∃ (i : Nat) (s : List Nat), p = .int .i64 i ∧ i ≤ t + 1 ∧ s.length = n ∧ Bs s ∧ (∀ j, cf s j = subJ r (trim b) k f i j) ∧ Blk wr gr s ∧ Blk wr gd (trim b) ∧ Blk wr gq (q.set k f) ∧ Kp [] w wr) (fun p _ => t + 1 - (intOf p).toNat)
      case atStart => exact ⟨0, r, rfl, by omega, unhide HN, hrb, fun j => by rw [subJ, if_neg (by omega), Nat.xor_zero], unhide HBR3, unhide HBD4, unhide HBQ3, unhide HKW4⟩
      case round =>
        clear HBQ3 HBR3 HBD4 HKW4
        obtain ⟨i, s, rfl, hi, hsl, hsb, hsc, hBs, hBd2, hBq2, hK2⟩ := hrel
        have HSC := hide hsc
        have HBS := hide hBs
        have HBD2 := hide hBd2
        have HBQ2 := hide hBq2
        have HK2 := hide hK2
        have hzw2 := hK2.size
        have hgr3 := hBs.lt
        clear hsc hBs hBd2 hBq2 hK2
        by_cases hlt2 : i < t + 1
        · have hi1 : (i : Int) < (t : Int) + 1 := by omega
          obtain ⟨z, hz⟩ : ∃ z, k + i = z := ⟨_, rfl⟩
          have hz1 : z ≤ k + i := by omega
          have hz2 : k + i ≤ z := by omega
          have hzw : IntKind.i64.wrap ((k : Int) + (i : Int)) = (z : Int) := by rw [IntWalk.i64_in _ ⟨by omega, by omega⟩]; omega
          have hzm : (z : Int) < (n : Int) := by omega
          clear hz
          have HC := hide ((unhide HBD2).cell (j := i) (by rw [unhide HT]; exact hlt2))
          have HD := hide ((unhide HBS).cell (j := z) (by omega))
          have HF : Hid (wr.frozen? ⟨gr, z, none⟩ = false) := (unhide HBS).free
          have hv := hsb z
          have hu : gmul f (cf (trim b) i) < 256 := gmul_lt hfl
          have hxor := bits_xor_u8 hv hu
          go_wp2_with fail
          refine wp_region_noPanic ?_
          refine wp_region_held_drew (S := fun W' => Kp [gr] wr W') (by kernel_rfl) ((Kp.refl _ _).drew) (fun hHeld => ?_)
          have HH := hide hHeld
          clear hHeld
          refine takeL (i := 0) (v := ?_) rfl (by kernel_rfl) (by kernel_rfl) (by kernel_rfl) (fun _ _ _ h => h) (Or.inl ⟨by rfl, ?_⟩) (unhide HH) ?_
          rotate_left 1
          · intro W hSW; go_simp; all_goals (with_reducible rfl)
          (try simp only [Act.put, List.setIfInBounds_toArray, List.set_cons_zero, List.set_cons_succ])
          refine takeL (i := 1) (v := ?_) rfl (by kernel_rfl) (by kernel_rfl) (by kernel_rfl) (fun _ _ _ h => h) (Or.inl ⟨by rfl, ?_⟩) (unhide HH) ?_
          rotate_left 1
          · intro W hSW; go_simp; all_goals (with_reducible rfl)
          (try simp only [Act.put, List.setIfInBounds_toArray, List.set_cons_zero, List.set_cons_succ])
          refine takeL (i := 2) (v := ?_) rfl (by kernel_rfl) (by kernel_rfl) (by kernel_rfl) (fun _ _ _ h => h) (Or.inl ⟨by rfl, ?_⟩) (unhide HH) ?_
          rotate_left 1
          · intro W hSW; go_simp; all_goals (with_reducible rfl)
          (try simp only [Act.put, List.setIfInBounds_toArray, List.set_cons_zero, List.set_cons_succ])
          refine takeL (i := 3) (v := ?_) rfl (by kernel_rfl) (by kernel_rfl) (by kernel_rfl) (fun _ _ _ h => h) (Or.inl ⟨by rfl, ?_⟩) (unhide HH) ?_
          rotate_left 1
          · intro W hSW; go_simp; all_goals (with_reducible rfl)
          (try simp only [Act.put, List.setIfInBounds_toArray, List.set_cons_zero, List.set_cons_succ])
          refine takeL (i := 4) (v := ?_) rfl (by kernel_rfl) (by kernel_rfl) (by kernel_rfl) (fun _ _ _ h => h) (Or.inl ⟨by rfl, ?_⟩) (unhide HH) ?_
          rotate_left 1
          · intro W hSW; go_simp; all_goals (with_reducible rfl)
          (try simp only [Act.put, List.setIfInBounds_toArray, List.set_cons_zero, List.set_cons_succ])
          refine takeL (i := 5) (v := ?_) rfl (by kernel_rfl) (by kernel_rfl) (by kernel_rfl) (fun _ _ _ h => h) (Or.inl ⟨by rfl, ?_⟩) (unhide HH) ?_
          rotate_left 1
          · intro W hSW; go_simp; all_goals (with_reducible rfl)
          (try simp only [Act.put, List.setIfInBounds_toArray, List.set_cons_zero, List.set_cons_succ])
          refine takeL (i := 6) (v := ?_) rfl (by kernel_rfl) (by kernel_rfl) (by kernel_rfl) (fun _ _ _ h => h) (Or.inl ⟨by rfl, ?_⟩) (unhide HH) ?_
          rotate_left 1
          · intro W hSW; go_simp; all_goals (with_reducible rfl)
          (try simp only [Act.put, List.setIfInBounds_toArray, List.set_cons_zero, List.set_cons_succ])
          refine takeL (i := 7) (v := ?_) rfl (by kernel_rfl) (by kernel_rfl) (by kernel_rfl) (fun _ _ _ h => h) (Or.inl ⟨by rfl, ?_⟩) (unhide HH) ?_
          rotate_left 1
          · intro W hSW; go_simp; all_goals (with_reducible rfl)
          (try simp only [Act.put, List.setIfInBounds_toArray, List.set_cons_zero, List.set_cons_succ])
          refine takeL (i := 8) (v := ?_) rfl (by kernel_rfl) (by kernel_rfl) (by kernel_rfl) (fun _ _ _ h => h) (Or.inl ⟨by rfl, ?_⟩) (unhide HH) ?_
          rotate_left 1
          · intro W hSW; go_simp; all_goals (with_reducible rfl)
          (try simp only [Act.put, List.setIfInBounds_toArray, List.set_cons_zero, List.set_cons_succ])
          refine takeL (i := 10) (v := ?_) rfl (by kernel_rfl) (by kernel_rfl) (by kernel_rfl) (fun _ _ _ h => h) (Or.inl ⟨by rfl, ?_⟩) (unhide HH) ?_
          rotate_left 1
          · intro W hSW; go_simp; all_goals (with_reducible rfl)
          (try simp only [Act.put, List.setIfInBounds_toArray, List.set_cons_zero, List.set_cons_succ])
          refine takeL (i := 11) (v := ?_) rfl (by kernel_rfl) (by kernel_rfl) (by kernel_rfl) (fun _ _ _ h => h) (Or.inl ⟨by rfl, ?_⟩) (unhide HH) ?_
          rotate_left 1
          · intro W hSW; go_simp; all_goals (with_reducible rfl)
          (try simp only [Act.put, List.setIfInBounds_toArray, List.set_cons_zero, List.set_cons_succ])
          refine takeL (i := 12) (v := ?_) rfl (by kernel_rfl) (by kernel_rfl) (by kernel_rfl) (fun _ _ _ h => h) (Or.inl ⟨by rfl, ?_⟩) (unhide HH) ?_
          rotate_left 1
          · intro W hSW; go_simp; all_goals (with_reducible rfl)
          (try simp only [Act.put, List.setIfInBounds_toArray, List.set_cons_zero, List.set_cons_succ])
          refine takeL (i := 13) (v := ?_) rfl (by kernel_rfl) (by kernel_rfl) (by kernel_rfl) (fun _ _ _ h => h) (Or.inl ⟨by rfl, ?_⟩) (unhide HH) ?_
          rotate_left 1
          · intro W hSW; go_simp; all_goals (with_reducible rfl)
          (try simp only [Act.put, List.setIfInBounds_toArray, List.set_cons_zero, List.set_cons_succ])
          refine takeL (i := 14) (v := ?_) rfl (by kernel_rfl) (by kernel_rfl) (by kernel_rfl) (fun _ _ _ h => h) (Or.inl ⟨by rfl, ?_⟩) (unhide HH) ?_
          rotate_left 1
          · intro W1 hSW; have hc := hSW.cell (unhide HC) (by simp; omega); clear hSW; go_simp; all_goals (with_reducible rfl)
          (try simp only [Act.put, List.setIfInBounds_toArray, List.set_cons_zero, List.set_cons_succ])
          refine wpAnyH_ready (rs := [9, 15]) (by kernel_rfl) (by simp) ?_
          refine consL rfl (fun K hK => ?_) (consL rfl (fun K hK => ?_) AllReadyH.nil)
          focus
            have hd : wr.drew.cell? ⟨gr, z, none⟩ = _ := unhide HD
            go_simp
            refine hK.out _ _ (unhide HH) (fun hHeld => ?_)
            clear hK K HH
            have HH := hide hHeld
            clear hHeld
            (try simp only [Act.put, List.setIfInBounds_toArray, List.set_cons_zero, List.set_cons_succ])
            clear hd
            refine wpAnyH_ready (rs := [15]) (by kernel_rfl) (by simp) ?_
            refine consL rfl (fun K hK => ?_) AllReadyH.nil
            go_simp
            refine (rmul_any f (cf (trim b) i) hfl (hbs2.trim i) _).mono ?_
            rintro e w5 ⟨rfl, hw5⟩
            rw [hw5]
            clear hw5
            go_wp2_with fail
            refine hK.out _ _ (unhide HH) (fun hHeld => ?_)
            clear hK K HH
            have HH := hide hHeld
            clear hHeld
            (try simp only [Act.put, List.setIfInBounds_toArray, List.set_cons_zero, List.set_cons_succ])
            refine takeL (i := 16) (v := ?_) rfl (by kernel_rfl) (by kernel_rfl) (by kernel_rfl) (fun _ _ _ h => h) (Or.inl ⟨by rfl, ?_⟩) (unhide HH) ?_
            rotate_left 1
            · intro W hSW; go_simp; all_goals (with_reducible rfl)
            (try simp only [Act.put, List.setIfInBounds_toArray, List.set_cons_zero, List.set_cons_succ])
            refine takeL (i := 17) (v := ?_) rfl (by kernel_rfl) (by kernel_rfl) (by kernel_rfl) (fun _ _ _ h => h) (Or.inl ⟨by rfl, ?_⟩) (unhide HH) ?_
            rotate_left 1
            · intro W hSW; go_simp; all_goals (with_reducible rfl)
            (try simp only [Act.put, List.setIfInBounds_toArray, List.set_cons_zero, List.set_cons_succ])
            refine wpAnyH_ready (rs := [18]) (by kernel_rfl) (by simp) ?_
            refine consL rfl (fun K hK => ?_) AllReadyH.nil
            have hd : wr.drew.cell? ⟨gr, z, none⟩ = _ := unhide HD
            have hf : wr.drew.frozen? ⟨gr, z, none⟩ = false := unhide HF
            go_simp
            refine hK.out _ _ (((Kp.refl _ wr).setCell ⟨gr, z, none⟩ _ (.inl (by simp))).drew) (fun hHeld => ?_)
            clear hHeld hK K HH hd hf
            (try simp only [Act.put, List.setIfInBounds_toArray, List.set_cons_zero, List.set_cons_succ])
            refine wpAnyH_done (by kernel_rfl) ?_ _
            refine NoPanic.normal ?_
            go_wp2
            go_roundw
            case rel =>
              refine ⟨i + 1, s.set z (cf s z ^^^ gmul f (cf (trim b) i)), by go_num, by omega, by simp [hsl], ?_, ?_, ((unhide HBS).set z _ (by omega)).of rfl, (unhide HBD2).of (Below.heap_setCell _ _ _ _ (by simp; omega)), (unhide HBQ2).of (Below.heap_setCell _ _ _ _ (by simp; omega)), ((unhide HK2).setCell _ _ (.inr (by simp; omega))).drew⟩
              · intro j; rw [cf_set _ _ _ _ (by omega)]; split
                · exact xor_lt hv hu
                · exact hsb j
              · exact sub_step (unhide HSC) (by omega) (by omega) (by omega)
            case measure => simp [intOf]; omega
          focus
            go_simp
            refine (rmul_any f (cf (trim b) i) hfl (hbs2.trim i) _).mono ?_
            rintro e w5 ⟨rfl, hw5⟩
            rw [hw5]
            clear hw5
            go_wp2_with fail
            refine hK.out _ _ (unhide HH) (fun hHeld => ?_)
            clear hK K HH
            have HH := hide hHeld
            clear hHeld
            (try simp only [Act.put, List.setIfInBounds_toArray, List.set_cons_zero, List.set_cons_succ])
            refine wpAnyH_ready (rs := [9]) (by kernel_rfl) (by simp) ?_
            refine consL rfl (fun K hK => ?_) AllReadyH.nil
            have hd : wr.drew.cell? ⟨gr, z, none⟩ = _ := unhide HD
            go_simp
            refine hK.out _ _ (unhide HH) (fun hHeld => ?_)
            clear hK K HH
            have HH := hide hHeld
            clear hHeld
            (try simp only [Act.put, List.setIfInBounds_toArray, List.set_cons_zero, List.set_cons_succ])
            clear hd
            refine takeL (i := 16) (v := ?_) rfl (by kernel_rfl) (by kernel_rfl) (by kernel_rfl) (fun _ _ _ h => h) (Or.inl ⟨by rfl, ?_⟩) (unhide HH) ?_
            rotate_left 1
            · intro W hSW; go_simp; all_goals (with_reducible rfl)
            (try simp only [Act.put, List.setIfInBounds_toArray, List.set_cons_zero, List.set_cons_succ])
            refine takeL (i := 17) (v := ?_) rfl (by kernel_rfl) (by kernel_rfl) (by kernel_rfl) (fun _ _ _ h => h) (Or.inl ⟨by rfl, ?_⟩) (unhide HH) ?_
            rotate_left 1
            · intro W hSW; go_simp; all_goals (with_reducible rfl)
            (try simp only [Act.put, List.setIfInBounds_toArray, List.set_cons_zero, List.set_cons_succ])
            refine wpAnyH_ready (rs := [18]) (by kernel_rfl) (by simp) ?_
            refine consL rfl (fun K hK => ?_) AllReadyH.nil
            have hd : wr.drew.cell? ⟨gr, z, none⟩ = _ := unhide HD
            have hf : wr.drew.frozen? ⟨gr, z, none⟩ = false := unhide HF
            go_simp
            refine hK.out _ _ (((Kp.refl _ wr).setCell ⟨gr, z, none⟩ _ (.inl (by simp))).drew) (fun hHeld => ?_)
            clear hHeld hK K HH hd hf
            (try simp only [Act.put, List.setIfInBounds_toArray, List.set_cons_zero, List.set_cons_succ])
            refine wpAnyH_done (by kernel_rfl) ?_ _
            refine NoPanic.normal ?_
            go_wp2
            go_roundw
            case rel =>
              refine ⟨i + 1, s.set z (cf s z ^^^ gmul f (cf (trim b) i)), by go_num, by omega, by simp [hsl], ?_, ?_, ((unhide HBS).set z _ (by omega)).of rfl, (unhide HBD2).of (Below.heap_setCell _ _ _ _ (by simp; omega)), (unhide HBQ2).of (Below.heap_setCell _ _ _ _ (by simp; omega)), ((unhide HK2).setCell _ _ (.inr (by simp; omega))).drew⟩
              · intro j; rw [cf_set _ _ _ _ (by omega)]; split
                · exact xor_lt hv hu
                · exact hsb j
              · exact sub_step (unhide HSC) (by omega) (by omega) (by omega)
            case measure => simp [intOf]; omega
        · have hi1 : (t : Int) + 1 ≤ (i : Int) := by omega
          have hie : i = (trim b).length := by rw [unhide HT]; omega
          have HSC4 : Hid (∀ j, cf s j = cf r j ^^^ (if k ≤ j then gmul f (cf (trim b) (j - k)) else 0)) := fun j => by rw [← sub_row j, ← hie]; exact unhide HSC j
          have HQS : Hid (∀ i, cf (q.set k f) i = if i = k then f else cf q i) := fun i => cf_set _ _ _ _ (by omega)
          have HE5 : Hid (Eqv (padd (pmul (q.set k f) (trim b)) s) a) := div_step hbs2.trim hqb hfl (unhide HEQ) (unhide HLOW k (by rw [unhide HN]; omega)) (unhide HQS) (unhide HSC4)
          have HSH : Hid ((trim s).length < n) := by
            have h := sub_short (r := r) (d := trim b) (s := s) (k := k) (f := f) (t := t) (top := top) hrb hbs2.trim (unhide HT) (unhide HY0) (by rw [unhide HY]; exact (unhide HTOP).symm) (by rw [unhide HN]; omega) (by rw [← unhide HKJ, unhide HX]; exact (unhide HFF).symm) (unhide HSC4)
            rwa [unhide HN] at h
          have HA2 : Hid (Arg wr (.slice (some ⟨gr, 0, none⟩) n cr) gr s) := by
            refine ⟨⟨some ⟨gr, 0, none⟩, cr, by rw [hsl], by omega, hcr2, fun h => by simp at h, ?_⟩, hsb⟩
            have h := (unhide HBS).row (o := 0) (n := n)
            rw [List.drop_zero, List.take_of_length_le (by omega)] at h
            exact h
          have hqb5 : Hid (Bs (q.set k f)) := fun j => by
            rw [unhide HQS]
            split
            · exact hfl
            · exact hqb j
          clear hie
          go_wp2_with fail
          refine (rtrim_any _ gr s wr (unhide HA2) (by omega)).mono ?_
          rintro e w6 ⟨v6, rfl, hF6, hk6⟩
          have HFR6 : Hid ((trim s = [] ∧ v6 = .slice none 0 0) ∨ ∃ g c, v6 = .slice (some ⟨g, 0, none⟩) (trim s).length c ∧ (trim s).length ≤ c ∧ c ≤ maxLen ∧ Blk w6 g (trim s) ∧ w1.heap.size ≤ g ∧ g ≠ gq) := by
            rcases hF6 with h | ⟨g, c, k1, k2, k3, k4, k5⟩
            · exact .inl h
            · have := (unhide HBQ2).lt
              exact .inr ⟨g, c, k1, k2, k3, k4, by omega, by omega⟩
          have HLV : Hid (lenOfV v6 = (trim s).length) := by
            rcases hF6 with ⟨h, rfl⟩ | ⟨g, c, rfl, _⟩
            · rw [h]; rfl
            · rfl
          have HBD6 := hide ((unhide HBD2).below hk6 (unhide HBD2).lt)
          have HBQ6 := hide ((unhide HBQ2).below hk6 (unhide HBQ2).lt)
          have HKW6 := hide ((unhide HK2).ofBelow hk6)
          obtain ⟨av, lv, cv, hsh⟩ := Fr.sh hF6
          clear hF6 hk6
          subst hsh
          go_wp2
          go_roundw
          case rel =>
            have hsh := unhide HSH
            refine ⟨q.set k f, trim s, by simp [hql], unhide hqb5, hsb.trim, trim_trim s, by omega, fun i => ?_, fun i hi => ?_, unhide HFR6, unhide HBD6, unhide HBQ6, unhide HKW6⟩
            · rw [← unhide HE5 i, cf_padd, cf_padd, cf_trim s i]
            · rw [unhide HQS, if_neg (by omega)]
              exact unhide HLOW i (by rw [unhide HN]; omega)
          case measure =>
            rw [unhide HLV]
            exact unhide HSH
    · have hsh : ∃ ar cr, u7 = .slice ar r.length cr := by
        rcases hfr with ⟨h, h'⟩ | ⟨g, c, h, _⟩
        · exact ⟨_, _, by rw [h]; exact h'⟩
        · exact ⟨_, _, h⟩
      obtain ⟨ar, cr, rfl⟩ := hsh
      have HFRX := hide hfr
      clear hfr
      have hlt' : (r.length : Int) < (t : Int) + 1 := by omega
      have HA2 : Hid (Arg wr (.slice (some ⟨gq, 0, none⟩) M M) gq q) := by
        refine ⟨⟨some ⟨gq, 0, none⟩, M, by rw [hql], by omega, by unfold maxLen; omega, fun h => by simp at h, ?_⟩, hqb⟩
        have h := (unhide HBQx).row (o := 0) (n := M)
        rw [List.drop_zero, List.take_of_length_le (by omega)] at h
        exact h
      go_wp2_with fail
      refine (rtrim_any _ gq q wr (unhide HA2) (by omega)).mono ?_
      rintro e w6 ⟨v6, rfl, hF6, hk6⟩
      have HF6 := hide hF6
      have HK6 := hide hk6
      clear hF6 hk6
      go_wp2
      go_returns
      refine ⟨_, _, trim q, r, rfl, ⟨trim_trim q, unhide HRT, hqb.trim, hrb, by rw [unhide HT]; omega, fun i => ?_⟩, ?_, ?_, ((unhide HKWx).ofBelow (unhide HK6)).below⟩
      · rw [← unhide HEQ i, cf_padd, cf_padd, pmul_left hqb.trim hbs2 (cf_trim q) i, pmul_right q (cf_trim b) i]
      · rcases unhide HF6 with h | ⟨g3, c3, k1, k2, k3, k4, k5⟩
        · exact .inl h
        · exact .inr ⟨g3, c3, k1, k2, k3, k4, by omega⟩
      · rcases unhide HFRX with h | ⟨g3, c3, k1, k2, k3, k4, k5, k6⟩
        · exact .inl h
        · exact .inr ⟨g3, c3, k1, k2, k3, k4.below (unhide HK6) k4.lt, by omega⟩

end Go.Proofs.Ytibmfblppjcenaa
