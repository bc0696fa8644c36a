/-
  rs.sums.put and parted.
-/
import Derived.Test.YtjdikhelabibnabGreatS5g
import Derived.Test.YtjdikhelabibnabGreatL5
namespace Go.Proofs.YtjdikhelabibnabGreat
open Go.RowKit

set_option maxRecDepth 100000 in
set_option maxHeartbeats 4000000 in
theorem put_any (d : Nat) (hd : d ≤ 14) (gp gq gR n cp cq N cR : Nat) (P Q : List Nat) (cur : Array Value) (i : Nat) (hi : i ≤ 16) (hiN : i < N) (v : Value) (gr : Nat) (r : List Nat) (w : World)
    (hP : Blk w gp P) (hQ : Blk w gq Q) (hPl : P.length = n) (hQl : Q.length = n) (hPb : Bs P) (hQb : Bs Q) (hne : gp ≠ gq) (hA : Arg w v gr r) (hr : r.length = n) (hg : r ≠ [] → gr ≠ gp ∧ gr ≠ gq ∧ gr ≠ gR) (hn : n ≤ 100000)
    (hR : w.heap[gR]? = some (.cells cur 33 (0, 0))) (hN : N ≤ cur.size) :
    Calls Tryz.prog 97 #[sv d (.slice (some ⟨gp, 0, none⟩) n cp) (.slice (some ⟨gq, 0, none⟩) n cq), .slice (some ⟨gR, 0, none⟩) N cR, .int .i64 (i : Int), v] w fun e w' =>
      (∃ u, e = .returned u) ∧ Blk w' gp (addF P r (shP d i)) ∧ Blk w' gq (addF Q r (shQ d i)) ∧ w'.heap[gR]? = some (.cells (cur.setIfInBounds i v) 33 (0, 0)) ∧ Kp [gp, gq, gR] w w' := by
  have hpl := hP.lt
  have hql := hQ.lt
  have hRl := lt_of_block hR
  have hpR : gp ≠ gR := fun e => by
    obtain ⟨c1, h1, _⟩ := hP
    rw [e, hR] at h1
    simp at h1
  have hqR : gq ≠ gR := fun e => by
    obtain ⟨c1, h1, _⟩ := hQ
    rw [e, hR] at h1
    simp at h1
  obtain ⟨ao, c, hv, _⟩ := hA.ex
  have hiN' : (i : Int) < (N : Int) := by omega
  obtain ⟨x0, hx0⟩ : ∃ x0, w.cell? ⟨gR, i, none⟩ = some x0 := by
    have : i < cur.size := by omega
    exact ⟨cur[i], by simp [World.cell?, hR, this]⟩
  have hf0 : w.frozen? ⟨gR, i, none⟩ = false := by simp [World.frozen?, hR]
  -- the world behind the box and the store
  have HW : Hid (∃ W, (w.setCell ⟨gR, i, none⟩ v).alloc (.cells #[.int .i64 (d : Int), .slice (some ⟨gp, 0, none⟩) n cp, .slice (some ⟨gq, 0, none⟩) n cq] 105) = W ∧ SBox W w.heap.size d (.slice (some ⟨gp, 0, none⟩) n cp) (.slice (some ⟨gq, 0, none⟩) n cq) ∧ Kp [gR] w W ∧ W.heap[gR]? = some (.cells (cur.setIfInBounds i v) 33 (0, 0))) := by
    have hsz : (w.setCell ⟨gR, i, none⟩ v).heap.size = w.heap.size := by simp [World.setCell]
    refine ⟨_, rfl, ⟨?_⟩, ((Kp.refl [gR] w).setCell _ _ (.inl (by simp))).alloc _, ?_⟩
    · have h := World.alloc_heap_new (w.setCell ⟨gR, i, none⟩ v) (.cells #[.int .i64 (d : Int), .slice (some ⟨gp, 0, none⟩) n cp, .slice (some ⟨gq, 0, none⟩) n cq] 105)
      rwa [hsz] at h
    · exact (Below.heap_alloc _ _ _ (by rw [hsz]; exact hRl)).trans (heap_setCell_same _ gR i _ _ _ hR)
  have HX : Hid ((w.alloc (.cells #[.int .i64 (d : Int), .slice (some ⟨gp, 0, none⟩) n cp, .slice (some ⟨gq, 0, none⟩) n cq] 105)).cell? ⟨gR, i, none⟩ = some x0 ∧ (w.alloc (.cells #[.int .i64 (d : Int), .slice (some ⟨gp, 0, none⟩) n cp, .slice (some ⟨gq, 0, none⟩) n cq] 105)).frozen? ⟨gR, i, none⟩ = false) :=
    ⟨(World.cell?_of_block (Below.heap_alloc _ _ _ hRl)).trans hx0, (World.frozen?_of_block (a := ⟨gR, i, none⟩) (Below.heap_alloc _ _ _ hRl)).trans hf0⟩
  have HA := hide hA
  have HADD := hide (fun W => add_any5 d hd gp gq n cp cq P Q i hi v gr r W)
  have HP := hide hP
  have HQ := hide hQ
  have HF := hide (And.intro hPl (And.intro hQl (And.intro hPb (And.intro hQb hne))))
  have HG := hide hg
  have HRL := hide hr
  obtain ⟨hX1, hX2⟩ := unhide HX
  subst hv
  clear hx0 hf0 hR hA hP hQ hPl hQl hPb hQb hne hg hr HX hN
  unfold sv at *
  go_enter Tryz.func97, Tryz.ntmps97
  go_wp2_with fail
  obtain ⟨W, hW, hSB, hKW, hRW⟩ := unhide HW
  rw [hW]
  clear hW HW
  have HKW := hide hKW
  have HRW := hide hRW
  clear hKW hRW hSB
  refine (unhide HADD W ((unhide HP).of ((unhide HKW).block gp hpl (by simpa using hpR))) ((unhide HQ).of ((unhide HKW).block gq hql (by simpa using hqR))) (unhide HF).1 (unhide HF).2.1 (unhide HF).2.2.1 (unhide HF).2.2.2.1 (unhide HF).2.2.2.2 ?_ (unhide HRL) (fun h => ⟨(unhide HG h).1, (unhide HG h).2.1⟩) hn).mono ?_
  · by_cases h0 : r = []
    · subst h0
      obtain ⟨⟨ao', c', h1, h2, h3, h4, _⟩, hb⟩ := unhide HA
      exact ⟨⟨ao', c', h1, h2, h3, h4, .inl rfl⟩, hb⟩
    · obtain ⟨⟨ao', c', h1, h2, h3, h4, h5⟩, hb⟩ := unhide HA
      exact ⟨⟨ao', c', h1, h2, h3, h4, h5.keep (unhide HKW) (by simpa using (unhide HG h0).2.2)⟩, hb⟩
  · rintro e w4 ⟨⟨u, rfl⟩, hp4, hq4, hk4⟩
    have HF4 := hide (And.intro hp4 (And.intro hq4 (And.intro (hk4.heap (unhide HRW) (by simp; omega)) (((unhide HKW).mono (S' := [gp, gq, gR]) (by simp)).trans hk4 (by simp)))))
    clear hp4 hq4 hk4
    go_wp2_with fail
    go_end0
    exact ⟨⟨_, rfl⟩, unhide HF4⟩

/-- One of two rows that p lacks. -/
def partF (P Q : List Nat) (a b k : Nat) : Nat := gmul (cf Q k ^^^ gmul (cf P k) b) (pw (a ^^^ b) (-1))
def partL (P Q : List Nat) (a b n : Nat) : List Nat := fillK n (partF P Q a b) n

set_option maxRecDepth 100000 in
set_option maxHeartbeats 8000000 in
theorem parted_any (d : Nat) (hd : d ≤ 14) (gp gq n cp cq : Nat) (P Q : List Nat) (i j : Nat) (hi : i ≤ 16) (hj : j ≤ 16) (w : World)
    (hP : Blk w gp P) (hQ : Blk w gq Q) (hPl : P.length = n) (hQl : Q.length = n) (hPb : Bs P) (hQb : Bs Q) (hn : n ≤ 100000) :
    Calls Tryz.prog 98 #[sv d (.slice (some ⟨gp, 0, none⟩) n cp) (.slice (some ⟨gq, 0, none⟩) n cq), .int .i64 (i : Int), .int .i64 (j : Int)] w fun e w' =>
      ∃ g, e = .returned (.slice (some ⟨g, 0, none⟩) n n) ∧ w.heap.size ≤ g ∧ Blk w' g (partL P Q (shQ d i) (shQ d j) n) ∧ Below w.heap.size w w' := by
  have hpl := hP.lt
  have hql := hQ.lt
  have HP := hide hP
  have HQ := hide hQ
  have HPB := hide hPb
  have HQB := hide hQb
  have HPL := hide hPl
  have HQL := hide hQl
  obtain ⟨a, ha⟩ : ∃ a, shQ d i = a := ⟨_, rfl⟩
  obtain ⟨b, hb⟩ : ∃ b, shQ d j = b := ⟨_, rfl⟩
  have ha8 : a < 256 := by rw [← ha]; exact shQ_lt _ _
  have hb8 : b < 256 := by rw [← hb]; exact shQ_lt _ _
  have HSI := hide (shares_any d hd (some ⟨gp, 0, none⟩) (some ⟨gq, 0, none⟩) n cp n cq i hi)
  have HSJ := hide (shares_any d hd (some ⟨gp, 0, none⟩) (some ⟨gq, 0, none⟩) n cp n cq j hj)
  rw [ha] at HSI ⊢
  rw [hb] at HSJ ⊢
  have hxab := bits_xor_u8 ha8 hb8
  have hab8 : a ^^^ b < 256 := xor_lt ha8 hb8
  clear hP hQ hPb hQb hPl hQl ha hb hi hj
  unfold sv at *
  go_enter Tryz.func98, Tryz.ntmps98
  have HSB : Hid (SBox (w.alloc (.cells #[.int .i64 (d : Int), .slice (some ⟨gp, 0, none⟩) n cp, .slice (some ⟨gq, 0, none⟩) n cq] 105)) w.heap.size d (.slice (some ⟨gp, 0, none⟩) n cp) (.slice (some ⟨gq, 0, none⟩) n cq)) := ⟨World.alloc_heap_new w _⟩
  have HB1 : Hid (Below w.heap.size w (w.alloc (.cells #[.int .i64 (d : Int), .slice (some ⟨gp, 0, none⟩) n cp, .slice (some ⟨gq, 0, none⟩) n cq] 105))) := (Below.refl _ _).alloc (Nat.le_refl _) _
  go_wp2_with fail
  generalize w.alloc (.cells #[.int .i64 (d : Int), .slice (some ⟨gp, 0, none⟩) n cp, .slice (some ⟨gq, 0, none⟩) n cq] 105) = w1 at HSB HB1 ⊢
  refine (unhide HSI w1).mono ?_
  rintro e w2 ⟨rfl, hk⟩
  replace HSB := hide ((unhide HSB).below hk (unhide HSB).lt)
  replace HB1 := hide ((unhide HB1).trans (hk.mono (unhide HB1).size))
  clear hk HSI
  obtain ⟨⟨c0, c1, c2⟩, _⟩ := three_at (unhide HSB).h
  go_wp2_with fail
  refine (unhide HSJ w2).mono ?_
  rintro e w3 ⟨rfl, hk⟩
  replace HSB := hide ((unhide HSB).below hk (unhide HSB).lt)
  replace HB1 := hide ((unhide HB1).trans (hk.mono (unhide HB1).size))
  clear hk HSJ c0 c1 c2
  go_wp2_with fail
  refine (inv_any (a ^^^ b) hab8 w3).mono ?_
  rintro e w4 ⟨rfl, hk⟩
  replace HSB := hide ((unhide HSB).below hk (unhide HSB).lt)
  replace HB1 := hide ((unhide HB1).trans (hk.mono (unhide HB1).size))
  clear hk
  have hv8 : pw (a ^^^ b) (-1) < 256 := pw_lt _ _
  have HF : Hid (∀ k, partF P Q a b k = gmul (cf Q k ^^^ gmul (cf P k) b) (pw (a ^^^ b) (-1))) := fun _ => rfl
  obtain ⟨iv, hiv⟩ : ∃ iv, pw (a ^^^ b) (-1) = iv := ⟨_, rfl⟩
  rw [hiv] at hv8 HF ⊢
  clear hiv
  obtain ⟨⟨c0, c1, c2⟩, _⟩ := three_at (unhide HSB).h
  have hmk := run_zeros n (by omega)
  have HZB := hide (blk_zeros n w4)
  obtain ⟨zz, hzz⟩ : ∃ z, (List.replicate n (Value.int .u8 0)).toArray = z := ⟨_, rfl⟩
  rw [hzz] at hmk HZB
  clear hzz
  have HKA : Hid (Below w4.heap.size w4 (w4.alloc (.cells zz 5))) := (Below.refl _ _).alloc (Nat.le_refl _) _
  go_wp2_with fail
  have hsz : w4.heap.size < (w4.alloc (.cells zz 5)).heap.size := by simp
  obtain ⟨q, hq⟩ : ∃ q, w4.heap.size = q := ⟨_, rfl⟩
  have HQ4 := hide hq
  have hwq := (unhide HB1).size
  have hbq := (unhide HSB).lt
  generalize w4.alloc (.cells zz 5) = wa at HZB HKA hsz ⊢
  rw [hq] at HZB hsz HKA hwq hbq ⊢
  clear hq hmk c0 c1 c2
  go_loopw [36] (fun p wr => ∃ k : Nat, p = .int .i64 k ∧ k ≤ n ∧ Blk wr q (fillK n (partF P Q a b) k) ∧ Kp [q] wa wr) (fun p _ => n - (intOf p).toNat)
  case atStart => exact ⟨0, rfl, by omega, by rw [fillK_zero]; exact unhide HZB, Kp.refl _ _⟩
  case round =>
    obtain ⟨k, rfl, hk, hBk, hKk⟩ := hrel
    have HBK := hide hBk
    have HKK := hide hKk
    clear hBk hKk
    have HBW : Hid (Below w.heap.size w wr) := below_kp ((unhide HB1).trans ((unhide HKA).mono hwq)) (unhide HKK) (by simp; omega) (by omega)
    by_cases hkl : k < n
    · have hk1 : (k : Int) < (n : Int) := by omega
      have hSBw : SBox wr w.heap.size d (.slice (some ⟨gp, 0, none⟩) n cp) (.slice (some ⟨gq, 0, none⟩) n cq) := ((unhide HSB).below (unhide HKA) hbq).kp (unhide HKK) (by simp; omega)
      obtain ⟨⟨_, c1, c2⟩, _⟩ := three_at hSBw.h
      have HC1 := hide c1
      have HC2 := hide c2
      have HP1 := hide (((unhide HBW).cell (p := ⟨gp, k, none⟩) hpl).trans ((unhide HP).cell (j := k) (by rw [unhide HPL]; exact hkl)))
      have HQ1 := hide (((unhide HBW).cell (p := ⟨gq, k, none⟩) hql).trans ((unhide HQ).cell (j := k) (by rw [unhide HQL]; exact hkl)))
      have h1 : cf P k < 256 := unhide HPB k
      have h2 : cf Q k < 256 := unhide HQB k
      have HST := hide (fillK_step (f := partF P Q a b) hkl)
      rw [unhide HF k] at HST
      obtain ⟨x, hx⟩ : ∃ x, cf P k = x := ⟨_, rfl⟩
      obtain ⟨y, hy⟩ : ∃ y, cf Q k = y := ⟨_, rfl⟩
      rw [hx] at HP1 h1 HST
      rw [hy] at HQ1 h2 HST
      have hm8 : gmul x b < 256 := gmul_lt h1
      have hxor := bits_xor_u8 h2 hm8
      have hxm8 : y ^^^ gmul x b < 256 := xor_lt h2 hm8
      clear hx hy c1 c2 hSBw
      go_wp2_with fail
      refine wp_region_noPanic ?_
      refine wp_region_held_drew (S := fun W => Kp [q] wr W) (by kernel_rfl) ((Kp.refl _ _).drew) (fun hHeld => ?_)
      have HH := hide hHeld
      have HBc : Hid (Blk wr.drew q _) := (unhide HBK).of rfl
      clear hHeld
      refine takeL (i := 0) (v := ?_) rfl (by kernel_rfl) (by kernel_rfl) (by kernel_rfl) (fun _ _ _ h => h) (Or.inl ⟨by rfl, ?_⟩) (unhide HH) ?_
      rotate_left 1
      · intro W hSW; go_simp; all_goals (with_reducible rfl)
      (try simp only [Act.put, List.setIfInBounds_toArray, List.set_cons_zero, List.set_cons_succ])
      refine takeL (i := 1) (v := ?_) rfl (by kernel_rfl) (by kernel_rfl) (by kernel_rfl) (fun _ _ _ h => h) (Or.inl ⟨by rfl, ?_⟩) (unhide HH) ?_
      rotate_left 1
      · intro W hSW; go_simp; all_goals (with_reducible rfl)
      (try simp only [Act.put, List.setIfInBounds_toArray, List.set_cons_zero, List.set_cons_succ])
      refine takeL (i := 2) (v := ?_) rfl (by kernel_rfl) (by kernel_rfl) (by kernel_rfl) (fun _ _ _ h => h) (Or.inl ⟨by rfl, ?_⟩) (unhide HH) ?_
      rotate_left 1
      · intro W hSW; go_simp; all_goals (with_reducible rfl)
      (try simp only [Act.put, List.setIfInBounds_toArray, List.set_cons_zero, List.set_cons_succ])
      refine takeL (i := 3) (v := ?_) rfl (by kernel_rfl) (by kernel_rfl) (by kernel_rfl) (fun _ _ _ h => h) (Or.inl ⟨by rfl, ?_⟩) (unhide HH) ?_
      rotate_left 1
      · intro W1 hSW; have hc := hSW.cell (unhide HC2) (by simp; omega); clear hSW; go_simp; all_goals (with_reducible rfl)
      (try simp only [Act.put, List.setIfInBounds_toArray, List.set_cons_zero, List.set_cons_succ])
      refine takeL (i := 4) (v := ?_) rfl (by kernel_rfl) (by kernel_rfl) (by kernel_rfl) (fun _ _ _ h => h) (Or.inl ⟨by rfl, ?_⟩) (unhide HH) ?_
      rotate_left 1
      · intro W hSW; go_simp; all_goals (with_reducible rfl)
      (try simp only [Act.put, List.setIfInBounds_toArray, List.set_cons_zero, List.set_cons_succ])
      refine takeL (i := 5) (v := ?_) rfl (by kernel_rfl) (by kernel_rfl) (by kernel_rfl) (fun _ _ _ h => h) (Or.inl ⟨by rfl, ?_⟩) (unhide HH) ?_
      rotate_left 1
      · intro W hSW; go_simp; all_goals (with_reducible rfl)
      (try simp only [Act.put, List.setIfInBounds_toArray, List.set_cons_zero, List.set_cons_succ])
      refine takeL (i := 6) (v := ?_) rfl (by kernel_rfl) (by kernel_rfl) (by kernel_rfl) (fun _ _ _ h => h) (Or.inl ⟨by rfl, ?_⟩) (unhide HH) ?_
      rotate_left 1
      · intro W1 hSW; have hc := hSW.cell (unhide HQ1) (by simp; omega); clear hSW; go_simp; all_goals (with_reducible rfl)
      (try simp only [Act.put, List.setIfInBounds_toArray, List.set_cons_zero, List.set_cons_succ])
      refine takeL (i := 7) (v := ?_) rfl (by kernel_rfl) (by kernel_rfl) (by kernel_rfl) (fun _ _ _ h => h) (Or.inl ⟨by rfl, ?_⟩) (unhide HH) ?_
      rotate_left 1
      · intro W hSW; go_simp; all_goals (with_reducible rfl)
      (try simp only [Act.put, List.setIfInBounds_toArray, List.set_cons_zero, List.set_cons_succ])
      refine takeL (i := 8) (v := ?_) rfl (by kernel_rfl) (by kernel_rfl) (by kernel_rfl) (fun _ _ _ h => h) (Or.inl ⟨by rfl, ?_⟩) (unhide HH) ?_
      rotate_left 1
      · intro W1 hSW; have hc := hSW.cell (unhide HC1) (by simp; omega); clear hSW; go_simp; all_goals (with_reducible rfl)
      (try simp only [Act.put, List.setIfInBounds_toArray, List.set_cons_zero, List.set_cons_succ])
      refine takeL (i := 9) (v := ?_) rfl (by kernel_rfl) (by kernel_rfl) (by kernel_rfl) (fun _ _ _ h => h) (Or.inl ⟨by rfl, ?_⟩) (unhide HH) ?_
      rotate_left 1
      · intro W hSW; go_simp; all_goals (with_reducible rfl)
      (try simp only [Act.put, List.setIfInBounds_toArray, List.set_cons_zero, List.set_cons_succ])
      refine takeL (i := 10) (v := ?_) rfl (by kernel_rfl) (by kernel_rfl) (by kernel_rfl) (fun _ _ _ h => h) (Or.inl ⟨by rfl, ?_⟩) (unhide HH) ?_
      rotate_left 1
      · intro W hSW; go_simp; all_goals (with_reducible rfl)
      (try simp only [Act.put, List.setIfInBounds_toArray, List.set_cons_zero, List.set_cons_succ])
      refine takeL (i := 11) (v := ?_) rfl (by kernel_rfl) (by kernel_rfl) (by kernel_rfl) (fun _ _ _ h => h) (Or.inl ⟨by rfl, ?_⟩) (unhide HH) ?_
      rotate_left 1
      · intro W1 hSW; have hc := hSW.cell (unhide HP1) (by simp; omega); clear hSW; go_simp; all_goals (with_reducible rfl)
      (try simp only [Act.put, List.setIfInBounds_toArray, List.set_cons_zero, List.set_cons_succ])
      refine takeL (i := 12) (v := ?_) rfl (by kernel_rfl) (by kernel_rfl) (by kernel_rfl) (fun _ _ _ h => h) (Or.inl ⟨by rfl, ?_⟩) (unhide HH) ?_
      rotate_left 1
      · intro W hSW; go_simp; all_goals (with_reducible rfl)
      (try simp only [Act.put, List.setIfInBounds_toArray, List.set_cons_zero, List.set_cons_succ])
      refine takeL (i := 15) (v := ?_) rfl (by kernel_rfl) (by kernel_rfl) (by kernel_rfl) (fun _ _ _ h => h) (Or.inl ⟨by rfl, ?_⟩) (unhide HH) ?_
      rotate_left 1
      · intro W hSW; go_simp; all_goals (with_reducible rfl)
      (try simp only [Act.put, List.setIfInBounds_toArray, List.set_cons_zero, List.set_cons_succ])
      refine wpAnyH_ready (rs := [13]) (by kernel_rfl) (by simp) ?_
      refine consL rfl (fun K hK => ?_) AllReadyH.nil
      go_simp
      refine (mul_any (x) (b) h1 hb8 _).mono ?_
      rintro e w11 ⟨rfl, hk4⟩
      have HB1 : Hid (Blk w11 q _) := (unhide HBc).of (hk4.block q (unhide HBc).lt)
      have HK4 := hide hk4
      clear hk4
      go_wp2_with fail
      refine hK.out _ _ ((unhide HH).ofBelow (unhide HK4)) (fun hHeld => ?_)
      clear hK K HH
      have HH := hide hHeld
      clear hHeld
      (try simp only [Act.put, List.setIfInBounds_toArray, List.set_cons_zero, List.set_cons_succ])
      clear HK4
      refine takeL (i := 14) (v := ?_) rfl (by kernel_rfl) (by kernel_rfl) (by kernel_rfl) (fun _ _ _ h => h) (Or.inl ⟨by rfl, ?_⟩) (unhide HH) ?_
      rotate_left 1
      · intro W hSW; go_simp; all_goals (with_reducible rfl)
      (try simp only [Act.put, List.setIfInBounds_toArray, List.set_cons_zero, List.set_cons_succ])
      refine wpAnyH_ready (rs := [16]) (by kernel_rfl) (by simp) ?_
      refine consL rfl (fun K hK => ?_) AllReadyH.nil
      go_simp
      refine (mul_any (y ^^^ gmul x b) (iv) hxm8 hv8 _).mono ?_
      rintro e w12 ⟨rfl, hk4⟩
      have HB2 : Hid (Blk w12 q _) := (unhide HB1).of (hk4.block q (unhide HB1).lt)
      have HK4 := hide hk4
      clear hk4
      go_wp2_with fail
      refine hK.out _ _ ((unhide HH).ofBelow (unhide HK4)) (fun hHeld => ?_)
      clear hK K HH
      have HH := hide hHeld
      clear hHeld
      (try simp only [Act.put, List.setIfInBounds_toArray, List.set_cons_zero, List.set_cons_succ])
      clear HK4
      refine takeL (i := 17) (v := ?_) rfl (by kernel_rfl) (by kernel_rfl) (by kernel_rfl) (fun _ _ _ h => h) (Or.inl ⟨by rfl, ?_⟩) (unhide HH) ?_
      rotate_left 1
      · intro W hSW; go_simp; all_goals (with_reducible rfl)
      (try simp only [Act.put, List.setIfInBounds_toArray, List.set_cons_zero, List.set_cons_succ])
      refine wpAnyH_ready (rs := [18]) (by kernel_rfl) (by simp) ?_
      refine consL rfl (fun K hK => ?_) AllReadyH.nil
      have he : w12.cell? ⟨q, k, none⟩ = some (.int .u8 ((cf (fillK n (partF P Q a b) k) k : Nat) : Int)) := (unhide HB2).cell (by rw [fillK_len]; exact hkl)
      have hf4 : w12.frozen? ⟨q, k, none⟩ = false := (unhide HB2).free
      go_simp
      have HBW2 := hide ((unhide HB2).set k (gmul (y ^^^ gmul x b) iv) (by rw [fillK_len]; exact hkl))
      have HKW2 := hide ((unhide HH).setCell ⟨q, k, none⟩ (.int .u8 ((gmul (y ^^^ gmul x b) iv : Nat) : Int)) (.inl (by simp)))
      refine hK.out _ _ (unhide HKW2) (fun hHeld => ?_)
      clear hHeld hK K HH he hf4
      (try simp only [Act.put, List.setIfInBounds_toArray, List.set_cons_zero, List.set_cons_succ])
      refine wpAnyH_done (by kernel_rfl) ?_ _
      refine NoPanic.normal ?_
      generalize w12.setCell ⟨q, k, none⟩ (.int .u8 ((gmul (y ^^^ gmul x b) iv : Nat) : Int)) = w7 at HBW2 HKW2 ⊢
      go_wp2_with fail
      go_roundw
      case rel => exact ⟨k + 1, by go_num, by omega, by rw [← unhide HST]; exact unhide HBW2, (unhide HKK).trans (unhide HKW2) (by simp)⟩
      case measure => simp [intOf]; omega
    · have hk2 : k = n := by omega
      subst hk2
      go_wp2_with fail
      go_ret
      exact ⟨q, rfl, by omega, unhide HBK, unhide HBW⟩

end Go.Proofs.YtjdikhelabibnabGreat
