/-
  nand.New, of a geometry that may be.
-/
import Derived.Test.YtnondiaefpdlpaaMf
namespace Go.Proofs.Ytnondiaefpdlpaa
open Go.RowKit Go.Shelf

theorem below_cell {m : Nat} {A B : World} (h : Below m A B) {p : Addr} {v : Value} (hc : A.cell? p = some v) (hp : p.block < m) : B.cell? p = some v := (h.cell hp).trans hc

set_option maxRecDepth 100000 in
set_option maxHeartbeats 8000000 in
theorem new_any (D B P : Nat) (v : Value) (gv : Nat) (l : List (Int × Int)) (w : World) (h : okG D B P) (hV : PArg w v gv l) : Calls Try.prog 12 #[.agg #[.int .i64 (D : Int), .int .i64 (B : Int), .int .i64 (P : Int)], v] w fun e w' => Below w.heap.size w w' ∧
    (¬ okB D B l ∧ e = .returned (.tuple #[.pointer none, .int .i64 1]) ∨ okB D B l ∧ ∃ L, e = .returned (.tuple #[.pointer (some ⟨L.n, 0, none⟩), .int .i64 0]) ∧ NA w.heap.size w' L (blank D B P (badOf l))) := by
  have HO := hide (decide_eq_true h)
  obtain ⟨⟨hD1, hD⟩, ⟨hB1, hB⟩, hP1, hP⟩ := h
  have hD : D ≤ 8 := by omega
  have hB : B ≤ 12 := by omega
  have hP : P ≤ 8 := by omega
  obtain ⟨ao, c, rfl, hc1, hc2, hrow⟩ := hV
  have HROW := hide hrow
  have HLT : Hid (l ≠ [] → gv < w.heap.size) := fun hne => PArg.lt (v := .slice ao l.length c) ⟨ao, c, rfl, hc1, hc2, hrow⟩ hne
  clear hrow
  obtain ⟨W0, hW0⟩ : ∃ W, w.alloc (.cells #[.int .i64 (D : Int), .int .i64 (B : Int), .int .i64 (P : Int)] 23) = W := ⟨_, rfl⟩
  have hn : W0.heap[w.heap.size]? = some (.cells #[.int .i64 (D : Int), .int .i64 (B : Int), .int .i64 (P : Int)] 23 (0, 0)) := by rw [← hW0]; exact World.alloc_heap_new w _
  have c0 : W0.cell? ⟨w.heap.size, 0, none⟩ = some (.int .i64 (D : Int)) := cell_blk hn rfl
  have c1 : W0.cell? ⟨w.heap.size, 1, none⟩ = some (.int .i64 (B : Int)) := cell_blk hn rfl
  have c2 : W0.cell? ⟨w.heap.size, 2, none⟩ = some (.int .i64 (P : Int)) := cell_blk hn rfl
  have hBW : Below w.heap.size w W0 := by rw [← hW0]; exact (Below.refl _ _).alloc (Nat.le_refl _) _
  have hzW : W0.heap.size = w.heap.size + 1 := by rw [← hW0]; simp
  have HB := hide hBW
  have hzWa := Nat.le_of_eq hzW
  have hzWb := Nat.le_of_eq hzW.symm
  have HC0 := hide c0
  have HC1 := hide c1
  have HC2 := hide c2
  clear hn hBW hzW
  obtain ⟨ll, hll⟩ : ∃ n, l.length = n := ⟨_, rfl⟩
  have HLL := hide hll
  rw [hll] at hc1 ⊢
  clear hll
  go_enter Try.func12, Try.ntmps12
  go_wp2_with fail
  refine (allowed_any _ _ _ _).mono ?_
  rintro e W1 ⟨rfl, hb⟩
  rw [unhide HO]
  have hz1 := hb.size
  have C0 := hide (below_cell hb c0 (by show w.heap.size < _; omega))
  have C1 := hide (below_cell hb c1 (by show w.heap.size < _; omega))
  have C2 := hide (below_cell hb c2 (by show w.heap.size < _; omega))
  have HB1 := hide ((unhide HB).trans (hb.mono (by omega)))
  clear hb HB HC0 HC1 HC2 c0 c1 c2 hW0
  go_wp2_with fail
  have HL0 : Hid (w.heap.size < W1.drew.heap.size) := by show w.heap.size < W1.heap.size; omega
  replace HB1 := hide ((unhide HB1).drew)
  replace C0 : Hid (W1.drew.cell? ⟨w.heap.size, 0, none⟩ = some (.int .i64 (D : Int))) := unhide C0
  replace C1 : Hid (W1.drew.cell? ⟨w.heap.size, 1, none⟩ = some (.int .i64 (B : Int))) := unhide C1
  replace C2 : Hid (W1.drew.cell? ⟨w.heap.size, 2, none⟩ = some (.int .i64 (P : Int))) := unhide C2
  refine wp_region_noPanic ?_
  refine wp_region_held_drew (S := fun W => Below W1.drew.heap.size W1.drew W) (by kernel_rfl) (Below.refl _ _) (fun hHeld => ?_)
  have HH := hide hHeld
  clear hHeld
  have hzd : W1.heap.size ≤ W1.drew.heap.size := Nat.le_refl _
  generalize W1.drew = W2 at HL0 HB1 C0 C1 C2 HH hzd ⊢
  refine takeL (i := 0) (v := ?_) rfl (by kernel_rfl) (by kernel_rfl) (by kernel_rfl) (fun _ _ _ h => h) (Or.inl ⟨by rfl, ?_⟩) (unhide HH) ?_
  rotate_left 1
  · intro W1 hSW; have c0 := below_cell hSW (unhide C0) (unhide HL0); have c1 := below_cell hSW (unhide C1) (unhide HL0); have c2 := below_cell hSW (unhide C2) (unhide HL0); clear hSW; go_simp; all_goals (with_reducible rfl)
  (try simp only [Act.put, List.setIfInBounds_toArray, List.set_cons_zero, List.set_cons_succ])
  refine takeL (i := 1) (v := ?_) rfl (by kernel_rfl) (by kernel_rfl) (by kernel_rfl) (fun _ _ _ h => h) (Or.inl ⟨by rfl, ?_⟩) (unhide HH) ?_
  rotate_left 1
  · intro W1 hSW; have c0 := below_cell hSW (unhide C0) (unhide HL0); have c1 := below_cell hSW (unhide C1) (unhide HL0); have c2 := below_cell hSW (unhide C2) (unhide HL0); clear hSW; go_simp; all_goals (with_reducible rfl)
  (try simp only [Act.put, List.setIfInBounds_toArray, List.set_cons_zero, List.set_cons_succ])
  refine wpAnyH_ready (rs := [2]) (by kernel_rfl) (by simp) ?_
  refine consL rfl (fun K hK => ?_) AllReadyH.nil
  go_simp
  refine (blankDies_any D B P hD hB hP W2).mono ?_
  rintro e W3 ⟨g, bs, ps, hv, rfl, hg, hdies, hb3⟩
  go_wp2_with fail
  have HDI := hide hdies
  have HB3 := hide hb3
  refine hK.out _ _ (hb3) (fun hHeld => ?_)
  clear hK K HH
  have HH := hide hHeld
  clear hHeld
  (try simp only [Act.put, List.setIfInBounds_toArray, List.set_cons_zero, List.set_cons_succ])
  refine stronger (S' := fun W => Below W3.heap.size W3 W) (fun W h => (unhide HB3).trans (h.mono (unhide HB3).size)) _ _ _ _ ?_
  replace HH : Hid (Below W3.heap.size W3 W3) := Below.refl _ _
  clear hdies hb3
  refine takeL (i := 3) (v := ?_) rfl (by kernel_rfl) (by kernel_rfl) (by kernel_rfl) (fun _ _ _ h => h) (Or.inl ⟨by rfl, ?_⟩) (unhide HH) ?_
  rotate_left 1
  · intro W hSW; go_simp; all_goals (with_reducible rfl)
  (try simp only [Act.put, List.setIfInBounds_toArray, List.set_cons_zero, List.set_cons_succ])
  refine wpAnyH_ready (rs := [4]) (by kernel_rfl) (by simp) ?_
  refine consL rfl (fun K hK => ?_) AllReadyH.nil
  go_simp
  refine hK.out _ _ ((Below.refl _ _).alloc (Nat.le_refl _) _) (fun hHeld => ?_)
  clear hK K HH
  have HH := hide hHeld
  clear hHeld
  (try simp only [Act.put, List.setIfInBounds_toArray, List.set_cons_zero, List.set_cons_succ])
  refine takeL (i := 5) (v := ?_) rfl (by kernel_rfl) (by kernel_rfl) (by kernel_rfl) (fun _ _ _ h => h) (Or.inl ⟨by rfl, ?_⟩) (unhide HH) ?_
  rotate_left 1
  · intro W hSW; go_simp; all_goals (with_reducible rfl)
  (try simp only [Act.put, List.setIfInBounds_toArray, List.set_cons_zero, List.set_cons_succ])
  refine wpAnyH_done (by kernel_rfl) ?_ _
  refine NoPanic.normal ?_
  have hal : Below W3.heap.size W3 (W3.alloc (.cells #[.int .i64 (D : Int), .int .i64 (B : Int), .int .i64 (P : Int), .slice (some ⟨g, 0, none⟩) D D, .bool false, .int .i64 0, .slice none 0 0, .int .i64 0, .int .i64 0] 65)) := (Below.refl _ _).alloc (Nat.le_refl _) _
  have htop := World.alloc_heap_new W3 (.cells #[.int .i64 (D : Int), .int .i64 (B : Int), .int .i64 (P : Int), .slice (some ⟨g, 0, none⟩) D D, .bool false, .int .i64 0, .slice none 0 0, .int .i64 0, .int .i64 0] 65)
  have hb3z := (unhide HB3).size
  have hDI := ((unhide HDI).keep (M' := W2.heap.size) (Nat.le_refl _) (hal.block g (by obtain ⟨cur, h1, _⟩ := (unhide HDI).cells; exact lt_of_block h1)) (fun k _ hl => hal.block k hl))
  have hNA := NA.made (m := w.heap.size) hDI hD hB hP (by omega) (by omega) (by omega) htop
  have HB4 := hide (((unhide HB1).trans ((unhide HB3).mono (unhide HB1).size)).trans (hal.mono (by omega)))
  have HN4 := hide hNA
  generalize W3.alloc (.cells #[.int .i64 (D : Int), .int .i64 (B : Int), .int .i64 (P : Int), .slice (some ⟨g, 0, none⟩) D D, .bool false, .int .i64 0, .slice none 0 0, .int .i64 0, .int .i64 0] 65) = W4 at HB4 HN4 ⊢
  clear hal htop hDI hNA HDI HB3 HB1 C0 C1 C2 HH HL0
  obtain ⟨L, hL⟩ : ∃ L : La, ({ n := W3.heap.size, ds := g, bs, ps, hv, nv := fun _ _ _ => .slice none 0 0, mv := .slice none 0 0 } : La) = L := ⟨_, rfl⟩
  have hLn : W3.heap.size = L.n := by rw [← hL]
  rw [hL] at HN4
  rw [hLn]
  clear hL hLn
  have hll1 : (ll : Int) ≤ 9223372036854775807 := by unfold maxLen at hc2; omega
  go_wp2_with fail
  go_loopw [20] (fun p wr => ∃ i : Nat, p = .int .i64 i ∧ i ≤ ll ∧ Hid (NA w.heap.size wr L (blank D B P (badOf (l.take i)))) ∧ Hid (Below w.heap.size w wr) ∧ okB D B (l.take i)) (fun p _ => ll - (intOf p).toNat)
  case atStart => exact ⟨0, rfl, by omega, by rw [List.take_zero]; exact HN4, HB4, fun p hp => by simp at hp⟩
  case round =>
    obtain ⟨i, rfl, hi, HN, HBr, hok⟩ := hrel
    have HOK := hide hok
    clear hok HN4 HB4
    by_cases hlt : i < ll
    · have hi1 : (i : Int) < (ll : Int) := by omega
      have hlne : l ≠ [] := fun e => by have := unhide HLL; rw [e] at this; simp at this; omega
      obtain ⟨o, hao, hcell⟩ := unhide HROW hlne
      subst hao
      obtain ⟨q1, q2⟩ := hcell i (by rw [unhide HLL]; exact hlt)
      have hgl := unhide HLT hlne
      have r1 := below_cell (unhide HBr) q1 hgl
      have r2 := below_cell (unhide HBr) q2 hgl
      have HSO := hide (okB_snoc (D := D) (B := B) (l := l) (i := i) (by rw [unhide HLL]; exact hlt))
      have HSB : Hid (∀ d b, badOf (l.take (i + 1)) d b = if ((d : Int), (b : Int)) = l.getD i (0, 0) then true else badOf (l.take i) d b) := fun d b => badOf_snoc (by rw [unhide HLL]; exact hlt) d b
      obtain ⟨⟨x, y⟩, hxy⟩ : ∃ z, l.getD i (0, 0) = z := ⟨_, rfl⟩
      rw [hxy] at r1 r2 HSO HSB
      simp only at r1 r2 HSO
      have HXY := hide hxy
      clear hxy q1 q2 hcell hlne
      have hal : Below wr.heap.size wr (wr.alloc (.cells #[.int .i64 x, .int .i64 y] 55)) := (Below.refl _ _).alloc (Nat.le_refl _) _
      have hnew := World.alloc_heap_new wr (.cells #[.int .i64 x, .int .i64 y] 55)
      have p1 : (wr.alloc (.cells #[.int .i64 x, .int .i64 y] 55)).cell? ⟨wr.heap.size, 0, none⟩ = some (.int .i64 x) := cell_blk hnew rfl
      have p2 : (wr.alloc (.cells #[.int .i64 x, .int .i64 y] 55)).cell? ⟨wr.heap.size, 1, none⟩ = some (.int .i64 y) := cell_blk hnew rfl
      have HN5 := hide ((unhide HN).below hal)
      have HB5 := hide ((unhide HBr).trans (hal.mono (unhide HBr).size))
      clear hal hnew HN HBr
      go_wp2_with fail
      generalize wr.alloc (.cells #[.int .i64 x, .int .i64 y] 55) = W5 at HN5 HB5 ⊢
      clear p1 p2 r1 r2
      refine (block_any (unhide HN5) x y).mono ?_
      rintro e W5 ⟨rfl, rfl⟩
      by_cases hth : (0 ≤ x ∧ x < (D : Int)) ∧ 0 ≤ y ∧ y < (B : Int)
      · obtain ⟨d, rfl⟩ := Int.eq_ofNat_of_zero_le hth.1.1
        obtain ⟨b, rfl⟩ := Int.eq_ofNat_of_zero_le hth.2.1
        have hd : d < D := by omega
        have hb : b < B := by omega
        have hblk : (blank D B P (badOf (l.take i))).blk L (d : Int) (b : Int) = .pointer (some ⟨L.bs d, b * 4, none⟩) := by rw [Nd.blk, if_pos (show (blank D B P (badOf (l.take i))).There d b from hth)]; rfl
        rw [hblk]
        have hs := (unhide HN5).setB (d := d) (b := b) (i := 0) hd hb (by omega) (.bool true) (badOf (l.take (i + 1))) (fun _ _ => 0) (fun _ _ => 0) (fun _ _ => Nat.zero_le _) (fun d' b' j hd' hb' hj => by
          match j, hj with
          | 0, _ =>
            simp only [blkC, unhide HSB d' b']
            by_cases e : d' = d ∧ b' = b
            · obtain ⟨rfl, rfl⟩ := e
              rw [if_pos rfl, if_pos (by simp)]
            · rw [if_neg (fun h => by injection h with h1 h2; exact e ⟨by omega, by omega⟩), if_neg (fun h => e ⟨h.1, h.2.1⟩)]
              first | done | rfl
          | 1, _ => rw [if_neg (fun h => by have := h.2.2; omega)]; rfl
          | 2, _ => rw [if_neg (fun h => by have := h.2.2; omega)]; rfl
          | 3, _ => rw [if_neg (fun h => by have := h.2.2; omega)]; rfl)
        have hcc : W5.cell? ⟨L.bs d, b * 4, none⟩ = some (.bool (badOf (l.take i) d b)) := (unhide HN5).bc (j := 0) hd hb (by omega)
        have hff := (unhide HN5).bf (d := d) hd (b * 4)
        rw [Nat.add_zero] at hs
        have HN6 := hide hs.1
        have HB6 := hide ((unhide HB5).trans hs.2.below)
        have HOK2 := hide ((unhide HSO).2 ⟨unhide HOK, hth⟩)
        clear hs hblk hth
        go_wp2_with fail
        go_roundw
        case rel => exact ⟨i + 1, by go_num, by omega, HN6, HB6, unhide HOK2⟩
        case measure => simp [intOf]; omega
      · have hblk : (blank D B P (badOf (l.take i))).blk L x y = .pointer none := by rw [Nd.blk, if_neg (show ¬ (blank D B P (badOf (l.take i))).There x y from hth)]
        rw [hblk]
        have HNOT : Hid (¬ okB D B l) := fun hall => hth (hall (x, y) (by rw [← unhide HXY, List.getD_eq_getElem?_getD, List.getElem?_eq_getElem (by rw [unhide HLL]; exact hlt)]; exact List.getElem_mem _))
        clear hblk hth
        go_wp2_with fail
        go_returns
        exact ⟨unhide HB5, .inl ⟨unhide HNOT, rfl⟩⟩
    · obtain rfl : i = ll := by omega
      have htk : l.take i = l := by rw [← unhide HLL, List.take_length]
      rw [htk] at HN HOK
      clear htk
      go_wp2_with fail
      go_returns
      exact ⟨unhide HBr, .inr ⟨unhide HOK, L, rfl, unhide HN⟩⟩

end Go.Proofs.Ytnondiaefpdlpaa
