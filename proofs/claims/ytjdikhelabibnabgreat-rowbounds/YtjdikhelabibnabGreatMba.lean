/-
  ramekinref10.Bytes.
  What entry.Bytes answers has just the room of its own length.
-/
import Derived.Test.YtjdikhelabibnabGreatMay
import Derived.Test.YtjdikhelabibnabGreatMau
namespace Go.Proofs.YtjdikhelabibnabGreat
open Go.RowKit Go.Shelf

theorem owns_below10 {w w' : World} {base n size : Nat} {e : TypeId} {v : Value} {xs : List Value} (h : w.ownsRow base e size v n xs) (k : Below w.heap.size w w') : w'.ownsRow base e size v n xs :=
  (Kp.ofBelow (Kp.refl [] w) k).owns h (by simp)
theorem World.ownsRow_mono10 {w : World} {b b' : Nat} {e : TypeId} {size : Nat} {v : Value} {n : Nat} {xs : List Value} (h : w.ownsRow b e size v n xs) (hb : b' ≤ b) : w.ownsRow b' e size v n xs := by
  refine ⟨h.1, ?_⟩
  rcases h.2 with hx | ⟨g, cap, cur, h1, h2, h3⟩
  · exact .inl hx
  · exact .inr ⟨g, cap, cur, h1, by omega, h3⟩
theorem ints_getD10 (d : List Nat) (j : Nat) : (ints d).getD j 0 = ((cf d j : Nat) : Int) := by
  unfold ints
  rw [List.getD_eq_getElem?_getD, List.getElem?_map]
  by_cases h : j < d.length
  · rw [cf_get h]
    rfl
  · rw [List.getElem?_eq_none (by omega), cf_ge (by omega)]
    rfl
theorem kp_below10 {w w' : World} {base : Nat} {e : TypeId} {v : Value} {n : Nat} {xs : List Value} (hk : Kp v.ownBlock.toList w w') (ho : w.ownsRow base e 1 v n xs) (hb : base ≤ w.heap.size) : Below base w w' := by
  refine ⟨hk.os, hk.tape, hk.output, hk.size, fun k h => hk.block k (by omega) (fun hm => ?_)⟩
  rcases ho.2 with ⟨rfl, _⟩ | ⟨g, cap, cur, rfl, hg, _⟩
  · simp [Value.ownBlock] at hm
  · simp [Value.ownBlock] at hm
    omega

set_option maxRecDepth 100000 in
set_option maxHeartbeats 8000000 in
theorem rbytes_any (x0 x1 x2 x3 k l s : Int) (d : List Nat) (hd : d.length = 16) (w : World) : Calls Tryz.prog 15 #[.agg (headA x0 x1 x2 x3), .agg (entA k l s d)] w fun e w' =>
    ∃ g c, e = .returned (.slice (some ⟨g, 0, none⟩) 48 c) ∧ w'.ownsRow w.heap.size 5 1 (.slice (some ⟨g, 0, none⟩) 48 c) 48 ((byT x0 x1 x2 x3 k l s d).map (Value.int .u8)) ∧ Below w.heap.size w w' := by
  obtain ⟨w1, hw1⟩ : ∃ w1, (w.alloc (.cells (headA x0 x1 x2 x3) 52)).alloc (.cells (entA k l s d) 46) = w1 := ⟨_, rfl⟩
  have HT : Hid (Below w.heap.size w w1) := by rw [← hw1]; exact ((Below.refl _ w).alloc (Nat.le_refl _) _).alloc (by simp) _
  obtain ⟨base, hbase⟩ : ∃ b, w1.heap.size = b := ⟨_, rfl⟩
  have hz : w1.heap.size = w.heap.size + 2 := by rw [← hw1]; simp
  have HBH : Hid (AtB w1 w.heap.size (headA x0 x1 x2 x3) 52) := ⟨by rw [← hw1]; exact (Below.heap_alloc _ _ _ (by simp)).trans (World.alloc_heap_new w _)⟩
  have HBE : Hid (AtB w1 (w.heap.size + 1) (entA k l s d) 46) := ⟨by
    rw [← hw1]
    have := World.alloc_heap_new (w.alloc (.cells (headA x0 x1 x2 x3) 52)) (.cells (entA k l s d) 46)
    rwa [World.size_alloc] at this⟩
  have HBS : Hid (w.heap.size ≤ base ∧ w.heap.size < base ∧ w.heap.size + 1 < base) := ⟨by omega, by omega, by omega⟩
  have HSZ : Hid (base ≤ w1.heap.size) := by unfold Hid; omega
  obtain ⟨i0, hi0, hz0, hzz1, hz2⟩ := info_parts infoE
  have HI0 := hide hi0
  clear hi0
  have c0 : w1.cell? ⟨w.heap.size, 0, none⟩ = some (.int .i64 x0) := cell_blk (unhide HBH).blk rfl
  have HBA := hide hbase
  clear hbase hz
  go_enter Tryz.func15, Tryz.ntmps15
  go_wp2_with fail
  clear hw1
  refine (xwint (.slice none 0 0) 0 [] x0 base w1 (World.ownsRow_nil _ _ _ _) (by omega) (unhide HSZ)).mono ?_
  rintro e w2 ⟨g2, c2, rfl, ho, hk, -⟩
  have hkb : Below base w1 w2 := kp_below10 (e := 5) hk (World.ownsRow_nil _ _ _ _) (unhide HSZ)
  replace HT := hide ((unhide HT).trans (hkb.mono (unhide HBS).1))
  replace HBH := hide (AtB.mk ((hkb.block _ (unhide HBS).2.1).trans (unhide HBH).blk))
  replace HBE := hide (AtB.mk ((hkb.block _ (unhide HBS).2.2).trans (unhide HBE).blk))
  replace HSZ : Hid (base ≤ w2.heap.size) := Nat.le_trans (unhide HSZ) hkb.size
  have HO := hide ho
  clear ho hk hkb c0
  go_wp2_with fail
  replace HT := hide ((unhide HT).drew)
  replace HBH := hide ((unhide HBH).below (Below.refl _ _).drew)
  replace HBE := hide ((unhide HBE).below (Below.refl _ _).drew)
  have HO21 : Hid (w2.drew.ownsRow base 5 1 (.slice (some ⟨g2, 0, none⟩) 8 c2) 8 ((([] ++ by8 8 (IntKind.u64.wrap x0))).map (Value.int .u8))) := owns_below10 (unhide HO) (Below.refl _ _).drew
  replace HSZ : Hid (base ≤ w2.drew.heap.size) := unhide HSZ
  refine wp_region_noPanic ?_
  refine wp_region_held_drew (S := fun V => Below base w2.drew V) (by kernel_rfl) (Below.refl _ _) (fun hHeld => ?_)
  have HH := hide hHeld
  clear hHeld
  generalize w2.drew = w21 at HT HBH HBE HO21 HSZ HH ⊢
  have HSW := HSZ
  refine takeL (i := 0) (v := ?_) rfl (by kernel_rfl) (by kernel_rfl) (by kernel_rfl) (fun _ _ _ h => h) (Or.inl ⟨by rfl, ?_⟩) (unhide HH) ?_
  rotate_left 1
  · intro W hSW; go_simp; all_goals (with_reducible rfl)
  (try simp only [Act.put, List.setIfInBounds_toArray, List.set_cons_zero, List.set_cons_succ])
  refine takeL (i := 1) (v := ?_) rfl (by kernel_rfl) (by kernel_rfl) (by kernel_rfl) (fun _ _ _ h => h) (Or.inl ⟨by rfl, ?_⟩) (unhide HH) ?_
  rotate_left 1
  · intro W hSW; go_simp; all_goals (with_reducible rfl)
  (try simp only [Act.put, List.setIfInBounds_toArray, List.set_cons_zero, List.set_cons_succ])
  refine takeL (i := 2) (v := ?_) rfl (by kernel_rfl) (by kernel_rfl) (by kernel_rfl) (fun _ _ _ h => h) (Or.inl ⟨by rfl, ?_⟩) (unhide HH) ?_
  rotate_left 1
  · intro V hSV; have hcl : V.cell? ⟨w.heap.size, 1, none⟩ = some (.int .i64 x1) := cell_blk ((hSV.block _ (unhide HBS).2.1).trans (unhide HBH).blk) rfl; clear hSV; go_simp; all_goals (with_reducible rfl)
  (try simp only [Act.put, List.setIfInBounds_toArray, List.set_cons_zero, List.set_cons_succ])
  refine takeL (i := 4) (v := ?_) rfl (by kernel_rfl) (by kernel_rfl) (by kernel_rfl) (fun _ _ _ h => h) (Or.inl ⟨by rfl, ?_⟩) (unhide HH) ?_
  rotate_left 1
  · intro W hSW; go_simp; all_goals (with_reducible rfl)
  (try simp only [Act.put, List.setIfInBounds_toArray, List.set_cons_zero, List.set_cons_succ])
  refine takeL (i := 5) (v := ?_) rfl (by kernel_rfl) (by kernel_rfl) (by kernel_rfl) (fun _ _ _ h => h) (Or.inl ⟨by rfl, ?_⟩) (unhide HH) ?_
  rotate_left 1
  · intro V hSV; have hcl : V.cell? ⟨w.heap.size, 2, none⟩ = some (.int .i64 x2) := cell_blk ((hSV.block _ (unhide HBS).2.1).trans (unhide HBH).blk) rfl; clear hSV; go_simp; all_goals (with_reducible rfl)
  (try simp only [Act.put, List.setIfInBounds_toArray, List.set_cons_zero, List.set_cons_succ])
  refine takeL (i := 7) (v := ?_) rfl (by kernel_rfl) (by kernel_rfl) (by kernel_rfl) (fun _ _ _ h => h) (Or.inl ⟨by rfl, ?_⟩) (unhide HH) ?_
  rotate_left 1
  · intro W hSW; go_simp; all_goals (with_reducible rfl)
  (try simp only [Act.put, List.setIfInBounds_toArray, List.set_cons_zero, List.set_cons_succ])
  refine takeL (i := 8) (v := ?_) rfl (by kernel_rfl) (by kernel_rfl) (by kernel_rfl) (fun _ _ _ h => h) (Or.inl ⟨by rfl, ?_⟩) (unhide HH) ?_
  rotate_left 1
  · intro V hSV; have hcl : V.cell? ⟨w.heap.size, 3, none⟩ = some (.int .i64 x3) := cell_blk ((hSV.block _ (unhide HBS).2.1).trans (unhide HBH).blk) rfl; clear hSV; go_simp; all_goals (with_reducible rfl)
  (try simp only [Act.put, List.setIfInBounds_toArray, List.set_cons_zero, List.set_cons_succ])
  refine takeL (i := 10) (v := ?_) rfl (by kernel_rfl) (by kernel_rfl) (by kernel_rfl) (fun _ _ _ h => h) (Or.inl ⟨by rfl, ?_⟩) (unhide HH) ?_
  rotate_left 1
  · intro W hSW; go_simp; all_goals (with_reducible rfl)
  (try simp only [Act.put, List.setIfInBounds_toArray, List.set_cons_zero, List.set_cons_succ])
  refine takeL (i := 11) (v := ?_) rfl (by kernel_rfl) (by kernel_rfl) (by kernel_rfl) (fun _ _ _ h => h) (Or.inl ⟨by rfl, ?_⟩) (unhide HH) ?_
  rotate_left 1
  · intro V hSV; have hcl : V.cell? ⟨w.heap.size + 1, 0, none⟩ = some (.int .i64 k) := cell_blk ((hSV.block _ (unhide HBS).2.2).trans (unhide HBE).blk) rfl; clear hSV; go_simp; all_goals (with_reducible rfl)
  (try simp only [Act.put, List.setIfInBounds_toArray, List.set_cons_zero, List.set_cons_succ])
  refine wpAnyH_ready (rs := [3]) (by kernel_rfl) (by simp) ?_
  refine consL rfl (fun K hK => ?_) AllReadyH.nil
  go_simp
  refine (xwbyte (.slice (some ⟨g2, 0, none⟩) 8 c2) 8 (([] ++ by8 8 (IntKind.u64.wrap x0))) x1 base _ (unhide HO21) (by omega) (unhide HSW)).mono ?_
  rintro e w22 ⟨g22, c22, rfl, ho, hk, -⟩
  have hS : Below base w21 w22 := (unhide HH).trans (kp_below10 hk (unhide HO21) (unhide HSW))
  replace HSW : Hid (base ≤ w22.heap.size) := Nat.le_trans (unhide HSW) hk.size
  have HO22 := hide ho
  clear ho hk
  refine hK.out _ _ hS (fun hHeld => ?_)
  clear hK K HH hS
  have HH := hide hHeld
  clear hHeld
  (try simp only [Act.put, List.setIfInBounds_toArray, List.set_cons_zero, List.set_cons_succ])
  refine wpAnyH_ready (rs := [6]) (by kernel_rfl) (by simp) ?_
  refine consL rfl (fun K hK => ?_) AllReadyH.nil
  go_simp
  refine (xwbyte (.slice (some ⟨g22, 0, none⟩) 9 c22) 9 ((([] ++ by8 8 (IntKind.u64.wrap x0)) ++ [x1 % 256])) x2 base _ (unhide HO22) (by omega) (unhide HSW)).mono ?_
  rintro e w23 ⟨g23, c23, rfl, ho, hk, -⟩
  have hS : Below base w21 w23 := (unhide HH).trans (kp_below10 hk (unhide HO22) (unhide HSW))
  replace HSW : Hid (base ≤ w23.heap.size) := Nat.le_trans (unhide HSW) hk.size
  have HO23 := hide ho
  clear ho hk
  refine hK.out _ _ hS (fun hHeld => ?_)
  clear hK K HH hS
  have HH := hide hHeld
  clear hHeld
  (try simp only [Act.put, List.setIfInBounds_toArray, List.set_cons_zero, List.set_cons_succ])
  refine wpAnyH_ready (rs := [9]) (by kernel_rfl) (by simp) ?_
  refine consL rfl (fun K hK => ?_) AllReadyH.nil
  go_simp
  refine (xwbyte (.slice (some ⟨g23, 0, none⟩) 10 c23) 10 (((([] ++ by8 8 (IntKind.u64.wrap x0)) ++ [x1 % 256]) ++ [x2 % 256])) x3 base _ (unhide HO23) (by omega) (unhide HSW)).mono ?_
  rintro e w24 ⟨g24, c24, rfl, ho, hk, -⟩
  have hS : Below base w21 w24 := (unhide HH).trans (kp_below10 hk (unhide HO23) (unhide HSW))
  replace HSW : Hid (base ≤ w24.heap.size) := Nat.le_trans (unhide HSW) hk.size
  have HO24 := hide ho
  clear ho hk
  refine hK.out _ _ hS (fun hHeld => ?_)
  clear hK K HH hS
  have HH := hide hHeld
  clear hHeld
  (try simp only [Act.put, List.setIfInBounds_toArray, List.set_cons_zero, List.set_cons_succ])
  refine wpAnyH_ready (rs := [12]) (by kernel_rfl) (by simp) ?_
  refine consL rfl (fun K hK => ?_) AllReadyH.nil
  go_simp
  refine (xwbyte (.slice (some ⟨g24, 0, none⟩) 11 c24) 11 ((((([] ++ by8 8 (IntKind.u64.wrap x0)) ++ [x1 % 256]) ++ [x2 % 256]) ++ [x3 % 256])) k base _ (unhide HO24) (by omega) (unhide HSW)).mono ?_
  rintro e w25 ⟨g25, c25, rfl, ho, hk, -⟩
  have hS : Below base w21 w25 := (unhide HH).trans (kp_below10 hk (unhide HO24) (unhide HSW))
  replace HSW : Hid (base ≤ w25.heap.size) := Nat.le_trans (unhide HSW) hk.size
  have HO25 := hide ho
  clear ho hk
  refine hK.out _ _ hS (fun hHeld => ?_)
  clear hK K HH hS
  have HH := hide hHeld
  clear hHeld
  (try simp only [Act.put, List.setIfInBounds_toArray, List.set_cons_zero, List.set_cons_succ])
  refine takeL (i := 13) (v := ?_) rfl (by kernel_rfl) (by kernel_rfl) (by kernel_rfl) (fun _ _ _ h => h) (Or.inl ⟨by rfl, ?_⟩) (unhide HH) ?_
  rotate_left 1
  · intro W hSW; go_simp; all_goals (with_reducible rfl)
  (try simp only [Act.put, List.setIfInBounds_toArray, List.set_cons_zero, List.set_cons_succ])
  refine wpAnyH_done (by kernel_rfl) ?_ _
  refine NoPanic.normal ?_
  replace HT := hide ((unhide HT).trans ((unhide HH).mono (unhide HBS).1))
  replace HBH := hide (AtB.mk (((unhide HH).block _ (unhide HBS).2.1).trans (unhide HBH).blk))
  replace HBE := hide (AtB.mk (((unhide HH).block _ (unhide HBS).2.2).trans (unhide HBE).blk))
  replace HSZ := HSW
  clear HSW HH
  go_wp2_with fail
  replace HT := hide ((unhide HT).drew)
  replace HBH := hide ((unhide HBH).below (Below.refl _ _).drew)
  replace HBE := hide ((unhide HBE).below (Below.refl _ _).drew)
  have HO26 : Hid (w25.drew.ownsRow base 5 1 (.slice (some ⟨g25, 0, none⟩) 12 c25) 12 ((((((([] ++ by8 8 (IntKind.u64.wrap x0)) ++ [x1 % 256]) ++ [x2 % 256]) ++ [x3 % 256]) ++ [k % 256])).map (Value.int .u8))) := owns_below10 (unhide HO25) (Below.refl _ _).drew
  replace HSZ : Hid (base ≤ w25.drew.heap.size) := unhide HSZ
  refine wp_region_noPanic ?_
  refine wp_region_held_drew (S := fun V => Below base w25.drew V) (by kernel_rfl) (Below.refl _ _) (fun hHeld => ?_)
  have HH := hide hHeld
  clear hHeld
  generalize w25.drew = w26 at HT HBH HBE HO26 HSZ HH ⊢
  have HSW := HSZ
  refine takeL (i := 0) (v := ?_) rfl (by kernel_rfl) (by kernel_rfl) (by kernel_rfl) (fun _ _ _ h => h) (Or.inl ⟨by rfl, ?_⟩) (unhide HH) ?_
  rotate_left 1
  · intro W hSW; go_simp; all_goals (with_reducible rfl)
  (try simp only [Act.put, List.setIfInBounds_toArray, List.set_cons_zero, List.set_cons_succ])
  refine takeL (i := 1) (v := ?_) rfl (by kernel_rfl) (by kernel_rfl) (by kernel_rfl) (fun _ _ _ h => h) (Or.inl ⟨by rfl, ?_⟩) (unhide HH) ?_
  rotate_left 1
  · intro W hSW; go_simp; all_goals (with_reducible rfl)
  (try simp only [Act.put, List.setIfInBounds_toArray, List.set_cons_zero, List.set_cons_succ])
  refine takeL (i := 2) (v := ?_) rfl (by kernel_rfl) (by kernel_rfl) (by kernel_rfl) (fun _ _ _ h => h) (Or.inl ⟨by rfl, ?_⟩) (unhide HH) ?_
  rotate_left 1
  · intro V hSV; have hcl : V.cell? ⟨w.heap.size + 1, 1, none⟩ = some (.int .i64 l) := cell_blk ((hSV.block _ (unhide HBS).2.2).trans (unhide HBE).blk) rfl; clear hSV; go_simp; all_goals (with_reducible rfl)
  (try simp only [Act.put, List.setIfInBounds_toArray, List.set_cons_zero, List.set_cons_succ])
  refine takeL (i := 4) (v := ?_) rfl (by kernel_rfl) (by kernel_rfl) (by kernel_rfl) (fun _ _ _ h => h) (Or.inl ⟨by rfl, ?_⟩) (unhide HH) ?_
  rotate_left 1
  · intro W hSW; go_simp; all_goals (with_reducible rfl)
  (try simp only [Act.put, List.setIfInBounds_toArray, List.set_cons_zero, List.set_cons_succ])
  refine takeL (i := 5) (v := ?_) rfl (by kernel_rfl) (by kernel_rfl) (by kernel_rfl) (fun _ _ _ h => h) (Or.inl ⟨by rfl, ?_⟩) (unhide HH) ?_
  rotate_left 1
  · intro V hSV; have hcl : V.cell? ⟨w.heap.size + 1, 2, none⟩ = some (.int .i64 s) := cell_blk ((hSV.block _ (unhide HBS).2.2).trans (unhide HBE).blk) rfl; clear hSV; go_simp; all_goals (with_reducible rfl)
  (try simp only [Act.put, List.setIfInBounds_toArray, List.set_cons_zero, List.set_cons_succ])
  refine takeL (i := 7) (v := ?_) rfl (by kernel_rfl) (by kernel_rfl) (by kernel_rfl) (fun _ _ _ h => h) (Or.inl ⟨by rfl, ?_⟩) (unhide HH) ?_
  rotate_left 1
  · intro W hSW; go_simp; all_goals (with_reducible rfl)
  (try simp only [Act.put, List.setIfInBounds_toArray, List.set_cons_zero, List.set_cons_succ])
  refine takeL (i := 8) (v := ?_) rfl (by kernel_rfl) (by kernel_rfl) (by kernel_rfl) (fun _ _ _ h => h) (Or.inl ⟨by rfl, ?_⟩) (unhide HH) ?_
  rotate_left 1
  · intro W hSW; go_simp; all_goals (with_reducible rfl)
  (try simp only [Act.put, List.setIfInBounds_toArray, List.set_cons_zero, List.set_cons_succ])
  refine wpAnyH_ready (rs := [3]) (by kernel_rfl) (by simp) ?_
  refine consL rfl (fun K hK => ?_) AllReadyH.nil
  go_simp
  refine (xwint (.slice (some ⟨g25, 0, none⟩) 12 c25) 12 (((((([] ++ by8 8 (IntKind.u64.wrap x0)) ++ [x1 % 256]) ++ [x2 % 256]) ++ [x3 % 256]) ++ [k % 256])) l base _ (unhide HO26) (by omega) (unhide HSW)).mono ?_
  rintro e w27 ⟨g27, c27, rfl, ho, hk, -⟩
  have hS : Below base w26 w27 := (unhide HH).trans (kp_below10 hk (unhide HO26) (unhide HSW))
  replace HSW : Hid (base ≤ w27.heap.size) := Nat.le_trans (unhide HSW) hk.size
  have HO27 := hide ho
  clear ho hk
  refine hK.out _ _ hS (fun hHeld => ?_)
  clear hK K HH hS
  have HH := hide hHeld
  clear hHeld
  (try simp only [Act.put, List.setIfInBounds_toArray, List.set_cons_zero, List.set_cons_succ])
  refine wpAnyH_ready (rs := [6]) (by kernel_rfl) (by simp) ?_
  refine consL rfl (fun K hK => ?_) AllReadyH.nil
  go_simp
  refine (xwint (.slice (some ⟨g27, 0, none⟩) 20 c27) 20 ((((((([] ++ by8 8 (IntKind.u64.wrap x0)) ++ [x1 % 256]) ++ [x2 % 256]) ++ [x3 % 256]) ++ [k % 256]) ++ by8 8 (IntKind.u64.wrap l))) s base _ (unhide HO27) (by omega) (unhide HSW)).mono ?_
  rintro e w28 ⟨g28, c28, rfl, ho, hk, -⟩
  have hS : Below base w26 w28 := (unhide HH).trans (kp_below10 hk (unhide HO27) (unhide HSW))
  replace HSW : Hid (base ≤ w28.heap.size) := Nat.le_trans (unhide HSW) hk.size
  have HO28 := hide ho
  clear ho hk
  refine hK.out _ _ hS (fun hHeld => ?_)
  clear hK K HH hS
  have HH := hide hHeld
  clear hHeld
  (try simp only [Act.put, List.setIfInBounds_toArray, List.set_cons_zero, List.set_cons_succ])
  refine wpAnyH_ready (rs := [9]) (by kernel_rfl) (by simp) ?_
  refine consL rfl (fun K hK => ?_) AllReadyH.nil
  refine wp_append_b (.tmp 28) (.tmp 30) (by rfl) base _ 28 _ (ints d) (by rfl) (unhide HO28) _ (w.heap.size + 1) 16 _ (by rfl) (by rw [ints_len10]; exact hd) (.inr ⟨3, rfl, fun j hj => ?_⟩) (fun h => by cases h) (by omega) (unhide HSW) ?_
  · rw [ints_len10, hd] at hj
    have h1 := cell_blk (w := w28) (AtB.mk (((unhide HH).block _ (unhide HBS).2.2).trans (unhide HBE).blk)).blk ((entA_d k l s d j).trans (datL_get (by omega)))
    rw [h1, ints_getD10]
  intro v29 w29 ho hg
  rw [← List.map_append] at ho
  obtain ⟨g29, c29, rfl⟩ := ownsRow_succ (k := 43) ho
  have hS : Below base w26 w29 := below_grown (unhide HH) hg (unhide HSW) (fun k hk => ((unhide HO28).lt k hk).1)
  replace HSW : Hid (base ≤ w29.heap.size) := Nat.le_trans (unhide HSW) hg.size
  have HO29 := hide ho
  clear ho hg
  refine hK.out _ _ hS (fun hHeld => ?_)
  clear hK K HH hS
  have HH := hide hHeld
  clear hHeld
  (try simp only [Act.put, List.setIfInBounds_toArray, List.set_cons_zero, List.set_cons_succ])
  refine takeL (i := 10) (v := ?_) rfl (by kernel_rfl) (by kernel_rfl) (by kernel_rfl) (fun _ _ _ h => h) (Or.inl ⟨by rfl, ?_⟩) (unhide HH) ?_
  rotate_left 1
  · intro W hSW; go_simp; all_goals (with_reducible rfl)
  (try simp only [Act.put, List.setIfInBounds_toArray, List.set_cons_zero, List.set_cons_succ])
  refine wpAnyH_done (by kernel_rfl) ?_ _
  refine NoPanic.normal ?_
  replace HT := hide ((unhide HT).trans ((unhide HH).mono (unhide HBS).1))
  replace HBH := hide (AtB.mk (((unhide HH).block _ (unhide HBS).2.1).trans (unhide HBH).blk))
  replace HBE := hide (AtB.mk (((unhide HH).block _ (unhide HBS).2.2).trans (unhide HBE).blk))
  replace HSZ := HSW
  clear HSW HH
  go_wp2_with (at_builtin; refine wpList_append_zeros _ rfl _ _ 33 3 rfl base 5 i0 Tryz.underlying33 Tryz.underlying3 (unhide HI0) hz0 hzz1 hz2 g29 44 c29 ((((((((([] ++ by8 8 (IntKind.u64.wrap x0)) ++ [x1 % 256]) ++ [x2 % 256]) ++ [x3 % 256]) ++ [k % 256]) ++ by8 8 (IntKind.u64.wrap l)) ++ by8 8 (IntKind.u64.wrap s)) ++ ints d)) rfl (unhide HO29) 4 rfl (by omega) (by omega) (unhide HSZ) ?_)
  intro g9 c9 w9 ys hys ho hg
  have hl : ys = byT x0 x1 x2 x3 k l s d := by rw [← unhide hys]; simp [byT, byW, ints]
  subst hl
  have hb9 : Below w.heap.size w w9 := below_grown (unhide HT) hg (unhide HT).size (fun k hk => by cases hk; have h1 := ((unhide HO29).lt g29 rfl).1; have h2 := (unhide HBS).1; omega)
  have HO9 := hide (World.ownsRow_mono10 ho (unhide HBS).1)
  have HB9 := hide hb9
  clear ho hg hys hb9
  go_wp2
  go_ret
  exact ⟨g9, c9, rfl, unhide HO9, unhide HB9⟩
end Go.Proofs.YtjdikhelabibnabGreat

namespace Go.Proofs.YtjdikhelabibnabGreat
open Go.RowKit Go.Shelf
attribute [local go_sem] Oper.semAt_some

theorem own_type10 {w : World} {base g n c m : Nat} {xs : List Value} (h : w.ownsRow base 5 1 (.slice (some ⟨g, 0, none⟩) n c) m xs) : ∃ cur, w.heap[g]? = some (.cells cur 5 (0, 0)) := by
  rcases h.2 with ⟨h', -⟩ | ⟨q, cap, cur, h1, -, h3, -⟩
  · cases h'
  · cases h1; exact ⟨cur, h3⟩
set_option maxRecDepth 100000 in
set_option maxHeartbeats 8000000 in
theorem put_sevqE (atf C B off m : Nat) (d : List Nat) (a : Option Addr) (g n c : Nat) (zs : List Int) (w : World) (hn : n ≤ 1000) (hl : zs.length = n) (hnc : n ≤ c ∧ c ≤ n) (hr : Row w a g zs) (he : Ent10 atf) (hat : AtS atf off m) (hm : m ≤ 100) (hd : d.length = m) (hb : ∀ j, cf d j < 256)
    (hC : w.cell? ⟨C, 0, none⟩ = some (.func (.func atf) #[] #[])) (hB : ∀ j, j < m → w.cell? ⟨B, off + j, none⟩ = some (.int .u8 ((cf d j : Nat) : Int))) :
    Calls Tryz.prog 119 #[.slice a n c, .pointer (some ⟨B, 0, none⟩), .pointer (some ⟨C, 0, none⟩)] w fun e w' => ∃ a' g' c', e = .returned (.slice a' (n + m) c') ∧ (n + m ≤ c' ∧ c' ≤ n + m) ∧ Row w' a' g' (zs ++ ints d) ∧ Kp [] w w' := by
  have HR := hide hr
  have HAT := hide hat
  have HB := hide hB
  have hBlt : 0 < m → B < w.heap.size := fun h => by have := block_lt_of_cell (hB 0 h); simpa using this
  clear hr hat hB
  go_enter Tryz.func119, Tryz.ntmps119
  go_wp2_with fail
  refine (unhide HAT B w).mono ?_
  rintro x w1 ⟨rfl, rfl⟩
  go_wp2_with fail
  go_loopw [0, 12] (fun b i wr => ∃ (k : Nat) (a' : Option Addr) (g' c' : Nat), k ≤ m ∧ i = .int .i64 k ∧ b = .slice a' (n + k) c' ∧ (n + k ≤ c' ∧ c' ≤ n + k) ∧ Kp [] w1 wr ∧ Row wr a' g' (zs ++ ints (d.take k))) (fun _ i _ => m - (intOf i).toNat)
  case atStart => exact ⟨0, a, g, c, by omega, rfl, rfl, hnc, Kp.refl _ _, by simpa [ints] using unhide HR⟩
  case round =>
    obtain ⟨k, a', g', c', hk, rfl, rfl, hkc, hK, hr⟩ := hrel
    have HK := hide hK
    have HR1 := hide hr
    clear hK hr
    by_cases hlt : k < m
    · have hk' : k < d.length := by omega
      have hc0 : wr.cell? ⟨B, off + k, none⟩ = some (.int .u8 ((cf d k : Nat) : Int)) := (unhide HK).cell (unhide HB k hlt) (by simp)
      go_wp2_with fail
      refine (byte_any a' g' (n + k) c' _ (zs ++ ints (d.take k)) _ (by omega) (by rw [List.length_append, hl]; simp [ints]; omega) (unhide HR1)).mono ?_
      rintro x w2 ⟨q, rfl, hq, ho, hk2⟩
      have HR2 := hide (row_of_owns ho)
      have HK2 : Hid (Kp [] w1 w2) := (unhide HK).trans hk2 (by simp)
      clear ho hk2 hc0
      go_wp2
      go_roundw
      case rel =>
        refine ⟨k + 1, some ⟨q, 0, none⟩, q, n + k + 1, by omega, by go_num, rfl, by omega, unhide HK2, ?_⟩
        rw [ints_take10 hk', ← List.append_assoc, ← by8_one10 (hb k)]
        exact unhide HR2
      case measure => simp [intOf]; omega
    · have : k = m := by omega
      subst this
      go_wp2
      go_ret
      refine ⟨a', g', c', rfl, hkc, ?_, unhide HK⟩
      have := unhide HR1
      rwa [List.take_of_length_le (by omega)] at this

set_option maxRecDepth 100000 in
set_option maxHeartbeats 8000000 in
theorem put_sevqT (atf C B off m : Nat) (d : List Nat) (a : Option Addr) (g n c : Nat) (zs : List Int) (w : World) (hn : n ≤ 1000) (hl : zs.length = n) (hnc : n ≤ c ∧ c ≤ n) (hr : Row w a g zs) (he : Ent10 atf) (hat : AtS atf off m) (hm : m ≤ 100) (hd : d.length = m) (hb : ∀ j, cf d j < 256)
    (hC : w.cell? ⟨C, 0, none⟩ = some (.func (.func atf) #[] #[])) (hB : ∀ j, j < m → w.cell? ⟨B, off + j, none⟩ = some (.int .u8 ((cf d j : Nat) : Int))) :
    Calls Tryz.prog 121 #[.slice a n c, .pointer (some ⟨B, 0, none⟩), .pointer (some ⟨C, 0, none⟩)] w fun e w' => ∃ a' g' c', e = .returned (.slice a' (n + m) c') ∧ (n + m ≤ c' ∧ c' ≤ n + m) ∧ Row w' a' g' (zs ++ ints d) ∧ Kp [] w w' ∧ (0 < m → ∃ cur, w'.heap[g']? = some (.cells cur 5 (0, 0))) := by
  have HR := hide hr
  have HAT := hide hat
  have HB := hide hB
  have hBlt : 0 < m → B < w.heap.size := fun h => by have := block_lt_of_cell (hB 0 h); simpa using this
  clear hr hat hB
  go_enter Tryz.func121, Tryz.ntmps121
  go_wp2_with fail
  refine (unhide HAT B w).mono ?_
  rintro x w1 ⟨rfl, rfl⟩
  go_wp2_with fail
  go_loopw [0, 12] (fun b i wr => ∃ (k : Nat) (a' : Option Addr) (g' c' : Nat), k ≤ m ∧ i = .int .i64 k ∧ b = .slice a' (n + k) c' ∧ (n + k ≤ c' ∧ c' ≤ n + k) ∧ Kp [] w1 wr ∧ Row wr a' g' (zs ++ ints (d.take k)) ∧ (0 < k → ∃ cur, wr.heap[g']? = some (.cells cur 5 (0, 0)))) (fun _ i _ => m - (intOf i).toNat)
  case atStart => exact ⟨0, a, g, c, by omega, rfl, rfl, hnc, Kp.refl _ _, by simpa [ints] using unhide HR, fun h => absurd h (by omega)⟩
  case round =>
    obtain ⟨k, a', g', c', hk, rfl, rfl, hkc, hK, hr, hty⟩ := hrel
    have HTY := hide hty
    clear hty
    have HK := hide hK
    have HR1 := hide hr
    clear hK hr
    by_cases hlt : k < m
    · have hk' : k < d.length := by omega
      have hc0 : wr.cell? ⟨B, off + k, none⟩ = some (.int .u8 ((cf d k : Nat) : Int)) := (unhide HK).cell (unhide HB k hlt) (by simp)
      go_wp2_with fail
      refine (byte_any a' g' (n + k) c' _ (zs ++ ints (d.take k)) _ (by omega) (by rw [List.length_append, hl]; simp [ints]; omega) (unhide HR1)).mono ?_
      rintro x w2 ⟨q, rfl, hq, ho, hk2⟩
      have HR2 := hide (row_of_owns ho)
      have HT2 := hide (own_type10 ho)
      have HK2 : Hid (Kp [] w1 w2) := (unhide HK).trans hk2 (by simp)
      clear ho hk2 hc0
      go_wp2
      go_roundw
      case rel =>
        refine ⟨k + 1, some ⟨q, 0, none⟩, q, n + k + 1, by omega, by go_num, rfl, by omega, unhide HK2, ?_, fun _ => unhide HT2⟩
        rw [ints_take10 hk', ← List.append_assoc, ← by8_one10 (hb k)]
        exact unhide HR2
      case measure => simp [intOf]; omega
    · have : k = m := by omega
      subst this
      go_wp2
      go_ret
      refine ⟨a', g', c', rfl, hkc, ?_, unhide HK, unhide HTY⟩
      have := unhide HR1
      rwa [List.take_of_length_le (by omega)] at this
set_option maxRecDepth 100000 in
set_option maxHeartbeats 8000000 in
theorem writeH_fit (L : Nat) (c : Nat → Nat) (x0 x1 x2 x3 : Int) (a : Option Addr) (g n cc : Nat) (zs : List Int) (w : World) (hn : n ≤ 100) (hl : zs.length = n) (hnc : n ≤ cc ∧ cc ≤ n) (hr : Row w a g zs) (hL : LayH w L c) :
    Calls Tryz.prog 50 #[.slice (some ⟨L, 0, none⟩) 4 4, .slice a n cc, .agg (headA x0 x1 x2 x3)] w fun e w' => ∃ a' g' c', e = .returned (.slice a' (zs ++ fin10 (owH x0 x1 x2 x3) 4).length c') ∧ ((zs ++ fin10 (owH x0 x1 x2 x3) 4).length ≤ c' ∧ c' ≤ (zs ++ fin10 (owH x0 x1 x2 x3) 4).length) ∧ Row w' a' g' (zs ++ fin10 (owH x0 x1 x2 x3) 4) ∧ Below w.heap.size w w' := by
  have HR := hide hr
  have HL := hide hL
  clear hr hL
  go_enter Tryz.func50, Tryz.ntmps50
  go_wp2_with fail
  obtain ⟨w1, hw1⟩ : ∃ w1, w.alloc (.cells (headA x0 x1 x2 x3) 52) = w1 := ⟨_, rfl⟩
  have HK1 : Hid (Kp [] w w1) := by rw [← hw1]; exact (Kp.refl [] w).alloc _
  have HB : Hid (w1.heap[w.heap.size]? = some (.cells (headA x0 x1 x2 x3) 52 (0, 0))) := by rw [← hw1]; exact World.alloc_heap_new w _
  obtain ⟨B, hB⟩ : ∃ B, w.heap.size = B := ⟨_, rfl⟩
  rw [hw1]
  rw [hB] at HB ⊢
  clear hw1
  subst hl
  go_loopw [1, 11] (fun b i wr => ∃ (k : Nat) (a' : Option Addr) (g' c' N : Nat), k ≤ 4 ∧ i = .int .i64 k ∧ b = .slice a' N c' ∧ (zs ++ fin10 (owH x0 x1 x2 x3) k).length = N ∧ (N ≤ c' ∧ c' ≤ N) ∧ Kp [] w1 wr ∧ Row wr a' g' (zs ++ fin10 (owH x0 x1 x2 x3) k)) (fun _ i _ => 4 - (intOf i).toNat)
  case atStart => exact ⟨0, a, g, cc, zs.length, by omega, rfl, rfl, by simp [fin10], hnc, Kp.refl _ _, by simpa [fin10] using (unhide HR).keep (unhide HK1) (by simp)⟩
  case round =>
    obtain ⟨k, a', g', c', N, hk, rfl, rfl, hN, hNc, hK, hr⟩ := hrel
    have HN := hide hN
    clear hN
    have HK := hide hK
    have HR1 := hide hr
    have HB1 := hide (hK.heap (unhide HB) (by simp))
    have HL1 := hide (((unhide HL).keep (unhide HK1).below).keep hK.below)
    clear hK hr
    by_cases hlt : k < 4
    · match k, hlt with
      | 0, _ =>
        have q0 : wr.cell? ⟨L, 0, none⟩ = some (.func (.func 107) #[] #[.pointer (some ⟨c 0, 0, none⟩)]) := cell_blk (unhide HL1).blk rfl
        have q1 : wr.cell? ⟨L, 1, none⟩ = some (.func (.func 109) #[] #[.pointer (some ⟨c 0, 0, none⟩)]) := cell_blk (unhide HL1).blk rfl
        have HLN : Hid (N ≤ 200) := by
          rw [← unhide HN, List.length_append]
          have : (fin10 (owH x0 x1 x2 x3) 0).length = 0 := by simp [fin10]
          unfold Hid
          omega
        go_wp2_with fail
        refine (put_numH 74 (c 0) B 0 x0 a' g' N c' (zs ++ fin10 (owH x0 x1 x2 x3) 0) _ (by have := unhide HLN; omega) (unhide HN) ((unhide HR1).keep ((Kp.refl [] wr).alloc _) (by simp)) at_h0.1 at_h0.2 (((Kp.refl [] wr).alloc _).cell (unhide HL1).c0 (by simp)) (((Kp.refl [] wr).alloc _).cell (cell_blk (unhide HB1) rfl) (by simp))).mono ?_
        rintro x w2 ⟨q, rfl, hq, ho, hk2⟩
        have HR2 := hide (row_of_owns ho)
        have HK2 : Hid (Kp [] w1 w2) := ((unhide HK).alloc _).trans hk2 (by simp)
        clear ho hk2
        go_wp2
        go_roundw
        case rel => exact ⟨1, some ⟨q, 0, none⟩, q, _, _, by omega, by go_num, rfl, by rw [fin_succ _ rfl, ← List.append_assoc, List.length_append, unhide HN]; first | rfl | rw [by8_length] | (simp [ints, hd]), ⟨Nat.le_refl _, Nat.le_refl _⟩, unhide HK2, by rw [fin_succ _ rfl, ← List.append_assoc]; exact unhide HR2⟩
        case measure => simp [intOf] <;> omega
      | 1, _ =>
        have q0 : wr.cell? ⟨L, 2, none⟩ = some (.func (.func 111) #[] #[.pointer (some ⟨c 1, 0, none⟩)]) := cell_blk (unhide HL1).blk rfl
        have q1 : wr.cell? ⟨L, 3, none⟩ = some (.func (.func 113) #[] #[.pointer (some ⟨c 1, 0, none⟩)]) := cell_blk (unhide HL1).blk rfl
        have HLN : Hid (N ≤ 200) := by
          rw [← unhide HN, List.length_append]
          have : (fin10 (owH x0 x1 x2 x3) 1).length = 8 := by simp [fin10, owH, by8_length]
          unfold Hid
          omega
        go_wp2_with fail
        refine (put_lowH 76 (c 1) B 1 x1 a' g' N c' (zs ++ fin10 (owH x0 x1 x2 x3) 1) _ (by have := unhide HLN; omega) (unhide HN) ((unhide HR1).keep ((Kp.refl [] wr).alloc _) (by simp)) at_h1.1 at_h1.2 (((Kp.refl [] wr).alloc _).cell (unhide HL1).c1 (by simp)) (((Kp.refl [] wr).alloc _).cell (cell_blk (unhide HB1) rfl) (by simp))).mono ?_
        rintro x w2 ⟨q, rfl, hq, ho, hk2⟩
        have HR2 := hide (row_of_owns ho)
        have HK2 : Hid (Kp [] w1 w2) := ((unhide HK).alloc _).trans hk2 (by simp)
        clear ho hk2
        go_wp2
        go_roundw
        case rel => exact ⟨2, some ⟨q, 0, none⟩, q, _, _, by omega, by go_num, rfl, by rw [fin_succ _ rfl, ← List.append_assoc, List.length_append, unhide HN]; first | rfl | rw [by8_length] | (simp [ints, hd]), ⟨Nat.le_refl _, Nat.le_refl _⟩, unhide HK2, by rw [fin_succ _ rfl, ← List.append_assoc]; exact unhide HR2⟩
        case measure => simp [intOf] <;> omega
      | 2, _ =>
        have q0 : wr.cell? ⟨L, 4, none⟩ = some (.func (.func 111) #[] #[.pointer (some ⟨c 2, 0, none⟩)]) := cell_blk (unhide HL1).blk rfl
        have q1 : wr.cell? ⟨L, 5, none⟩ = some (.func (.func 113) #[] #[.pointer (some ⟨c 2, 0, none⟩)]) := cell_blk (unhide HL1).blk rfl
        have HLN : Hid (N ≤ 200) := by
          rw [← unhide HN, List.length_append]
          have : (fin10 (owH x0 x1 x2 x3) 2).length = 9 := by simp [fin10, owH, by8_length]
          unfold Hid
          omega
        go_wp2_with fail
        refine (put_lowH 77 (c 2) B 2 x2 a' g' N c' (zs ++ fin10 (owH x0 x1 x2 x3) 2) _ (by have := unhide HLN; omega) (unhide HN) ((unhide HR1).keep ((Kp.refl [] wr).alloc _) (by simp)) at_h2.1 at_h2.2 (((Kp.refl [] wr).alloc _).cell (unhide HL1).c2 (by simp)) (((Kp.refl [] wr).alloc _).cell (cell_blk (unhide HB1) rfl) (by simp))).mono ?_
        rintro x w2 ⟨q, rfl, hq, ho, hk2⟩
        have HR2 := hide (row_of_owns ho)
        have HK2 : Hid (Kp [] w1 w2) := ((unhide HK).alloc _).trans hk2 (by simp)
        clear ho hk2
        go_wp2
        go_roundw
        case rel => exact ⟨3, some ⟨q, 0, none⟩, q, _, _, by omega, by go_num, rfl, by rw [fin_succ _ rfl, ← List.append_assoc, List.length_append, unhide HN]; first | rfl | rw [by8_length] | (simp [ints, hd]), ⟨Nat.le_refl _, Nat.le_refl _⟩, unhide HK2, by rw [fin_succ _ rfl, ← List.append_assoc]; exact unhide HR2⟩
        case measure => simp [intOf] <;> omega
      | 3, _ =>
        have q0 : wr.cell? ⟨L, 6, none⟩ = some (.func (.func 111) #[] #[.pointer (some ⟨c 3, 0, none⟩)]) := cell_blk (unhide HL1).blk rfl
        have q1 : wr.cell? ⟨L, 7, none⟩ = some (.func (.func 113) #[] #[.pointer (some ⟨c 3, 0, none⟩)]) := cell_blk (unhide HL1).blk rfl
        have HLN : Hid (N ≤ 200) := by
          rw [← unhide HN, List.length_append]
          have : (fin10 (owH x0 x1 x2 x3) 3).length = 10 := by simp [fin10, owH, by8_length]
          unfold Hid
          omega
        go_wp2_with fail
        refine (put_lowH 78 (c 3) B 3 x3 a' g' N c' (zs ++ fin10 (owH x0 x1 x2 x3) 3) _ (by have := unhide HLN; omega) (unhide HN) ((unhide HR1).keep ((Kp.refl [] wr).alloc _) (by simp)) at_h3.1 at_h3.2 (((Kp.refl [] wr).alloc _).cell (unhide HL1).c3 (by simp)) (((Kp.refl [] wr).alloc _).cell (cell_blk (unhide HB1) rfl) (by simp))).mono ?_
        rintro x w2 ⟨q, rfl, hq, ho, hk2⟩
        have HR2 := hide (row_of_owns ho)
        have HK2 : Hid (Kp [] w1 w2) := ((unhide HK).alloc _).trans hk2 (by simp)
        clear ho hk2
        go_wp2
        go_roundw
        case rel => exact ⟨4, some ⟨q, 0, none⟩, q, _, _, by omega, by go_num, rfl, by rw [fin_succ _ rfl, ← List.append_assoc, List.length_append, unhide HN]; first | rfl | rw [by8_length] | (simp [ints, hd]), ⟨Nat.le_refl _, Nat.le_refl _⟩, unhide HK2, by rw [fin_succ _ rfl, ← List.append_assoc]; exact unhide HR2⟩
        case measure => simp [intOf] <;> omega
    · have : k = 4 := by omega
      subst this
      go_wp2
      go_ret
      exact ⟨a', g', c', by rw [unhide HN]; rfl, by rw [unhide HN]; exact hNc, unhide HR1, ((unhide HK1).trans (unhide HK) (by simp)).below⟩

set_option maxRecDepth 100000 in
set_option maxHeartbeats 8000000 in
theorem writeE_fit (L : Nat) (c : Nat → Nat) (x0 x1 x2 : Int) (d : List Nat) (hd : d.length = 16) (hdb : ∀ j, cf d j < 256) (a : Option Addr) (g n cc : Nat) (zs : List Int) (w : World) (hn : n ≤ 100) (hl : zs.length = n) (hnc : n ≤ cc ∧ cc ≤ n) (hr : Row w a g zs) (hL : LayE w L c) :
    Calls Tryz.prog 52 #[.slice (some ⟨L, 0, none⟩) 4 4, .slice a n cc, .agg (entA x0 x1 x2 d)] w fun e w' => ∃ a' g' c', e = .returned (.slice a' (zs ++ fin10 (owE x0 x1 x2 d) 4).length c') ∧ ((zs ++ fin10 (owE x0 x1 x2 d) 4).length ≤ c' ∧ c' ≤ (zs ++ fin10 (owE x0 x1 x2 d) 4).length) ∧ Row w' a' g' (zs ++ fin10 (owE x0 x1 x2 d) 4) ∧ Below w.heap.size w w' := by
  have HR := hide hr
  have HL := hide hL
  clear hr hL
  go_enter Tryz.func52, Tryz.ntmps52
  go_wp2_with fail
  obtain ⟨w1, hw1⟩ : ∃ w1, w.alloc (.cells (entA x0 x1 x2 d) 46) = w1 := ⟨_, rfl⟩
  have HK1 : Hid (Kp [] w w1) := by rw [← hw1]; exact (Kp.refl [] w).alloc _
  have HB : Hid (w1.heap[w.heap.size]? = some (.cells (entA x0 x1 x2 d) 46 (0, 0))) := by rw [← hw1]; exact World.alloc_heap_new w _
  obtain ⟨B, hB⟩ : ∃ B, w.heap.size = B := ⟨_, rfl⟩
  rw [hw1]
  rw [hB] at HB ⊢
  clear hw1
  subst hl
  go_loopw [1, 11] (fun b i wr => ∃ (k : Nat) (a' : Option Addr) (g' c' N : Nat), k ≤ 4 ∧ i = .int .i64 k ∧ b = .slice a' N c' ∧ (zs ++ fin10 (owE x0 x1 x2 d) k).length = N ∧ (N ≤ c' ∧ c' ≤ N) ∧ Kp [] w1 wr ∧ Row wr a' g' (zs ++ fin10 (owE x0 x1 x2 d) k)) (fun _ i _ => 4 - (intOf i).toNat)
  case atStart => exact ⟨0, a, g, cc, zs.length, by omega, rfl, rfl, by simp [fin10], hnc, Kp.refl _ _, by simpa [fin10] using (unhide HR).keep (unhide HK1) (by simp)⟩
  case round =>
    obtain ⟨k, a', g', c', N, hk, rfl, rfl, hN, hNc, hK, hr⟩ := hrel
    have HN := hide hN
    clear hN
    have HK := hide hK
    have HR1 := hide hr
    have HB1 := hide (hK.heap (unhide HB) (by simp))
    have HL1 := hide (((unhide HL).keep (unhide HK1).below).keep hK.below)
    clear hK hr
    by_cases hlt : k < 4
    · match k, hlt with
      | 0, _ =>
        have q0 : wr.cell? ⟨L, 0, none⟩ = some (.func (.func 115) #[] #[.pointer (some ⟨c 0, 0, none⟩)]) := cell_blk (unhide HL1).blk rfl
        have q1 : wr.cell? ⟨L, 1, none⟩ = some (.func (.func 116) #[] #[.pointer (some ⟨c 0, 0, none⟩)]) := cell_blk (unhide HL1).blk rfl
        have HLN : Hid (N ≤ 200) := by
          rw [← unhide HN, List.length_append]
          have : (fin10 (owE x0 x1 x2 d) 0).length = 0 := by simp [fin10]
          unfold Hid
          omega
        go_wp2_with fail
        refine (put_lowE 80 (c 0) B 0 x0 a' g' N c' (zs ++ fin10 (owE x0 x1 x2 d) 0) _ (by have := unhide HLN; omega) (unhide HN) ((unhide HR1).keep ((Kp.refl [] wr).alloc _) (by simp)) at_e0.1 at_e0.2 (((Kp.refl [] wr).alloc _).cell (unhide HL1).c0 (by simp)) (((Kp.refl [] wr).alloc _).cell (cell_blk (unhide HB1) rfl) (by simp))).mono ?_
        rintro x w2 ⟨q, rfl, hq, ho, hk2⟩
        have HR2 := hide (row_of_owns ho)
        have HK2 : Hid (Kp [] w1 w2) := ((unhide HK).alloc _).trans hk2 (by simp)
        clear ho hk2
        go_wp2
        go_roundw
        case rel => exact ⟨1, some ⟨q, 0, none⟩, q, _, _, by omega, by go_num, rfl, by rw [fin_succ _ rfl, ← List.append_assoc, List.length_append, unhide HN]; first | rfl | rw [by8_length] | (simp [ints, hd]), ⟨Nat.le_refl _, Nat.le_refl _⟩, unhide HK2, by rw [fin_succ _ rfl, ← List.append_assoc]; exact unhide HR2⟩
        case measure => simp [intOf] <;> omega
      | 1, _ =>
        have q0 : wr.cell? ⟨L, 2, none⟩ = some (.func (.func 117) #[] #[.pointer (some ⟨c 1, 0, none⟩)]) := cell_blk (unhide HL1).blk rfl
        have q1 : wr.cell? ⟨L, 3, none⟩ = some (.func (.func 118) #[] #[.pointer (some ⟨c 1, 0, none⟩)]) := cell_blk (unhide HL1).blk rfl
        have HLN : Hid (N ≤ 200) := by
          rw [← unhide HN, List.length_append]
          have : (fin10 (owE x0 x1 x2 d) 1).length = 1 := by simp [fin10, owE, by8_length]
          unfold Hid
          omega
        go_wp2_with fail
        refine (put_numE 82 (c 1) B 1 x1 a' g' N c' (zs ++ fin10 (owE x0 x1 x2 d) 1) _ (by have := unhide HLN; omega) (unhide HN) ((unhide HR1).keep ((Kp.refl [] wr).alloc _) (by simp)) at_e1.1 at_e1.2 (((Kp.refl [] wr).alloc _).cell (unhide HL1).c1 (by simp)) (((Kp.refl [] wr).alloc _).cell (cell_blk (unhide HB1) rfl) (by simp))).mono ?_
        rintro x w2 ⟨q, rfl, hq, ho, hk2⟩
        have HR2 := hide (row_of_owns ho)
        have HK2 : Hid (Kp [] w1 w2) := ((unhide HK).alloc _).trans hk2 (by simp)
        clear ho hk2
        go_wp2
        go_roundw
        case rel => exact ⟨2, some ⟨q, 0, none⟩, q, _, _, by omega, by go_num, rfl, by rw [fin_succ _ rfl, ← List.append_assoc, List.length_append, unhide HN]; first | rfl | rw [by8_length] | (simp [ints, hd]), ⟨Nat.le_refl _, Nat.le_refl _⟩, unhide HK2, by rw [fin_succ _ rfl, ← List.append_assoc]; exact unhide HR2⟩
        case measure => simp [intOf] <;> omega
      | 2, _ =>
        have q0 : wr.cell? ⟨L, 4, none⟩ = some (.func (.func 117) #[] #[.pointer (some ⟨c 2, 0, none⟩)]) := cell_blk (unhide HL1).blk rfl
        have q1 : wr.cell? ⟨L, 5, none⟩ = some (.func (.func 118) #[] #[.pointer (some ⟨c 2, 0, none⟩)]) := cell_blk (unhide HL1).blk rfl
        have HLN : Hid (N ≤ 200) := by
          rw [← unhide HN, List.length_append]
          have : (fin10 (owE x0 x1 x2 d) 2).length = 9 := by simp [fin10, owE, by8_length]
          unfold Hid
          omega
        go_wp2_with fail
        refine (put_numE 83 (c 2) B 2 x2 a' g' N c' (zs ++ fin10 (owE x0 x1 x2 d) 2) _ (by have := unhide HLN; omega) (unhide HN) ((unhide HR1).keep ((Kp.refl [] wr).alloc _) (by simp)) at_e2.1 at_e2.2 (((Kp.refl [] wr).alloc _).cell (unhide HL1).c2 (by simp)) (((Kp.refl [] wr).alloc _).cell (cell_blk (unhide HB1) rfl) (by simp))).mono ?_
        rintro x w2 ⟨q, rfl, hq, ho, hk2⟩
        have HR2 := hide (row_of_owns ho)
        have HK2 : Hid (Kp [] w1 w2) := ((unhide HK).alloc _).trans hk2 (by simp)
        clear ho hk2
        go_wp2
        go_roundw
        case rel => exact ⟨3, some ⟨q, 0, none⟩, q, _, _, by omega, by go_num, rfl, by rw [fin_succ _ rfl, ← List.append_assoc, List.length_append, unhide HN]; first | rfl | rw [by8_length] | (simp [ints, hd]), ⟨Nat.le_refl _, Nat.le_refl _⟩, unhide HK2, by rw [fin_succ _ rfl, ← List.append_assoc]; exact unhide HR2⟩
        case measure => simp [intOf] <;> omega
      | 3, _ =>
        have q0 : wr.cell? ⟨L, 6, none⟩ = some (.func (.func 119) #[] #[.pointer (some ⟨c 3, 0, none⟩)]) := cell_blk (unhide HL1).blk rfl
        have q1 : wr.cell? ⟨L, 7, none⟩ = some (.func (.func 120) #[] #[.pointer (some ⟨c 3, 0, none⟩)]) := cell_blk (unhide HL1).blk rfl
        have HLN : Hid (N ≤ 200) := by
          rw [← unhide HN, List.length_append]
          have : (fin10 (owE x0 x1 x2 d) 3).length = 17 := by simp [fin10, owE, by8_length]
          unfold Hid
          omega
        go_wp2_with fail
        refine (put_sevqE 85 (c 3) B 3 16 d a' g' N c' (zs ++ fin10 (owE x0 x1 x2 d) 3) _ (by have := unhide HLN; omega) (unhide HN) hNc ((unhide HR1).keep ((Kp.refl [] wr).alloc _) (by simp)) at_e3.1 at_e3.2 (by omega) hd hdb (((Kp.refl [] wr).alloc _).cell (unhide HL1).c3 (by simp)) (fun j hj => ((Kp.refl [] wr).alloc _).cell (cell_blk (unhide HB1) ((entA_d _ _ _ _ j).trans (datL_get (by omega)))) (by simp))).mono ?_
        rintro x w2 ⟨a2, g2, c2, rfl, hc2, hr2, hk2⟩
        have HR2 := hide hr2
        have HK2 : Hid (Kp [] w1 w2) := ((unhide HK).alloc _).trans hk2 (by simp)
        clear hr2 hk2
        go_wp2
        go_roundw
        case rel => exact ⟨4, a2, g2, c2, _, by omega, by go_num, rfl, by rw [fin_succ _ rfl, ← List.append_assoc, List.length_append, unhide HN]; first | rfl | rw [by8_length] | (simp [ints, hd]), hc2, unhide HK2, by rw [fin_succ _ rfl, ← List.append_assoc]; exact unhide HR2⟩
        case measure => simp [intOf] <;> omega
    · have : k = 4 := by omega
      subst this
      go_wp2
      go_ret
      exact ⟨a', g', c', by rw [unhide HN]; rfl, by rw [unhide HN]; exact hNc, unhide HR1, ((unhide HK1).trans (unhide HK) (by simp)).below⟩

set_option maxRecDepth 100000 in
set_option maxHeartbeats 8000000 in
theorem writeT_fit (L : Nat) (c : Nat → Nat) (d : List Nat) (hd : d.length = 4) (hdb : ∀ j, cf d j < 256) (a : Option Addr) (g n cc : Nat) (zs : List Int) (w : World) (hn : n ≤ 100) (hl : zs.length = n) (hnc : n ≤ cc ∧ cc ≤ n) (hr : Row w a g zs) (hL : LayT w L c) :
    Calls Tryz.prog 54 #[.slice (some ⟨L, 0, none⟩) 1 1, .slice a n cc, .agg (tailA d)] w fun e w' => ∃ a' g' c', e = .returned (.slice a' (zs ++ fin10 (owT d) 1).length c') ∧ ((zs ++ fin10 (owT d) 1).length ≤ c' ∧ c' ≤ (zs ++ fin10 (owT d) 1).length) ∧ Row w' a' g' (zs ++ fin10 (owT d) 1) ∧ Below w.heap.size w w' ∧ ∃ cur, w'.heap[g']? = some (.cells cur 5 (0, 0)) := by
  have HR := hide hr
  have HL := hide hL
  clear hr hL
  go_enter Tryz.func54, Tryz.ntmps54
  go_wp2_with fail
  obtain ⟨w1, hw1⟩ : ∃ w1, w.alloc (.cells (tailA d) 103) = w1 := ⟨_, rfl⟩
  have HK1 : Hid (Kp [] w w1) := by rw [← hw1]; exact (Kp.refl [] w).alloc _
  have HB : Hid (w1.heap[w.heap.size]? = some (.cells (tailA d) 103 (0, 0))) := by rw [← hw1]; exact World.alloc_heap_new w _
  obtain ⟨B, hB⟩ : ∃ B, w.heap.size = B := ⟨_, rfl⟩
  rw [hw1]
  rw [hB] at HB ⊢
  clear hw1
  subst hl
  go_loopw [1, 11] (fun b i wr => ∃ (k : Nat) (a' : Option Addr) (g' c' N : Nat), k ≤ 1 ∧ i = .int .i64 k ∧ b = .slice a' N c' ∧ (zs ++ fin10 (owT d) k).length = N ∧ (N ≤ c' ∧ c' ≤ N) ∧ Kp [] w1 wr ∧ Row wr a' g' (zs ++ fin10 (owT d) k) ∧ (0 < k → ∃ cur, wr.heap[g']? = some (.cells cur 5 (0, 0)))) (fun _ i _ => 1 - (intOf i).toNat)
  case atStart => exact ⟨0, a, g, cc, zs.length, by omega, rfl, rfl, by simp [fin10], hnc, Kp.refl _ _, by simpa [fin10] using (unhide HR).keep (unhide HK1) (by simp), fun h => absurd h (by omega)⟩
  case round =>
    obtain ⟨k, a', g', c', N, hk, rfl, rfl, hN, hNc, hK, hr, hty⟩ := hrel
    have HTY := hide hty
    clear hty
    have HN := hide hN
    clear hN
    have HK := hide hK
    have HR1 := hide hr
    have HB1 := hide (hK.heap (unhide HB) (by simp))
    have HL1 := hide (((unhide HL).keep (unhide HK1).below).keep hK.below)
    clear hK hr
    by_cases hlt : k < 1
    · match k, hlt with
      | 0, _ =>
        have q0 : wr.cell? ⟨L, 0, none⟩ = some (.func (.func 121) #[] #[.pointer (some ⟨c 0, 0, none⟩)]) := cell_blk (unhide HL1).blk rfl
        have q1 : wr.cell? ⟨L, 1, none⟩ = some (.func (.func 122) #[] #[.pointer (some ⟨c 0, 0, none⟩)]) := cell_blk (unhide HL1).blk rfl
        have HLN : Hid (N ≤ 200) := by
          rw [← unhide HN, List.length_append]
          have : (fin10 (owT d) 0).length = 0 := by simp [fin10]
          unfold Hid
          omega
        go_wp2_with fail
        refine (put_sevqT 87 (c 0) B 0 4 d a' g' N c' (zs ++ fin10 (owT d) 0) _ (by have := unhide HLN; omega) (unhide HN) hNc ((unhide HR1).keep ((Kp.refl [] wr).alloc _) (by simp)) at_t0.1 at_t0.2 (by omega) hd hdb (((Kp.refl [] wr).alloc _).cell (unhide HL1).c0 (by simp)) (fun j hj => ((Kp.refl [] wr).alloc _).cell (cell_blk (unhide HB1) ((by rw [tailA, Nat.zero_add, List.getElem?_toArray]; exact datL_get (by omega)))) (by simp))).mono ?_
        rintro x w2 ⟨a2, g2, c2, rfl, hc2, hr2, hk2, ht2⟩
        have HT2 := hide (ht2 (by omega))
        clear ht2
        have HR2 := hide hr2
        have HK2 : Hid (Kp [] w1 w2) := ((unhide HK).alloc _).trans hk2 (by simp)
        clear hr2 hk2
        go_wp2
        go_roundw
        case rel => exact ⟨1, a2, g2, c2, _, by omega, by go_num, rfl, by rw [fin_succ _ rfl, ← List.append_assoc, List.length_append, unhide HN]; first | rfl | rw [by8_length] | (simp [ints, hd]), hc2, unhide HK2, by rw [fin_succ _ rfl, ← List.append_assoc]; exact unhide HR2, fun _ => unhide HT2⟩
        case measure => simp [intOf] <;> omega
    · have : k = 1 := by omega
      subst this
      go_wp2
      go_ret
      exact ⟨a', g', c', by rw [unhide HN]; rfl, by rw [unhide HN]; exact hNc, unhide HR1, ((unhide HK1).trans (unhide HK) (by simp)).below, unhide HTY (by omega)⟩
set_option maxRecDepth 100000 in
set_option maxHeartbeats 8000000 in
theorem bytes_fit (x0 x1 x2 x3 k l s : Int) (d : List Nat) (hd : d.length = 16) (hdb : ∀ j, cf d j < 256) (w : World) : Calls Tryz.prog 26 #[.agg (headA x0 x1 x2 x3), .agg (entA k l s d)] w fun e w' =>
    ∃ a g c, e = .returned (.slice a 48 c) ∧ (48 ≤ c ∧ c ≤ 48) ∧ Row w' a g (byT x0 x1 x2 x3 k l s d) ∧ Below w.heap.size w w' ∧ ∃ cur, w'.heap[g]? = some (.cells cur 5 (0, 0)) := by
  obtain ⟨w1, hw1⟩ : ∃ w1, (w.alloc (.cells (headA x0 x1 x2 x3) 52)).alloc (.cells (entA k l s d) 46) = w1 := ⟨_, rfl⟩
  have HT : Hid (Below w.heap.size w w1) := by rw [← hw1]; exact ((Below.refl _ w).alloc (Nat.le_refl _) _).alloc (by simp) _
  have HBH : Hid (AtB w1 w.heap.size (headA x0 x1 x2 x3) 52) := ⟨by rw [← hw1]; exact (Below.heap_alloc _ _ _ (by simp)).trans (World.alloc_heap_new w _)⟩
  have HBE : Hid (AtB w1 (w.heap.size + 1) (entA k l s d) 46) := ⟨by
    rw [← hw1]
    have := World.alloc_heap_new (w.alloc (.cells (headA x0 x1 x2 x3) 52)) (.cells (entA k l s d) 46)
    rwa [World.size_alloc] at this⟩
  have HW := hide hw1
  clear hw1
  go_enter Tryz.func26, Tryz.ntmps26
  go_wp2_with fail
  rw [unhide HW]
  replace HT := hide ((unhide HT).drew)
  replace HBH := hide ((unhide HBH).below (Below.refl _ _).drew)
  replace HBE := hide ((unhide HBE).below (Below.refl _ _).drew)
  refine wp_region_noPanic ?_
  refine wp_region_held_drew (S := fun W => Below w1.drew.heap.size w1.drew W) (by kernel_rfl) (Below.refl _ _) (fun hHeld => ?_)
  have HH := hide hHeld
  clear hHeld
  generalize w1.drew = w11 at HT HBH HBE HH ⊢
  refine takeL (i := 1) (v := .agg (headA x0 x1 x2 x3)) rfl (by kernel_rfl) (by kernel_rfl) (by kernel_rfl) (fun _ _ _ h => h) (Or.inl ⟨by rfl, fun W1 hSW => run_load_agg9 rfl rfl (load_TH ((unhide HBH).below hSW).blk rfl)⟩) (unhide HH) ?_
  (try simp only [Act.put, List.setIfInBounds_toArray, List.set_cons_zero, List.set_cons_succ])
  refine wpAnyH_ready (rs := [0]) (by kernel_rfl) (by simp) ?_
  refine consL rfl (fun K hK => ?_) AllReadyH.nil
  go_simp
  refine (layH_any _).mono ?_
  rintro e w12 ⟨L12, c12, rfl, hly, -, -, hk⟩
  have HLY12 := hide hly
  clear hly
  replace HBH := hide ((unhide HBH).below hk)
  replace HBE := hide ((unhide HBE).below hk)
  replace HT := hide ((unhide HT).trans (hk.mono (unhide HT).size))
  refine hK.out _ _ hk (fun hHeld => ?_)
  clear hK K HH hHeld
  (try simp only [Act.put, List.setIfInBounds_toArray, List.set_cons_zero, List.set_cons_succ])
  refine stronger (S' := fun W => Below w12.heap.size w12 W) (fun W h => hk.trans (h.mono hk.size)) _ _ _ _ ?_
  have HH : Hid (Below w12.heap.size w12 w12) := Below.refl _ _
  clear hk
  refine wpAnyH_ready (rs := [2]) (by kernel_rfl) (by simp) ?_
  refine consL rfl (fun K hK => ?_) AllReadyH.nil
  go_simp
  refine (writeH_fit L12 c12 x0 x1 x2 x3 none 0 0 0 [] _ (by omega) rfl ⟨Nat.le_refl _, Nat.le_refl _⟩ (.inl rfl) (unhide HLY12)).mono ?_
  rintro e w13 ⟨a13, g13, d13, rfl, hcp, hrw, hk⟩
  obtain ⟨N13, hN13⟩ : ∃ N, ([] ++ fin10 (owH x0 x1 x2 x3) 4).length = N := ⟨_, rfl⟩
  have HRW13 := hide hrw
  have HN13 := hide hN13
  have HCP13 := hide hcp
  rw [hN13] at HCP13
  clear hcp
  rw [hN13]
  clear hrw hN13
  replace HBH := hide ((unhide HBH).below hk)
  replace HBE := hide ((unhide HBE).below hk)
  replace HLY12 := hide ((unhide HLY12).below hk)
  replace HT := hide ((unhide HT).trans (hk.mono (unhide HT).size))
  refine hK.out _ _ hk (fun hHeld => ?_)
  clear hK K HH hHeld
  (try simp only [Act.put, List.setIfInBounds_toArray, List.set_cons_zero, List.set_cons_succ])
  refine stronger (S' := fun W => Below w13.heap.size w13 W) (fun W h => hk.trans (h.mono hk.size)) _ _ _ _ ?_
  have HH : Hid (Below w13.heap.size w13 w13) := Below.refl _ _
  clear hk
  refine takeL (i := 3) (v := ?_) rfl (by kernel_rfl) (by kernel_rfl) (by kernel_rfl) (fun _ _ _ h => h) (Or.inl ⟨by rfl, ?_⟩) (unhide HH) ?_
  rotate_left 1
  · intro W hSW; go_simp; all_goals (with_reducible rfl)
  (try simp only [Act.put, List.setIfInBounds_toArray, List.set_cons_zero, List.set_cons_succ])
  refine wpAnyH_done (by kernel_rfl) ?_ _
  refine NoPanic.normal ?_
  go_wp2_with fail
  replace HT := hide ((unhide HT).drew)
  replace HBH := hide ((unhide HBH).below (Below.refl _ _).drew)
  replace HBE := hide ((unhide HBE).below (Below.refl _ _).drew)
  replace HLY12 := hide ((unhide HLY12).below (Below.refl _ _).drew)
  replace HRW13 := hide ((unhide HRW13).below (Below.refl _ _).drew)
  refine wp_region_noPanic ?_
  refine wp_region_held_drew (S := fun W => Below w13.drew.heap.size w13.drew W) (by kernel_rfl) (Below.refl _ _) (fun hHeld => ?_)
  have HH := hide hHeld
  clear hHeld
  generalize w13.drew = w14 at HT HBH HBE HLY12 HRW13 HH ⊢
  refine takeL (i := 1) (v := ?_) rfl (by kernel_rfl) (by kernel_rfl) (by kernel_rfl) (fun _ _ _ h => h) (Or.inl ⟨by rfl, ?_⟩) (unhide HH) ?_
  rotate_left 1
  · intro W hSW; go_simp; all_goals (with_reducible rfl)
  (try simp only [Act.put, List.setIfInBounds_toArray, List.set_cons_zero, List.set_cons_succ])
  refine takeL (i := 2) (v := .agg (entA k l s d)) rfl (by kernel_rfl) (by kernel_rfl) (by kernel_rfl) (fun _ _ _ h => h) (Or.inl ⟨by rfl, fun W1 hSW => run_load_agg9 rfl rfl (load_TE ((unhide HBE).below hSW).blk (entA_size hd))⟩) (unhide HH) ?_
  (try simp only [Act.put, List.setIfInBounds_toArray, List.set_cons_zero, List.set_cons_succ])
  refine wpAnyH_ready (rs := [0]) (by kernel_rfl) (by simp) ?_
  refine consL rfl (fun K hK => ?_) AllReadyH.nil
  go_simp
  refine (layE_any _).mono ?_
  rintro e w15 ⟨L15, c15, rfl, hly, -, -, hk⟩
  have HLY15 := hide hly
  clear hly
  replace HBH := hide ((unhide HBH).below hk)
  replace HBE := hide ((unhide HBE).below hk)
  replace HLY12 := hide ((unhide HLY12).below hk)
  replace HRW13 := hide ((unhide HRW13).below hk)
  replace HT := hide ((unhide HT).trans (hk.mono (unhide HT).size))
  refine hK.out _ _ hk (fun hHeld => ?_)
  clear hK K HH hHeld
  (try simp only [Act.put, List.setIfInBounds_toArray, List.set_cons_zero, List.set_cons_succ])
  refine stronger (S' := fun W => Below w15.heap.size w15 W) (fun W h => hk.trans (h.mono hk.size)) _ _ _ _ ?_
  have HH : Hid (Below w15.heap.size w15 w15) := Below.refl _ _
  clear hk
  refine wpAnyH_ready (rs := [3]) (by kernel_rfl) (by simp) ?_
  refine consL rfl (fun K hK => ?_) AllReadyH.nil
  go_simp
  refine (writeE_fit L15 c15 k l s d hd hdb a13 g13 N13 d13 ([] ++ fin10 (owH x0 x1 x2 x3) 4) _ (by have := unhide HN13; have := lenH10 x0 x1 x2 x3; omega) (unhide HN13) (unhide HCP13) (unhide HRW13) (unhide HLY15)).mono ?_
  rintro e w16 ⟨a16, g16, d16, rfl, hcp, hrw, hk⟩
  obtain ⟨N16, hN16⟩ : ∃ N, (([] ++ fin10 (owH x0 x1 x2 x3) 4) ++ fin10 (owE k l s d) 4).length = N := ⟨_, rfl⟩
  have HRW16 := hide hrw
  have HN16 := hide hN16
  have HCP16 := hide hcp
  rw [hN16] at HCP16
  clear hcp
  rw [hN16]
  clear hrw hN16
  replace HBH := hide ((unhide HBH).below hk)
  replace HBE := hide ((unhide HBE).below hk)
  replace HLY12 := hide ((unhide HLY12).below hk)
  replace HRW13 := hide ((unhide HRW13).below hk)
  replace HLY15 := hide ((unhide HLY15).below hk)
  replace HT := hide ((unhide HT).trans (hk.mono (unhide HT).size))
  refine hK.out _ _ hk (fun hHeld => ?_)
  clear hK K HH hHeld
  (try simp only [Act.put, List.setIfInBounds_toArray, List.set_cons_zero, List.set_cons_succ])
  refine stronger (S' := fun W => Below w16.heap.size w16 W) (fun W h => hk.trans (h.mono hk.size)) _ _ _ _ ?_
  have HH : Hid (Below w16.heap.size w16 w16) := Below.refl _ _
  clear hk
  refine takeL (i := 4) (v := ?_) rfl (by kernel_rfl) (by kernel_rfl) (by kernel_rfl) (fun _ _ _ h => h) (Or.inl ⟨by rfl, ?_⟩) (unhide HH) ?_
  rotate_left 1
  · intro W hSW; go_simp; all_goals (with_reducible rfl)
  (try simp only [Act.put, List.setIfInBounds_toArray, List.set_cons_zero, List.set_cons_succ])
  refine wpAnyH_done (by kernel_rfl) ?_ _
  refine NoPanic.normal ?_
  go_wp2_with fail
  refine (layT_any _).mono ?_
  rintro e w17 ⟨L17, c17, rfl, hly, -, -, hk⟩
  have HLY17 := hide hly
  clear hly
  replace HBH := hide ((unhide HBH).below hk)
  replace HBE := hide ((unhide HBE).below hk)
  replace HLY12 := hide ((unhide HLY12).below hk)
  replace HRW13 := hide ((unhide HRW13).below hk)
  replace HLY15 := hide ((unhide HLY15).below hk)
  replace HRW16 := hide ((unhide HRW16).below hk)
  replace HT := hide ((unhide HT).trans (hk.mono (unhide HT).size))
  clear hk
  go_wp2_with fail
  refine (writeT_fit L17 c17 [0, 0, 0, 0] rfl (by intro j; match j with | 0 => decide | 1 => decide | 2 => decide | 3 => decide | j + 4 => simp [cf]) a16 g16 N16 d16 (([] ++ fin10 (owH x0 x1 x2 x3) 4) ++ fin10 (owE k l s d) 4) _ (by have := unhide HN16; have := lenE10 x0 x1 x2 x3 k l s d hd; omega) (unhide HN16) (unhide HCP16) (unhide HRW16) (unhide HLY17)).mono ?_
  rintro e w18 ⟨a18, g18, d18, rfl, hcp, hrw, hk, ht18⟩
  have HT18 := hide ht18
  clear ht18
  obtain ⟨N18, hN18⟩ : ∃ N, ((([] ++ fin10 (owH x0 x1 x2 x3) 4) ++ fin10 (owE k l s d) 4) ++ fin10 (owT [0, 0, 0, 0]) 1).length = N := ⟨_, rfl⟩
  have HRW18 := hide hrw
  have HN18 := hide hN18
  have HCP18 := hide hcp
  rw [hN18] at HCP18
  clear hcp
  rw [hN18]
  clear hrw hN18
  replace HBH := hide ((unhide HBH).below hk)
  replace HBE := hide ((unhide HBE).below hk)
  replace HLY12 := hide ((unhide HLY12).below hk)
  replace HRW13 := hide ((unhide HRW13).below hk)
  replace HLY15 := hide ((unhide HLY15).below hk)
  replace HRW16 := hide ((unhide HRW16).below hk)
  replace HLY17 := hide ((unhide HLY17).below hk)
  replace HT := hide ((unhide HT).trans (hk.mono (unhide HT).size))
  clear hk
  go_wp2
  go_ret
  have hf := fin_all x0 x1 x2 x3 k l s d
  have hf' : (([] ++ fin10 (owH x0 x1 x2 x3) 4) ++ fin10 (owE k l s d) 4) ++ fin10 (owT [0, 0, 0, 0]) 1 = byT x0 x1 x2 x3 k l s d := hf
  have hr9 := unhide HRW18
  have hn9 := unhide HN18
  rw [hf'] at hr9 hn9
  have hN : N18 = 48 := by rw [← hn9]; exact byW_len hd rfl
  subst hN
  exact ⟨_, _, _, rfl, unhide HCP18, hr9, unhide HT, unhide HT18⟩
end Go.Proofs.YtjdikhelabibnabGreat
