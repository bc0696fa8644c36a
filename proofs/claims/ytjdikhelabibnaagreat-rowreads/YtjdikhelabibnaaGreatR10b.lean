/-
  ramekinref10.Bytes.
-/
import Derived.Test.YtjdikhelabibnaaGreatE10b
import Derived.Test.YtjdikhelabibnaaGreatRefW
import Derived.Test.YtjdikhelabibnaaGreatZero
namespace Go.Proofs.YtjdikhelabibnaaGreat
open Go.RowKit Go.Shelf

theorem owns_below10 {w w' : World} {base n size : Nat} {e : TypeId} {v : Value} {xs : List Value} (h : w.ownsRow base e size v n xs) (k : Below w.heap.size w w') : w'.ownsRow base e size v n xs :=
  (Kp.ofBelow (Kp.refl [] w) k).owns h (by simp)
theorem World.ownsRow_mono10 {w : World} {b b' : Nat} {e : TypeId} {size : Nat} {v : Value} {n : Nat} {xs : List Value} (h : w.ownsRow b e size v n xs) (hb : b' ≤ b) : w.ownsRow b' e size v n xs := by
  refine ⟨h.1, ?_⟩
  rcases h.2 with hx | ⟨g, cap, cur, h1, h2, h3⟩
  · exact .inl hx
  · exact .inr ⟨g, cap, cur, h1, by omega, h3⟩
theorem ints_getD10 (d : List Nat) (j : Nat) : (ints d).getD j 0 = ((cf d j : Nat) : Int) := by
  unfold ints
  rw [List.getD_eq_getElem?_getD, List.getElem?_map]
  by_cases h : j < d.length
  · rw [cf_get h]
    rfl
  · rw [List.getElem?_eq_none (by omega), cf_ge (by omega)]
    rfl
theorem kp_below10 {w w' : World} {base : Nat} {e : TypeId} {v : Value} {n : Nat} {xs : List Value} (hk : Kp v.ownBlock.toList w w') (ho : w.ownsRow base e 1 v n xs) (hb : base ≤ w.heap.size) : Below base w w' := by
  refine ⟨hk.os, hk.tape, hk.output, hk.size, fun k h => hk.block k (by omega) (fun hm => ?_)⟩
  rcases ho.2 with ⟨rfl, _⟩ | ⟨g, cap, cur, rfl, hg, _⟩
  · simp [Value.ownBlock] at hm
  · simp [Value.ownBlock] at hm
    omega

set_option maxRecDepth 100000 in
set_option maxHeartbeats 8000000 in
theorem rbytes_any (x0 x1 x2 x3 k l s : Int) (d : List Nat) (hd : d.length = 16) (w : World) : Calls Tryz.prog 31 #[.agg (headA x0 x1 x2 x3), .agg (entA k l s d)] w fun e w' =>
    ∃ g c, e = .returned (.slice (some ⟨g, 0, none⟩) 48 c) ∧ w'.ownsRow w.heap.size 5 1 (.slice (some ⟨g, 0, none⟩) 48 c) 48 ((byT x0 x1 x2 x3 k l s d).map (Value.int .u8)) ∧ Below w.heap.size w w' := by
  obtain ⟨w1, hw1⟩ : ∃ w1, (w.alloc (.cells (headA x0 x1 x2 x3) 57)).alloc (.cells (entA k l s d) 44) = w1 := ⟨_, rfl⟩
  have HT : Hid (Below w.heap.size w w1) := by rw [← hw1]; exact ((Below.refl _ w).alloc (Nat.le_refl _) _).alloc (by simp) _
  obtain ⟨base, hbase⟩ : ∃ b, w1.heap.size = b := ⟨_, rfl⟩
  have hz : w1.heap.size = w.heap.size + 2 := by rw [← hw1]; simp
  have HBH : Hid (AtB w1 w.heap.size (headA x0 x1 x2 x3) 57) := ⟨by rw [← hw1]; exact (Below.heap_alloc _ _ _ (by simp)).trans (World.alloc_heap_new w _)⟩
  have HBE : Hid (AtB w1 (w.heap.size + 1) (entA k l s d) 44) := ⟨by
    rw [← hw1]
    have := World.alloc_heap_new (w.alloc (.cells (headA x0 x1 x2 x3) 57)) (.cells (entA k l s d) 44)
    rwa [World.size_alloc] at this⟩
  have HBS : Hid (w.heap.size ≤ base ∧ w.heap.size < base ∧ w.heap.size + 1 < base) := ⟨by omega, by omega, by omega⟩
  have HSZ : Hid (base ≤ w1.heap.size) := by unfold Hid; omega
  obtain ⟨i0, hi0, hz0, hzz1, hz2⟩ := info_parts infoE
  have HI0 := hide hi0
  clear hi0
  have c0 : w1.cell? ⟨w.heap.size, 0, none⟩ = some (.int .i64 x0) := cell_blk (unhide HBH).blk rfl
  have HBA := hide hbase
  clear hbase hz
  go_enter Tryz.func31, Tryz.ntmps31
  go_wp2_with fail
  clear hw1
  refine (xwint (.slice none 0 0) 0 [] x0 base w1 (World.ownsRow_nil _ _ _ _) (by omega) (unhide HSZ)).mono ?_
  rintro e w2 ⟨g2, c2, rfl, ho, hk, -⟩
  have hkb : Below base w1 w2 := kp_below10 (e := 5) hk (World.ownsRow_nil _ _ _ _) (unhide HSZ)
  replace HT := hide ((unhide HT).trans (hkb.mono (unhide HBS).1))
  replace HBH := hide (AtB.mk ((hkb.block _ (unhide HBS).2.1).trans (unhide HBH).blk))
  replace HBE := hide (AtB.mk ((hkb.block _ (unhide HBS).2.2).trans (unhide HBE).blk))
  replace HSZ : Hid (base ≤ w2.heap.size) := Nat.le_trans (unhide HSZ) hkb.size
  have HO := hide ho
  clear ho hk hkb c0
  go_wp2_with fail
  replace HT := hide ((unhide HT).drew)
  replace HBH := hide ((unhide HBH).below (Below.refl _ _).drew)
  replace HBE := hide ((unhide HBE).below (Below.refl _ _).drew)
  have HO21 : Hid (w2.drew.ownsRow base 5 1 (.slice (some ⟨g2, 0, none⟩) 8 c2) 8 ((([] ++ by8 8 (IntKind.u64.wrap x0))).map (Value.int .u8))) := owns_below10 (unhide HO) (Below.refl _ _).drew
  replace HSZ : Hid (base ≤ w2.drew.heap.size) := unhide HSZ
  refine wp_region_noPanic ?_
  refine wp_region_held_drew (S := fun V => Below base w2.drew V) (by kernel_rfl) (Below.refl _ _) (fun hHeld => ?_)
  have HH := hide hHeld
  clear hHeld
  generalize w2.drew = w21 at HT HBH HBE HO21 HSZ HH ⊢
  have HSW := HSZ
  refine takeL (i := 0) (v := ?_) rfl (by kernel_rfl) (by kernel_rfl) (by kernel_rfl) (fun _ _ _ h => h) (Or.inl ⟨by rfl, ?_⟩) (unhide HH) ?_
  rotate_left 1
  · intro W hSW; go_simp; all_goals (with_reducible rfl)
  (try simp only [Act.put, List.setIfInBounds_toArray, List.set_cons_zero, List.set_cons_succ])
  refine takeL (i := 1) (v := ?_) rfl (by kernel_rfl) (by kernel_rfl) (by kernel_rfl) (fun _ _ _ h => h) (Or.inl ⟨by rfl, ?_⟩) (unhide HH) ?_
  rotate_left 1
  · intro W hSW; go_simp; all_goals (with_reducible rfl)
  (try simp only [Act.put, List.setIfInBounds_toArray, List.set_cons_zero, List.set_cons_succ])
  refine takeL (i := 2) (v := ?_) rfl (by kernel_rfl) (by kernel_rfl) (by kernel_rfl) (fun _ _ _ h => h) (Or.inl ⟨by rfl, ?_⟩) (unhide HH) ?_
  rotate_left 1
  · intro V hSV; have hcl : V.cell? ⟨w.heap.size, 1, none⟩ = some (.int .i64 x1) := cell_blk ((hSV.block _ (unhide HBS).2.1).trans (unhide HBH).blk) rfl; clear hSV; go_simp; all_goals (with_reducible rfl)
  (try simp only [Act.put, List.setIfInBounds_toArray, List.set_cons_zero, List.set_cons_succ])
  refine takeL (i := 4) (v := ?_) rfl (by kernel_rfl) (by kernel_rfl) (by kernel_rfl) (fun _ _ _ h => h) (Or.inl ⟨by rfl, ?_⟩) (unhide HH) ?_
  rotate_left 1
  · intro W hSW; go_simp; all_goals (with_reducible rfl)
  (try simp only [Act.put, List.setIfInBounds_toArray, List.set_cons_zero, List.set_cons_succ])
  refine takeL (i := 5) (v := ?_) rfl (by kernel_rfl) (by kernel_rfl) (by kernel_rfl) (fun _ _ _ h => h) (Or.inl ⟨by rfl, ?_⟩) (unhide HH) ?_
  rotate_left 1
  · intro V hSV; have hcl : V.cell? ⟨w.heap.size, 2, none⟩ = some (.int .i64 x2) := cell_blk ((hSV.block _ (unhide HBS).2.1).trans (unhide HBH).blk) rfl; clear hSV; go_simp; all_goals (with_reducible rfl)
  (try simp only [Act.put, List.setIfInBounds_toArray, List.set_cons_zero, List.set_cons_succ])
  refine takeL (i := 7) (v := ?_) rfl (by kernel_rfl) (by kernel_rfl) (by kernel_rfl) (fun _ _ _ h => h) (Or.inl ⟨by rfl, ?_⟩) (unhide HH) ?_
  rotate_left 1
  · intro W hSW; go_simp; all_goals (with_reducible rfl)
  (try simp only [Act.put, List.setIfInBounds_toArray, List.set_cons_zero, List.set_cons_succ])
  refine takeL (i := 8) (v := ?_) rfl (by kernel_rfl) (by kernel_rfl) (by kernel_rfl) (fun _ _ _ h => h) (Or.inl ⟨by rfl, ?_⟩) (unhide HH) ?_
  rotate_left 1
  · intro V hSV; have hcl : V.cell? ⟨w.heap.size, 3, none⟩ = some (.int .i64 x3) := cell_blk ((hSV.block _ (unhide HBS).2.1).trans (unhide HBH).blk) rfl; clear hSV; go_simp; all_goals (with_reducible rfl)
  (try simp only [Act.put, List.setIfInBounds_toArray, List.set_cons_zero, List.set_cons_succ])
  refine takeL (i := 10) (v := ?_) rfl (by kernel_rfl) (by kernel_rfl) (by kernel_rfl) (fun _ _ _ h => h) (Or.inl ⟨by rfl, ?_⟩) (unhide HH) ?_
  rotate_left 1
  · intro W hSW; go_simp; all_goals (with_reducible rfl)
  (try simp only [Act.put, List.setIfInBounds_toArray, List.set_cons_zero, List.set_cons_succ])
  refine takeL (i := 11) (v := ?_) rfl (by kernel_rfl) (by kernel_rfl) (by kernel_rfl) (fun _ _ _ h => h) (Or.inl ⟨by rfl, ?_⟩) (unhide HH) ?_
  rotate_left 1
  · intro V hSV; have hcl : V.cell? ⟨w.heap.size + 1, 0, none⟩ = some (.int .i64 k) := cell_blk ((hSV.block _ (unhide HBS).2.2).trans (unhide HBE).blk) rfl; clear hSV; go_simp; all_goals (with_reducible rfl)
  (try simp only [Act.put, List.setIfInBounds_toArray, List.set_cons_zero, List.set_cons_succ])
  refine wpAnyH_ready (rs := [3]) (by kernel_rfl) (by simp) ?_
  refine consL rfl (fun K hK => ?_) AllReadyH.nil
  go_simp
  refine (xwbyte (.slice (some ⟨g2, 0, none⟩) 8 c2) 8 (([] ++ by8 8 (IntKind.u64.wrap x0))) x1 base _ (unhide HO21) (by omega) (unhide HSW)).mono ?_
  rintro e w22 ⟨g22, c22, rfl, ho, hk, -⟩
  have hS : Below base w21 w22 := (unhide HH).trans (kp_below10 hk (unhide HO21) (unhide HSW))
  replace HSW : Hid (base ≤ w22.heap.size) := Nat.le_trans (unhide HSW) hk.size
  have HO22 := hide ho
  clear ho hk
  refine hK.out _ _ hS (fun hHeld => ?_)
  clear hK K HH hS
  have HH := hide hHeld
  clear hHeld
  (try simp only [Act.put, List.setIfInBounds_toArray, List.set_cons_zero, List.set_cons_succ])
  refine wpAnyH_ready (rs := [6]) (by kernel_rfl) (by simp) ?_
  refine consL rfl (fun K hK => ?_) AllReadyH.nil
  go_simp
  refine (xwbyte (.slice (some ⟨g22, 0, none⟩) 9 c22) 9 ((([] ++ by8 8 (IntKind.u64.wrap x0)) ++ [x1 % 256])) x2 base _ (unhide HO22) (by omega) (unhide HSW)).mono ?_
  rintro e w23 ⟨g23, c23, rfl, ho, hk, -⟩
  have hS : Below base w21 w23 := (unhide HH).trans (kp_below10 hk (unhide HO22) (unhide HSW))
  replace HSW : Hid (base ≤ w23.heap.size) := Nat.le_trans (unhide HSW) hk.size
  have HO23 := hide ho
  clear ho hk
  refine hK.out _ _ hS (fun hHeld => ?_)
  clear hK K HH hS
  have HH := hide hHeld
  clear hHeld
  (try simp only [Act.put, List.setIfInBounds_toArray, List.set_cons_zero, List.set_cons_succ])
  refine wpAnyH_ready (rs := [9]) (by kernel_rfl) (by simp) ?_
  refine consL rfl (fun K hK => ?_) AllReadyH.nil
  go_simp
  refine (xwbyte (.slice (some ⟨g23, 0, none⟩) 10 c23) 10 (((([] ++ by8 8 (IntKind.u64.wrap x0)) ++ [x1 % 256]) ++ [x2 % 256])) x3 base _ (unhide HO23) (by omega) (unhide HSW)).mono ?_
  rintro e w24 ⟨g24, c24, rfl, ho, hk, -⟩
  have hS : Below base w21 w24 := (unhide HH).trans (kp_below10 hk (unhide HO23) (unhide HSW))
  replace HSW : Hid (base ≤ w24.heap.size) := Nat.le_trans (unhide HSW) hk.size
  have HO24 := hide ho
  clear ho hk
  refine hK.out _ _ hS (fun hHeld => ?_)
  clear hK K HH hS
  have HH := hide hHeld
  clear hHeld
  (try simp only [Act.put, List.setIfInBounds_toArray, List.set_cons_zero, List.set_cons_succ])
  refine wpAnyH_ready (rs := [12]) (by kernel_rfl) (by simp) ?_
  refine consL rfl (fun K hK => ?_) AllReadyH.nil
  go_simp
  refine (xwbyte (.slice (some ⟨g24, 0, none⟩) 11 c24) 11 ((((([] ++ by8 8 (IntKind.u64.wrap x0)) ++ [x1 % 256]) ++ [x2 % 256]) ++ [x3 % 256])) k base _ (unhide HO24) (by omega) (unhide HSW)).mono ?_
  rintro e w25 ⟨g25, c25, rfl, ho, hk, -⟩
  have hS : Below base w21 w25 := (unhide HH).trans (kp_below10 hk (unhide HO24) (unhide HSW))
  replace HSW : Hid (base ≤ w25.heap.size) := Nat.le_trans (unhide HSW) hk.size
  have HO25 := hide ho
  clear ho hk
  refine hK.out _ _ hS (fun hHeld => ?_)
  clear hK K HH hS
  have HH := hide hHeld
  clear hHeld
  (try simp only [Act.put, List.setIfInBounds_toArray, List.set_cons_zero, List.set_cons_succ])
  refine takeL (i := 13) (v := ?_) rfl (by kernel_rfl) (by kernel_rfl) (by kernel_rfl) (fun _ _ _ h => h) (Or.inl ⟨by rfl, ?_⟩) (unhide HH) ?_
  rotate_left 1
  · intro W hSW; go_simp; all_goals (with_reducible rfl)
  (try simp only [Act.put, List.setIfInBounds_toArray, List.set_cons_zero, List.set_cons_succ])
  refine wpAnyH_done (by kernel_rfl) ?_ _
  refine NoPanic.normal ?_
  replace HT := hide ((unhide HT).trans ((unhide HH).mono (unhide HBS).1))
  replace HBH := hide (AtB.mk (((unhide HH).block _ (unhide HBS).2.1).trans (unhide HBH).blk))
  replace HBE := hide (AtB.mk (((unhide HH).block _ (unhide HBS).2.2).trans (unhide HBE).blk))
  replace HSZ := HSW
  clear HSW HH
  go_wp2_with fail
  replace HT := hide ((unhide HT).drew)
  replace HBH := hide ((unhide HBH).below (Below.refl _ _).drew)
  replace HBE := hide ((unhide HBE).below (Below.refl _ _).drew)
  have HO26 : Hid (w25.drew.ownsRow base 5 1 (.slice (some ⟨g25, 0, none⟩) 12 c25) 12 ((((((([] ++ by8 8 (IntKind.u64.wrap x0)) ++ [x1 % 256]) ++ [x2 % 256]) ++ [x3 % 256]) ++ [k % 256])).map (Value.int .u8))) := owns_below10 (unhide HO25) (Below.refl _ _).drew
  replace HSZ : Hid (base ≤ w25.drew.heap.size) := unhide HSZ
  refine wp_region_noPanic ?_
  refine wp_region_held_drew (S := fun V => Below base w25.drew V) (by kernel_rfl) (Below.refl _ _) (fun hHeld => ?_)
  have HH := hide hHeld
  clear hHeld
  generalize w25.drew = w26 at HT HBH HBE HO26 HSZ HH ⊢
  have HSW := HSZ
  refine takeL (i := 0) (v := ?_) rfl (by kernel_rfl) (by kernel_rfl) (by kernel_rfl) (fun _ _ _ h => h) (Or.inl ⟨by rfl, ?_⟩) (unhide HH) ?_
  rotate_left 1
  · intro W hSW; go_simp; all_goals (with_reducible rfl)
  (try simp only [Act.put, List.setIfInBounds_toArray, List.set_cons_zero, List.set_cons_succ])
  refine takeL (i := 1) (v := ?_) rfl (by kernel_rfl) (by kernel_rfl) (by kernel_rfl) (fun _ _ _ h => h) (Or.inl ⟨by rfl, ?_⟩) (unhide HH) ?_
  rotate_left 1
  · intro W hSW; go_simp; all_goals (with_reducible rfl)
  (try simp only [Act.put, List.setIfInBounds_toArray, List.set_cons_zero, List.set_cons_succ])
  refine takeL (i := 2) (v := ?_) rfl (by kernel_rfl) (by kernel_rfl) (by kernel_rfl) (fun _ _ _ h => h) (Or.inl ⟨by rfl, ?_⟩) (unhide HH) ?_
  rotate_left 1
  · intro V hSV; have hcl : V.cell? ⟨w.heap.size + 1, 1, none⟩ = some (.int .i64 l) := cell_blk ((hSV.block _ (unhide HBS).2.2).trans (unhide HBE).blk) rfl; clear hSV; go_simp; all_goals (with_reducible rfl)
  (try simp only [Act.put, List.setIfInBounds_toArray, List.set_cons_zero, List.set_cons_succ])
  refine takeL (i := 4) (v := ?_) rfl (by kernel_rfl) (by kernel_rfl) (by kernel_rfl) (fun _ _ _ h => h) (Or.inl ⟨by rfl, ?_⟩) (unhide HH) ?_
  rotate_left 1
  · intro W hSW; go_simp; all_goals (with_reducible rfl)
  (try simp only [Act.put, List.setIfInBounds_toArray, List.set_cons_zero, List.set_cons_succ])
  refine takeL (i := 5) (v := ?_) rfl (by kernel_rfl) (by kernel_rfl) (by kernel_rfl) (fun _ _ _ h => h) (Or.inl ⟨by rfl, ?_⟩) (unhide HH) ?_
  rotate_left 1
  · intro V hSV; have hcl : V.cell? ⟨w.heap.size + 1, 2, none⟩ = some (.int .i64 s) := cell_blk ((hSV.block _ (unhide HBS).2.2).trans (unhide HBE).blk) rfl; clear hSV; go_simp; all_goals (with_reducible rfl)
  (try simp only [Act.put, List.setIfInBounds_toArray, List.set_cons_zero, List.set_cons_succ])
  refine takeL (i := 7) (v := ?_) rfl (by kernel_rfl) (by kernel_rfl) (by kernel_rfl) (fun _ _ _ h => h) (Or.inl ⟨by rfl, ?_⟩) (unhide HH) ?_
  rotate_left 1
  · intro W hSW; go_simp; all_goals (with_reducible rfl)
  (try simp only [Act.put, List.setIfInBounds_toArray, List.set_cons_zero, List.set_cons_succ])
  refine takeL (i := 8) (v := ?_) rfl (by kernel_rfl) (by kernel_rfl) (by kernel_rfl) (fun _ _ _ h => h) (Or.inl ⟨by rfl, ?_⟩) (unhide HH) ?_
  rotate_left 1
  · intro W hSW; go_simp; all_goals (with_reducible rfl)
  (try simp only [Act.put, List.setIfInBounds_toArray, List.set_cons_zero, List.set_cons_succ])
  refine wpAnyH_ready (rs := [3]) (by kernel_rfl) (by simp) ?_
  refine consL rfl (fun K hK => ?_) AllReadyH.nil
  go_simp
  refine (xwint (.slice (some ⟨g25, 0, none⟩) 12 c25) 12 (((((([] ++ by8 8 (IntKind.u64.wrap x0)) ++ [x1 % 256]) ++ [x2 % 256]) ++ [x3 % 256]) ++ [k % 256])) l base _ (unhide HO26) (by omega) (unhide HSW)).mono ?_
  rintro e w27 ⟨g27, c27, rfl, ho, hk, -⟩
  have hS : Below base w26 w27 := (unhide HH).trans (kp_below10 hk (unhide HO26) (unhide HSW))
  replace HSW : Hid (base ≤ w27.heap.size) := Nat.le_trans (unhide HSW) hk.size
  have HO27 := hide ho
  clear ho hk
  refine hK.out _ _ hS (fun hHeld => ?_)
  clear hK K HH hS
  have HH := hide hHeld
  clear hHeld
  (try simp only [Act.put, List.setIfInBounds_toArray, List.set_cons_zero, List.set_cons_succ])
  refine wpAnyH_ready (rs := [6]) (by kernel_rfl) (by simp) ?_
  refine consL rfl (fun K hK => ?_) AllReadyH.nil
  go_simp
  refine (xwint (.slice (some ⟨g27, 0, none⟩) 20 c27) 20 ((((((([] ++ by8 8 (IntKind.u64.wrap x0)) ++ [x1 % 256]) ++ [x2 % 256]) ++ [x3 % 256]) ++ [k % 256]) ++ by8 8 (IntKind.u64.wrap l))) s base _ (unhide HO27) (by omega) (unhide HSW)).mono ?_
  rintro e w28 ⟨g28, c28, rfl, ho, hk, -⟩
  have hS : Below base w26 w28 := (unhide HH).trans (kp_below10 hk (unhide HO27) (unhide HSW))
  replace HSW : Hid (base ≤ w28.heap.size) := Nat.le_trans (unhide HSW) hk.size
  have HO28 := hide ho
  clear ho hk
  refine hK.out _ _ hS (fun hHeld => ?_)
  clear hK K HH hS
  have HH := hide hHeld
  clear hHeld
  (try simp only [Act.put, List.setIfInBounds_toArray, List.set_cons_zero, List.set_cons_succ])
  refine wpAnyH_ready (rs := [9]) (by kernel_rfl) (by simp) ?_
  refine consL rfl (fun K hK => ?_) AllReadyH.nil
  refine wp_append_b (.tmp 28) (.tmp 30) (by rfl) base _ 28 _ (ints d) (by rfl) (unhide HO28) _ (w.heap.size + 1) 16 _ (by rfl) (by rw [ints_len10]; exact hd) (.inr ⟨3, rfl, fun j hj => ?_⟩) (fun h => by cases h) (by omega) (unhide HSW) ?_
  · rw [ints_len10, hd] at hj
    have h1 := cell_blk (w := w28) (AtB.mk (((unhide HH).block _ (unhide HBS).2.2).trans (unhide HBE).blk)).blk ((entA_d k l s d j).trans (datL_get (by omega)))
    rw [h1, ints_getD10]
  intro v29 w29 ho hg
  rw [← List.map_append] at ho
  obtain ⟨g29, c29, rfl⟩ := ownsRow_succ (k := 43) ho
  have hS : Below base w26 w29 := below_grown (unhide HH) hg (unhide HSW) (fun k hk => ((unhide HO28).lt k hk).1)
  replace HSW : Hid (base ≤ w29.heap.size) := Nat.le_trans (unhide HSW) hg.size
  have HO29 := hide ho
  clear ho hg
  refine hK.out _ _ hS (fun hHeld => ?_)
  clear hK K HH hS
  have HH := hide hHeld
  clear hHeld
  (try simp only [Act.put, List.setIfInBounds_toArray, List.set_cons_zero, List.set_cons_succ])
  refine takeL (i := 10) (v := ?_) rfl (by kernel_rfl) (by kernel_rfl) (by kernel_rfl) (fun _ _ _ h => h) (Or.inl ⟨by rfl, ?_⟩) (unhide HH) ?_
  rotate_left 1
  · intro W hSW; go_simp; all_goals (with_reducible rfl)
  (try simp only [Act.put, List.setIfInBounds_toArray, List.set_cons_zero, List.set_cons_succ])
  refine wpAnyH_done (by kernel_rfl) ?_ _
  refine NoPanic.normal ?_
  replace HT := hide ((unhide HT).trans ((unhide HH).mono (unhide HBS).1))
  replace HBH := hide (AtB.mk (((unhide HH).block _ (unhide HBS).2.1).trans (unhide HBH).blk))
  replace HBE := hide (AtB.mk (((unhide HH).block _ (unhide HBS).2.2).trans (unhide HBE).blk))
  replace HSZ := HSW
  clear HSW HH
  go_wp2_with (at_builtin; refine wpList_append_zeros _ rfl _ _ 47 3 rfl base 5 i0 Tryz.underlying47 Tryz.underlying3 (unhide HI0) hz0 hzz1 hz2 g29 44 c29 ((((((((([] ++ by8 8 (IntKind.u64.wrap x0)) ++ [x1 % 256]) ++ [x2 % 256]) ++ [x3 % 256]) ++ [k % 256]) ++ by8 8 (IntKind.u64.wrap l)) ++ by8 8 (IntKind.u64.wrap s)) ++ ints d)) rfl (unhide HO29) 4 rfl (by omega) (by omega) (unhide HSZ) ?_)
  intro g9 c9 w9 ys hys ho hg
  have hl : ys = byT x0 x1 x2 x3 k l s d := by rw [← unhide hys]; simp [byT, byW, ints]
  subst hl
  have hb9 : Below w.heap.size w w9 := below_grown (unhide HT) hg (unhide HT).size (fun k hk => by cases hk; have h1 := ((unhide HO29).lt g29 rfl).1; have h2 := (unhide HBS).1; omega)
  have HO9 := hide (World.ownsRow_mono10 ho (unhide HBS).1)
  have HB9 := hide hb9
  clear ho hg hys hb9
  go_wp2
  go_ret
  exact ⟨g9, c9, rfl, unhide HO9, unhide HB9⟩
end Go.Proofs.YtjdikhelabibnaaGreat
