/-
  entry.Bytes.
-/
import Derived.Test.YtjdikhelabibnaaGreatE10s
import Derived.Test.YtjdikhelabibnaaGreatE10c
namespace Go.Proofs.YtjdikhelabibnaaGreat
open Go.RowKit Go.Shelf

theorem LayH.below {w w' : World} {L : Nat} {c : Nat → Nat} (h : LayH w L c) (k : Below w.heap.size w w') : LayH w' L c := h.keep k
theorem LayE.below {w w' : World} {L : Nat} {c : Nat → Nat} (h : LayE w L c) (k : Below w.heap.size w w') : LayE w' L c := h.keep k
theorem LayT.below {w w' : World} {L : Nat} {c : Nat → Nat} (h : LayT w L c) (k : Below w.heap.size w w') : LayT w' L c := h.keep k
/-- Such cells lie at block b. -/
structure AtB (w : World) (b : Nat) (cs : Array Value) (ty : TypeId) : Prop where
  blk : w.heap[b]? = some (.cells cs ty (0, 0))
theorem AtB.below {w w' : World} {b : Nat} {cs : Array Value} {ty : TypeId} (h : AtB w b cs ty) (k : Below w.heap.size w w') : AtB w' b cs ty := ⟨(k.block b (lt_of_block h.blk)).trans h.blk⟩
theorem lenH10 (x0 x1 x2 x3 : Int) : ([] ++ fin10 (owH x0 x1 x2 x3) 4).length = 11 := by simp [fin10, owH, by8_length]
theorem lenE10 (x0 x1 x2 x3 k l s : Int) (d : List Nat) (hd : d.length = 16) : (([] ++ fin10 (owH x0 x1 x2 x3) 4) ++ fin10 (owE k l s d) 4).length = 44 := by simp [fin10, owH, owE, by8_length, ints_len10, hd]

set_option maxRecDepth 100000 in
set_option maxHeartbeats 8000000 in
theorem bytes_any (x0 x1 x2 x3 k l s : Int) (d : List Nat) (hd : d.length = 16) (hdb : ∀ j, cf d j < 256) (w : World) : Calls Tryz.prog 26 #[.agg (headA x0 x1 x2 x3), .agg (entA k l s d)] w fun e w' =>
    ∃ a g c, e = .returned (.slice a 48 c) ∧ Row w' a g (byT x0 x1 x2 x3 k l s d) ∧ Below w.heap.size w w' := by
  obtain ⟨w1, hw1⟩ : ∃ w1, (w.alloc (.cells (headA x0 x1 x2 x3) 57)).alloc (.cells (entA k l s d) 44) = w1 := ⟨_, rfl⟩
  have HT : Hid (Below w.heap.size w w1) := by rw [← hw1]; exact ((Below.refl _ w).alloc (Nat.le_refl _) _).alloc (by simp) _
  have HBH : Hid (AtB w1 w.heap.size (headA x0 x1 x2 x3) 57) := ⟨by rw [← hw1]; exact (Below.heap_alloc _ _ _ (by simp)).trans (World.alloc_heap_new w _)⟩
  have HBE : Hid (AtB w1 (w.heap.size + 1) (entA k l s d) 44) := ⟨by
    rw [← hw1]
    have := World.alloc_heap_new (w.alloc (.cells (headA x0 x1 x2 x3) 57)) (.cells (entA k l s d) 44)
    rwa [World.size_alloc] at this⟩
  have HW := hide hw1
  clear hw1
  go_enter Tryz.func26, Tryz.ntmps26
  go_wp2_with fail
  rw [unhide HW]
  replace HT := hide ((unhide HT).drew)
  replace HBH := hide ((unhide HBH).below (Below.refl _ _).drew)
  replace HBE := hide ((unhide HBE).below (Below.refl _ _).drew)
  refine wp_region_noPanic ?_
  refine wp_region_held_drew (S := fun W => Below w1.drew.heap.size w1.drew W) (by kernel_rfl) (Below.refl _ _) (fun hHeld => ?_)
  have HH := hide hHeld
  clear hHeld
  generalize w1.drew = w11 at HT HBH HBE HH ⊢
  refine takeL (i := 1) (v := .agg (headA x0 x1 x2 x3)) rfl (by kernel_rfl) (by kernel_rfl) (by kernel_rfl) (fun _ _ _ h => h) (Or.inl ⟨by rfl, fun W1 hSW => run_load_agg9 rfl rfl (load_TH ((unhide HBH).below hSW).blk rfl)⟩) (unhide HH) ?_
  (try simp only [Act.put, List.setIfInBounds_toArray, List.set_cons_zero, List.set_cons_succ])
  refine wpAnyH_ready (rs := [0]) (by kernel_rfl) (by simp) ?_
  refine consL rfl (fun K hK => ?_) AllReadyH.nil
  go_simp
  refine (layH_any _).mono ?_
  rintro e w12 ⟨L12, c12, rfl, hly, -, -, hk⟩
  have HLY12 := hide hly
  clear hly
  replace HBH := hide ((unhide HBH).below hk)
  replace HBE := hide ((unhide HBE).below hk)
  replace HT := hide ((unhide HT).trans (hk.mono (unhide HT).size))
  refine hK.out _ _ hk (fun hHeld => ?_)
  clear hK K HH hHeld
  (try simp only [Act.put, List.setIfInBounds_toArray, List.set_cons_zero, List.set_cons_succ])
  refine stronger (S' := fun W => Below w12.heap.size w12 W) (fun W h => hk.trans (h.mono hk.size)) _ _ _ _ ?_
  have HH : Hid (Below w12.heap.size w12 w12) := Below.refl _ _
  clear hk
  refine wpAnyH_ready (rs := [2]) (by kernel_rfl) (by simp) ?_
  refine consL rfl (fun K hK => ?_) AllReadyH.nil
  go_simp
  refine (writeH_any L12 c12 x0 x1 x2 x3 none 0 0 0 [] _ (by omega) rfl (.inl rfl) (unhide HLY12)).mono ?_
  rintro e w13 ⟨a13, g13, d13, rfl, hrw, hk⟩
  obtain ⟨N13, hN13⟩ : ∃ N, ([] ++ fin10 (owH x0 x1 x2 x3) 4).length = N := ⟨_, rfl⟩
  have HRW13 := hide hrw
  have HN13 := hide hN13
  rw [hN13]
  clear hrw hN13
  replace HBH := hide ((unhide HBH).below hk)
  replace HBE := hide ((unhide HBE).below hk)
  replace HLY12 := hide ((unhide HLY12).below hk)
  replace HT := hide ((unhide HT).trans (hk.mono (unhide HT).size))
  refine hK.out _ _ hk (fun hHeld => ?_)
  clear hK K HH hHeld
  (try simp only [Act.put, List.setIfInBounds_toArray, List.set_cons_zero, List.set_cons_succ])
  refine stronger (S' := fun W => Below w13.heap.size w13 W) (fun W h => hk.trans (h.mono hk.size)) _ _ _ _ ?_
  have HH : Hid (Below w13.heap.size w13 w13) := Below.refl _ _
  clear hk
  refine takeL (i := 3) (v := ?_) rfl (by kernel_rfl) (by kernel_rfl) (by kernel_rfl) (fun _ _ _ h => h) (Or.inl ⟨by rfl, ?_⟩) (unhide HH) ?_
  rotate_left 1
  · intro W hSW; go_simp; all_goals (with_reducible rfl)
  (try simp only [Act.put, List.setIfInBounds_toArray, List.set_cons_zero, List.set_cons_succ])
  refine wpAnyH_done (by kernel_rfl) ?_ _
  refine NoPanic.normal ?_
  go_wp2_with fail
  replace HT := hide ((unhide HT).drew)
  replace HBH := hide ((unhide HBH).below (Below.refl _ _).drew)
  replace HBE := hide ((unhide HBE).below (Below.refl _ _).drew)
  replace HLY12 := hide ((unhide HLY12).below (Below.refl _ _).drew)
  replace HRW13 := hide ((unhide HRW13).below (Below.refl _ _).drew)
  refine wp_region_noPanic ?_
  refine wp_region_held_drew (S := fun W => Below w13.drew.heap.size w13.drew W) (by kernel_rfl) (Below.refl _ _) (fun hHeld => ?_)
  have HH := hide hHeld
  clear hHeld
  generalize w13.drew = w14 at HT HBH HBE HLY12 HRW13 HH ⊢
  refine takeL (i := 1) (v := ?_) rfl (by kernel_rfl) (by kernel_rfl) (by kernel_rfl) (fun _ _ _ h => h) (Or.inl ⟨by rfl, ?_⟩) (unhide HH) ?_
  rotate_left 1
  · intro W hSW; go_simp; all_goals (with_reducible rfl)
  (try simp only [Act.put, List.setIfInBounds_toArray, List.set_cons_zero, List.set_cons_succ])
  refine takeL (i := 2) (v := .agg (entA k l s d)) rfl (by kernel_rfl) (by kernel_rfl) (by kernel_rfl) (fun _ _ _ h => h) (Or.inl ⟨by rfl, fun W1 hSW => run_load_agg9 rfl rfl (load_TE ((unhide HBE).below hSW).blk (entA_size hd))⟩) (unhide HH) ?_
  (try simp only [Act.put, List.setIfInBounds_toArray, List.set_cons_zero, List.set_cons_succ])
  refine wpAnyH_ready (rs := [0]) (by kernel_rfl) (by simp) ?_
  refine consL rfl (fun K hK => ?_) AllReadyH.nil
  go_simp
  refine (layE_any _).mono ?_
  rintro e w15 ⟨L15, c15, rfl, hly, -, -, hk⟩
  have HLY15 := hide hly
  clear hly
  replace HBH := hide ((unhide HBH).below hk)
  replace HBE := hide ((unhide HBE).below hk)
  replace HLY12 := hide ((unhide HLY12).below hk)
  replace HRW13 := hide ((unhide HRW13).below hk)
  replace HT := hide ((unhide HT).trans (hk.mono (unhide HT).size))
  refine hK.out _ _ hk (fun hHeld => ?_)
  clear hK K HH hHeld
  (try simp only [Act.put, List.setIfInBounds_toArray, List.set_cons_zero, List.set_cons_succ])
  refine stronger (S' := fun W => Below w15.heap.size w15 W) (fun W h => hk.trans (h.mono hk.size)) _ _ _ _ ?_
  have HH : Hid (Below w15.heap.size w15 w15) := Below.refl _ _
  clear hk
  refine wpAnyH_ready (rs := [3]) (by kernel_rfl) (by simp) ?_
  refine consL rfl (fun K hK => ?_) AllReadyH.nil
  go_simp
  refine (writeE_any L15 c15 k l s d hd hdb a13 g13 N13 d13 ([] ++ fin10 (owH x0 x1 x2 x3) 4) _ (by have := unhide HN13; have := lenH10 x0 x1 x2 x3; omega) (unhide HN13) (unhide HRW13) (unhide HLY15)).mono ?_
  rintro e w16 ⟨a16, g16, d16, rfl, hrw, hk⟩
  obtain ⟨N16, hN16⟩ : ∃ N, (([] ++ fin10 (owH x0 x1 x2 x3) 4) ++ fin10 (owE k l s d) 4).length = N := ⟨_, rfl⟩
  have HRW16 := hide hrw
  have HN16 := hide hN16
  rw [hN16]
  clear hrw hN16
  replace HBH := hide ((unhide HBH).below hk)
  replace HBE := hide ((unhide HBE).below hk)
  replace HLY12 := hide ((unhide HLY12).below hk)
  replace HRW13 := hide ((unhide HRW13).below hk)
  replace HLY15 := hide ((unhide HLY15).below hk)
  replace HT := hide ((unhide HT).trans (hk.mono (unhide HT).size))
  refine hK.out _ _ hk (fun hHeld => ?_)
  clear hK K HH hHeld
  (try simp only [Act.put, List.setIfInBounds_toArray, List.set_cons_zero, List.set_cons_succ])
  refine stronger (S' := fun W => Below w16.heap.size w16 W) (fun W h => hk.trans (h.mono hk.size)) _ _ _ _ ?_
  have HH : Hid (Below w16.heap.size w16 w16) := Below.refl _ _
  clear hk
  refine takeL (i := 4) (v := ?_) rfl (by kernel_rfl) (by kernel_rfl) (by kernel_rfl) (fun _ _ _ h => h) (Or.inl ⟨by rfl, ?_⟩) (unhide HH) ?_
  rotate_left 1
  · intro W hSW; go_simp; all_goals (with_reducible rfl)
  (try simp only [Act.put, List.setIfInBounds_toArray, List.set_cons_zero, List.set_cons_succ])
  refine wpAnyH_done (by kernel_rfl) ?_ _
  refine NoPanic.normal ?_
  go_wp2_with fail
  refine (layT_any _).mono ?_
  rintro e w17 ⟨L17, c17, rfl, hly, -, -, hk⟩
  have HLY17 := hide hly
  clear hly
  replace HBH := hide ((unhide HBH).below hk)
  replace HBE := hide ((unhide HBE).below hk)
  replace HLY12 := hide ((unhide HLY12).below hk)
  replace HRW13 := hide ((unhide HRW13).below hk)
  replace HLY15 := hide ((unhide HLY15).below hk)
  replace HRW16 := hide ((unhide HRW16).below hk)
  replace HT := hide ((unhide HT).trans (hk.mono (unhide HT).size))
  clear hk
  go_wp2_with fail
  refine (writeT_any L17 c17 [0, 0, 0, 0] rfl (by intro j; match j with | 0 => decide | 1 => decide | 2 => decide | 3 => decide | j + 4 => simp [cf]) a16 g16 N16 d16 (([] ++ fin10 (owH x0 x1 x2 x3) 4) ++ fin10 (owE k l s d) 4) _ (by have := unhide HN16; have := lenE10 x0 x1 x2 x3 k l s d hd; omega) (unhide HN16) (unhide HRW16) (unhide HLY17)).mono ?_
  rintro e w18 ⟨a18, g18, d18, rfl, hrw, hk⟩
  obtain ⟨N18, hN18⟩ : ∃ N, ((([] ++ fin10 (owH x0 x1 x2 x3) 4) ++ fin10 (owE k l s d) 4) ++ fin10 (owT [0, 0, 0, 0]) 1).length = N := ⟨_, rfl⟩
  have HRW18 := hide hrw
  have HN18 := hide hN18
  rw [hN18]
  clear hrw hN18
  replace HBH := hide ((unhide HBH).below hk)
  replace HBE := hide ((unhide HBE).below hk)
  replace HLY12 := hide ((unhide HLY12).below hk)
  replace HRW13 := hide ((unhide HRW13).below hk)
  replace HLY15 := hide ((unhide HLY15).below hk)
  replace HRW16 := hide ((unhide HRW16).below hk)
  replace HLY17 := hide ((unhide HLY17).below hk)
  replace HT := hide ((unhide HT).trans (hk.mono (unhide HT).size))
  clear hk
  go_wp2
  go_ret
  have hf := fin_all x0 x1 x2 x3 k l s d
  have hf' : (([] ++ fin10 (owH x0 x1 x2 x3) 4) ++ fin10 (owE k l s d) 4) ++ fin10 (owT [0, 0, 0, 0]) 1 = byT x0 x1 x2 x3 k l s d := hf
  have hr9 := unhide HRW18
  have hn9 := unhide HN18
  rw [hf'] at hr9 hn9
  have hN : N18 = 48 := by rw [← hn9]; exact byW_len hd rfl
  subst hN
  exact ⟨_, _, _, rfl, hr9, unhide HT⟩
end Go.Proofs.YtjdikhelabibnaaGreat
