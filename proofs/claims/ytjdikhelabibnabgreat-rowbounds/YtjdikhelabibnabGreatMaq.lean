/-
  rs.sums.fill's walk.
-/
import Derived.Test.YtjdikhelabibnabGreatMap
namespace Go.Proofs.YtjdikhelabibnabGreat
open Go.RowKit

theorem ZArg.keepK {S : List Nat} {w w' : World} {v : Value} {g : Nat} {zs : List Int} (h : ZArg w v g zs) (k : Kp S w w') (hn : zs ≠ [] → g ∉ S) : ZArg w' v g zs := by
  obtain ⟨⟨ao, c, h1, h2, h3, h4, h5⟩, hb⟩ := h
  refine ⟨⟨ao, c, h1, h2, h3, h4, ?_⟩, hb⟩
  by_cases h0 : zs = []
  · exact .inl h0
  · exact h5.keep k (hn h0)
theorem done_none {d n : Nat} {zs : List Int} {is : List Nat} {out : List (List Nat)} (hm : inP d zs = []) (hD : ((d + 1 : Nat) : Int) ∉ zs) : Done d n zs is out out :=
  ⟨fun _ _ => rfl, fun h => absurd hm h, fun h => by
    rcases h with h | h
    · rw [hm] at h; simp at h
    · exact absurd h hD⟩
theorem done_second {d n : Nat} {zs : List Int} {is : List Nat} {out : List (List Nat)} (hm : inP d zs = []) (hD : ((d + 1 : Nat) : Int) ∈ zs) (hl : d + 1 < out.length) (hni : d + 1 ∉ is) (hb : ∀ i, Bs (out.getD i [])) : Done d n zs is out (out.set (d + 1) (smL (shQ d) out is n)) := by
  have hjs : jsOf d zs = [d + 1] := by unfold jsOf; rw [hm, if_pos hD]; rfl
  refine ⟨fun i hi => ?_, fun h => absurd hm h, fun _ => ?_⟩
  · rw [hjs] at hi
    rw [getD_set hl, if_neg (fun e => hi (by simp [e]))]
  · rw [hjs, addF_set hl hni]
    have : shQ d (d + 1) = 1 := by unfold shQ; rw [if_neg (by omega), if_pos rfl]
    rw [this, addF_self (smL_bs hb), smL_len]

theorem shP_one {d a : Nat} (h : a ≤ d) : shP d a = 1 := by unfold shP; rw [if_neg (by omega)]
theorem done_one {d n a : Nat} {zs : List Int} {is : List Nat} {out : List (List Nat)} (hm : inP d zs = [(a : Int)]) (hD : ((d + 1 : Nat) : Int) ∉ zs) (ha : a ≤ d) (hl : a < out.length) (hni : a ∉ is) (hb : ∀ i, Bs (out.getD i [])) : Done d n zs is out (out.set a (smL (shP d) out is n)) := by
  have hjs : jsOf d zs = [a] := by unfold jsOf; rw [hm, if_neg hD]; simp
  refine ⟨fun i hi => ?_, fun _ => ?_, fun h => ?_⟩
  · rw [hjs] at hi
    rw [getD_set hl, if_neg (fun e => hi (by simp [e]))]
  · rw [hjs, addF_set hl hni, shP_one ha, addF_self (smL_bs hb), smL_len]
  · rcases h with h | h
    · rw [hm] at h; simp at h
    · exact absurd h hD
theorem set_bs {out : List (List Nat)} {i : Nat} {r : List Nat} (hl : i < out.length) (hb : ∀ i, Bs (out.getD i [])) (hr : Bs r) (j : Nat) : Bs ((out.set i r).getD j []) := by
  rw [getD_set hl]
  split
  · exact hr
  · exact hb j
theorem done_one_second {d n a : Nat} {zs : List Int} {is : List Nat} {out : List (List Nat)} (hm : inP d zs = [(a : Int)]) (hD : ((d + 1 : Nat) : Int) ∈ zs) (ha : a ≤ d) (hl : a < out.length) (hl2 : d + 1 < out.length) (hni : a ∉ is) (hns : d + 1 ∉ is ++ [a]) (hb : ∀ i, Bs (out.getD i [])) :
    Done d n zs is out ((out.set a (smL (shP d) out is n)).set (d + 1) (smL (shQ d) (out.set a (smL (shP d) out is n)) (is ++ [a]) n)) := by
  have hjs : jsOf d zs = [a] ++ [d + 1] := by unfold jsOf; rw [hm, if_pos hD]; simp
  have hl3 : d + 1 < (out.set a (smL (shP d) out is n)).length := by rw [List.length_set]; exact hl2
  have hb2 := set_bs hl hb (smL_bs (c := shP d) (is := is) (n := n) hb)
  refine ⟨fun i hi => ?_, fun _ => ?_, fun _ => ?_⟩
  · rw [hjs] at hi
    rw [getD_set hl3, if_neg (fun e => hi (by simp [e])), getD_set hl, if_neg (fun e => hi (by simp [e]))]
  · have h0 : shP d (d + 1) = 0 := by unfold shP; rw [if_pos rfl]
    rw [hjs, ← List.append_assoc, addF_set hl3 hns, h0, addF_none, addF_set hl hni, shP_one ha, addF_self (smL_bs hb), smL_len]
  · have h1 : shQ d (d + 1) = 1 := by unfold shQ; rw [if_neg (by omega), if_pos rfl]
    rw [hjs, ← List.append_assoc, addF_set hl3 hns, h1, addF_self (smL_bs hb2), smL_len]
theorem done_two {d n a b : Nat} {zs : List Int} {is : List Nat} {out : List (List Nat)} (hm : inP d zs = [(a : Int), (b : Int)]) (hD : ((d + 1 : Nat) : Int) ∉ zs) (hd : d ≤ 14) (ha : a ≤ d) (hbd : b ≤ d) (hab : a ≠ b) (hl : a < out.length) (hl2 : b < out.length) (hna : a ∉ is) (hnb : b ∉ is) (hb : ∀ i, Bs (out.getD i [])) :
    Done d n zs is out ((out.set b (partL (smL (shP d) out is n) (smL (shQ d) out is n) (shQ d b) (shQ d a) n)).set a (smL (shP d) (out.set b (partL (smL (shP d) out is n) (smL (shQ d) out is n) (shQ d b) (shQ d a) n)) (is ++ [b]) n)) := by
  have hjs : jsOf d zs = [b] ++ [a] := by unfold jsOf; rw [hm, if_neg hD]; simp
  have hX : Bs (partL (smL (shP d) out is n) (smL (shQ d) out is n) (shQ d b) (shQ d a) n) := partL_bs (smL_bs hb) (smL_bs hb)
  have hl3 : a < (out.set b (partL (smL (shP d) out is n) (smL (shQ d) out is n) (shQ d b) (shQ d a) n)).length := by rw [List.length_set]; exact hl
  have hb2 := set_bs hl2 hb hX
  have hna2 : a ∉ is ++ [b] := fun h => by
    rcases List.mem_append.1 h with h | h
    · exact hna h
    · exact hab (List.mem_singleton.1 h)
  refine ⟨fun i hi => ?_, fun _ => ?_, fun _ => ?_⟩
  · rw [hjs] at hi
    rw [getD_set hl3, if_neg (fun e => hi (by simp [e])), getD_set hl2, if_neg (fun e => hi (by simp [e]))]
  · rw [hjs, ← List.append_assoc, addF_set hl3 hna2, shP_one ha, addF_self (smL_bs hb2), smL_len]
  · rw [hjs, ← List.append_assoc, addF_set hl3 hna2, addF_set hl2 hnb, addF_set hl2 hnb, shP_one hbd]
    exact two_zero (smL_bs hb) (smL_bs hb) (shQ_lt _ _) (shQ_lt _ _) (shQ_ne hd hbd ha (fun e => hab e.symm)) (smL_len _ _ _ _) (smL_len _ _ _ _)

set_option maxRecDepth 100000 in
set_option maxHeartbeats 16000000 in
theorem fill_none (d : Nat) (hd : d ≤ 14) (gp gq gR n N lo : Nat) (is : List Nat) (cur : Array Value) (out : List (List Nat)) (w : World) (hlo : lo ≤ w.heap.size) (hF : FSt d w lo gp gq gR n N is cur out) (zs : List Int) (vz : Value) (gz : Nat) (hZ : ZArg w vz gz zs) (hzne : zs ≠ [] → gz ≠ gp ∧ gz ≠ gq ∧ gz ≠ gR) (hN : N = d + 2) (hpk : pk zs N = true)
    (his : ∀ i ∈ is, keep zs i = true) (hn : n ≤ 100000) (hm : inP d zs = []) :
    Calls Tryz.prog 62 #[sv d (.slice (some ⟨gp, 0, none⟩) n n) (.slice (some ⟨gq, 0, none⟩) n n), .slice (some ⟨gR, 0, none⟩) N N, vz] w fun e w' => (∃ u, e = .returned u) ∧ ∃ cur' out', FSt d w' lo gp gq gR n N (is ++ jsOf d zs) cur' out' ∧ Kp [gp, gq, gR] w w' ∧ Done d n zs is out out' := by
  obtain ⟨hz2, hzb, hznd⟩ := pk_parts hpk
  have hN16 : N ≤ 16 ∧ d + 1 < N := by omega
  obtain ⟨hN16, hdN⟩ := hN16
  have HNN := hide hN
  have HFS := hide hF
  have HZ := hide hZ
  have HM := hide hm
  have HND := hide hznd
  have HZBD := hide hZ.bd
  have HZN : Hid (zs ≠ [] → gz < w.heap.size ∧ gz ≠ gp ∧ gz ≠ gq ∧ gz ≠ gR) := fun h => ⟨hZ.lt h, hzne h⟩
  have HNS : Hid (((d + 1 : Nat) : Int) ∈ zs → d + 1 ∉ is) := fun h hm => by have h2 := his _ hm; unfold keep at h2; rw [decide_eq_true h] at h2; cases h2
  have HOL : Hid (out.length = N) := hF.len
  obtain ⟨za, zc, hvz, _⟩ := hZ.ex
  subst hvz
  obtain ⟨zl, hzl⟩ : ∃ zl, zs.length = zl := ⟨_, rfl⟩
  have HZL := hide hzl
  rw [hzl] at HZ hz2 ⊢
  clear hF hZ hm hznd hzl hN hzne
  unfold sv
  have HSB : Hid (SBox (w.alloc (.cells #[.int .i64 (d : Int), .slice (some ⟨gp, 0, none⟩) n n, .slice (some ⟨gq, 0, none⟩) n n] 105)) w.heap.size d (.slice (some ⟨gp, 0, none⟩) n n) (.slice (some ⟨gq, 0, none⟩) n n)) := ⟨World.alloc_heap_new w _⟩
  have HB1 : Hid (Below w.heap.size w (w.alloc (.cells #[.int .i64 (d : Int), .slice (some ⟨gp, 0, none⟩) n n, .slice (some ⟨gq, 0, none⟩) n n] 105))) := (Below.refl _ _).alloc (Nat.le_refl _) _
  go_enter Tryz.func62, Tryz.ntmps62
  go_wp2_with fail
  generalize w.alloc (.cells #[.int .i64 (d : Int), .slice (some ⟨gp, 0, none⟩) n n, .slice (some ⟨gq, 0, none⟩) n n] 105) = w1 at HSB HB1 ⊢
  have hbx := (unhide HSB).lt
  have hwx := (unhide HB1).size
  have hgx : gp < w.heap.size ∧ gq < w.heap.size ∧ gR < w.heap.size := by have h1 := (unhide HFS).hp; have h2 := (unhide HFS).hq; have h3 := (unhide HFS).hR; omega
  obtain ⟨hgx1, hgx2, hgx3⟩ := hgx
  replace HFS := hide ((unhide HFS).below (unhide HB1))
  replace HZ := hide ((unhide HZ).below (unhide HB1))
  have HKP : Hid (Kp [gp, gq, gR] w w1) := (Kp.refl _ w).ofBelow (unhide HB1)
  refine wp_scope_jumps 0 (fun a' w' => (∃ ao c a8 n8 c8, a' = { tmps := #[.agg #[.int .i64 (d : Int), .slice (some ⟨gp, 0, none⟩) n n, .slice (some ⟨gq, 0, none⟩) n n], .slice (some ⟨gR, 0, none⟩) N N, .slice za zl zc, .pointer (some ⟨w.heap.size, 0, none⟩), undef, undef, .slice ao 0 c, .slice za zl zc, .slice a8 n8 c8, .func (.func 95) #[] #[.pointer (some ⟨w.heap.size, 0, none⟩)], .slice ao 0 c, .slice ao 0 c, .int .i64 0, .bool true, .bool true, undef, undef, undef, undef, undef, undef, undef, undef, undef, undef, undef, undef, undef, undef, undef, undef, undef, undef, undef, undef, undef, undef, undef, undef, undef, undef, undef, undef, undef, undef, undef, undef, undef, undef, undef, undef, undef], defers := [] }) ∧ FSt d w' lo gp gq gR n N is cur out ∧ SBox w' w.heap.size d (.slice (some ⟨gp, 0, none⟩) n n) (.slice (some ⟨gq, 0, none⟩) n n) ∧ ZArg w' (.slice za zl zc) gz zs ∧ Kp [gp, gq, gR] w w' ∧ w1.heap.size ≤ w'.heap.size) (fun _ _ => 0) rfl ?_ ?_
  · go_wp2_with fail
    refine (cloneI_any _ gz zs w1 (unhide HZ) (by rw [unhide HZL]; omega)).mono ?_
    rintro e w2 ⟨v8, rfl, hFz, hk⟩
    have HFZ := hide hFz
    have HB2 := hide hk
    have hz12 := hk.size
    have hvs : ∃ ao n c, v8 = .slice ao n c := by
      rcases hFz with ⟨_, ao, c, h, _⟩ | ⟨g, c, h, _⟩
      · exact ⟨ao, _, c, h⟩
      · exact ⟨_, _, c, h⟩
    obtain ⟨a8, n8, c8, rfl⟩ := hvs
    clear hk hFz
    go_wp2_with fail
    refine (del_any _ zs w.heap.size d w1.heap.size hd _ _ _ _ _ _ w2 hz12 (unhide HFZ) (unhide HZBD) (by rw [unhide HZL]; exact hz2) (unhide HND) ((unhide HSB).below (unhide HB2) (unhide HSB).lt) (unhide HSB).lt).mono ?_
    rintro e w3 ⟨hk, ao, c, g, rfl, hIR, hgl⟩
    rw [unhide HM] at hIR hgl ⊢
    have hB3 := (unhide HB2).trans hk
    replace HFS := hide ((unhide HFS).below hB3)
    replace HSB := hide ((unhide HSB).below hB3 (unhide HSB).lt)
    replace HZ := hide ((unhide HZ).below hB3)
    replace HKP := hide ((unhide HKP).ofBelow hB3)
    have HB3 := hide hB3
    have hz13 := hB3.size
    clear hk hB3
    rw [show ([] : List Int).length = 0 from rfl]
    go_wp2_with fail
    go_step3
    exact ⟨rfl, ⟨ao, c, a8, n8, c8, rfl⟩, unhide HFS, unhide HSB, unhide HZ, unhide HKP, hz13⟩
  · rintro a' w3 ⟨⟨ao, c, a8, n8, c8, rfl⟩, hFS, hSB, hZ3, hKP, hz13⟩
    replace HFS := hide hFS
    replace HSB := hide hSB
    replace HZ := hide hZ3
    replace HKP := hide hKP
    have HOB : Hid (∀ i, Bs (out.getD i [])) := hFS.bs
    clear hFS hSB hZ3 hKP
    obtain ⟨⟨c0, c1, c2⟩, _⟩ := three_at (unhide HSB).h
    have HC0 := hide c0
    have HC1 := hide c1
    have HC2 := hide c2
    go_wp2_with fail
    refine (second_any d hd _ _ _ _ _ _ _).mono ?_
    rintro e w21 ⟨rfl, hk4⟩
    replace HFS := hide ((unhide HFS).below hk4)
    replace HSB := hide ((unhide HSB).below hk4 (unhide HSB).lt)
    replace HZ := hide ((unhide HZ).below hk4)
    replace HKP := hide ((unhide HKP).ofBelow hk4)
    replace HC0 := hide ((hk4.cell (block_lt_of_cell (unhide HC0))).trans (unhide HC0))
    replace HC1 := hide ((hk4.cell (block_lt_of_cell (unhide HC1))).trans (unhide HC1))
    replace HC2 := hide ((hk4.cell (block_lt_of_cell (unhide HC2))).trans (unhide HC2))
    clear hk4 c0 c1 c2
    go_wp2_with fail
    refine (contains_any _ gz zs _ w21 (unhide HZ)).mono ?_
    rintro e w0 ⟨rfl, hw0⟩
    subst hw0
    by_cases hD : ((d + 1 : Nat) : Int) ∈ zs
    · have hdd : decide ((d : Int) + 1 ∈ zs) = true := by simpa using hD
      rw [hdd]
      have HD := hide hD
      clear hdd hD
      go_wp2_with fail
      have hloR : lo ≤ w0.heap.size := by have h1 := (unhide HKP).size; omega
      replace HFS := hide ((unhide HFS).below (Below.refl _ _).drew)
      refine wp_region_noPanic ?_
      refine wp_region_held_drew (S := fun W => Kp [gp, gq, gR] w0 W) (by kernel_rfl) ((Kp.refl _ _).drew) (fun hHeld => ?_)
      have HH := hide hHeld
      clear hHeld
      refine takeL (i := 0) (v := ?_) rfl (by kernel_rfl) (by kernel_rfl) (by kernel_rfl) (fun _ _ _ h => h) (Or.inl ⟨by rfl, ?_⟩) (unhide HH) ?_
      rotate_left 1
      · intro W1 hSW; have hc0 := hSW.cell (unhide HC0) (by simp; omega); have hc1 := hSW.cell (unhide HC1) (by simp; omega); have hc2 := hSW.cell (unhide HC2) (by simp; omega); clear hSW; go_simp; all_goals (with_reducible rfl)
      (try simp only [Act.put, List.setIfInBounds_toArray, List.set_cons_zero, List.set_cons_succ])
      refine takeL (i := 1) (v := ?_) rfl (by kernel_rfl) (by kernel_rfl) (by kernel_rfl) (fun _ _ _ h => h) (Or.inl ⟨by rfl, ?_⟩) (unhide HH) ?_
      rotate_left 1
      · intro W hSW; go_simp; all_goals (with_reducible rfl)
      (try simp only [Act.put, List.setIfInBounds_toArray, List.set_cons_zero, List.set_cons_succ])
      refine takeL (i := 2) (v := ?_) rfl (by kernel_rfl) (by kernel_rfl) (by kernel_rfl) (fun _ _ _ h => h) (Or.inl ⟨by rfl, ?_⟩) (unhide HH) ?_
      rotate_left 1
      · intro W1 hSW; have hc0 := hSW.cell (unhide HC0) (by simp; omega); have hc1 := hSW.cell (unhide HC1) (by simp; omega); have hc2 := hSW.cell (unhide HC2) (by simp; omega); clear hSW; go_simp; all_goals (with_reducible rfl)
      (try simp only [Act.put, List.setIfInBounds_toArray, List.set_cons_zero, List.set_cons_succ])
      refine takeL (i := 4) (v := ?_) rfl (by kernel_rfl) (by kernel_rfl) (by kernel_rfl) (fun _ _ _ h => h) (Or.inl ⟨by rfl, ?_⟩) (unhide HH) ?_
      rotate_left 1
      · intro W hSW; go_simp; all_goals (with_reducible rfl)
      (try simp only [Act.put, List.setIfInBounds_toArray, List.set_cons_zero, List.set_cons_succ])
      refine takeL (i := 5) (v := ?_) rfl (by kernel_rfl) (by kernel_rfl) (by kernel_rfl) (fun _ _ _ h => h) (Or.inl ⟨by rfl, ?_⟩) (unhide HH) ?_
      rotate_left 1
      · intro W1 hSW; have hc0 := hSW.cell (unhide HC2) (by simp; omega); clear hSW; go_simp; all_goals (with_reducible rfl)
      (try simp only [Act.put, List.setIfInBounds_toArray, List.set_cons_zero, List.set_cons_succ])
      refine wpAnyH_ready (rs := [3]) (by kernel_rfl) (by simp) ?_
      refine consL rfl (fun K hK => ?_) AllReadyH.nil
      go_simp
      refine (second_any d hd _ _ _ _ _ _ _).mono ?_
      rintro e w22 ⟨rfl, hk4⟩
      replace HFS := hide ((unhide HFS).below hk4)
      have HK4 := hide hk4
      clear hk4
      go_wp2_with fail
      refine hK.out _ _ ((unhide HH).ofBelow (unhide HK4)) (fun hHeld => ?_)
      clear hK K HH
      have HH := hide hHeld
      clear hHeld
      (try simp only [Act.put, List.setIfInBounds_toArray, List.set_cons_zero, List.set_cons_succ])
      clear HK4
      refine wpAnyH_ready (rs := [6]) (by kernel_rfl) (by simp) ?_
      refine consL rfl (fun K hK => ?_) AllReadyH.nil
      go_simp
      refine (cloneB_any5 _ gq _ _ ((unhide HFS).argQ hn) (by rw [smL_len]; exact hn)).mono ?_
      rintro e w23 ⟨v5, rfl, hCL, hk4⟩
      replace HFS := hide ((unhide HFS).below hk4)
      have hlo5 : lo ≤ w22.heap.size := Nat.le_trans hloR (unhide HH).size
      have HCL := hide (hCL.lower hlo5)
      have HK4 := hide hk4
      clear hk4 hCL hlo5
      go_wp2_with fail
      refine hK.out _ _ ((unhide HH).ofBelow (unhide HK4)) (fun hHeld => ?_)
      clear hK K HH
      have HH := hide hHeld
      clear hHeld
      (try simp only [Act.put, List.setIfInBounds_toArray, List.set_cons_zero, List.set_cons_succ])
      clear HK4
      refine wpAnyH_ready (rs := [7]) (by kernel_rfl) (by simp) ?_
      refine consL rfl (fun K hK => ?_) AllReadyH.nil
      have hf1 := (unhide HFS).hp
      have hf2 := (unhide HFS).hq
      have hf3 := (unhide HFS).hR
      obtain ⟨g5, hA5, hg5⟩ := (unhide HCL).arg (smL_bs (unhide HFS).bs)
      have HA5 := hide hA5
      clear hA5
      go_simp
      rw [show (d : Int) + 1 = ((d + 1 : Nat) : Int) from by omega]
      refine (put_any d hd gp gq gR n n n N N _ _ _ (d + 1) (by omega) (by omega) _ g5 _ _ (unhide HFS).p (unhide HFS).q (smL_len _ _ _ _) (smL_len _ _ _ _) (smL_bs (unhide HFS).bs) (smL_bs (unhide HFS).bs) (unhide HFS).pq (unhide HA5) (smL_len _ _ _ _) (fun _ => ⟨by omega, by omega, by omega⟩) hn (unhide HFS).R (by rw [(unhide HFS).cs]; exact Nat.le_refl _)).mono ?_
      rintro e w24 ⟨⟨u9, rfl⟩, hp9, hq9, hR9, hk9⟩
      replace HFS := hide ((unhide HFS).put (i := d + 1) (by omega) (unhide HNS (unhide HD)) (unhide HCL) (smL_len _ _ _ _) (smL_bs (unhide HFS).bs) hp9 hq9 hR9 hk9)
      have HK4 := hide hk9
      clear hp9 hq9 hR9 hk9 HA5 hg5 HCL hf1 hf2 hf3
      go_wp2_with fail
      refine hK.out _ _ ((unhide HH).trans (unhide HK4) (by simp)) (fun hHeld => ?_)
      clear hK K HH
      have HH := hide hHeld
      clear hHeld
      (try simp only [Act.put, List.setIfInBounds_toArray, List.set_cons_zero, List.set_cons_succ])
      clear HK4
      refine wpAnyH_done (by kernel_rfl) ?_ _
      refine NoPanic.normal ?_
      replace HKP := hide ((unhide HKP).trans (unhide HH) (by simp))
      replace HSB := hide ((unhide HSB).kp (unhide HH) (by simp; omega))
      replace HZ := hide ((unhide HZ).keepK (unhide HH) (fun h => by have := unhide HZN h; simp; omega))
      clear HH hloR
      (try simp only [Exit.jump])
      (try simp only [Exit.noGoto_normal])
      (try simp only [Exit.then])
      go_wp2
      (try simp only [Exit.jump])
      (try simp only [Exit.noGoto_normal])
      go_end0
      have hjs : jsOf d zs = [d + 1] := by unfold jsOf; rw [unhide HM]; rw [if_pos (unhide HD)]; simp
      have hFF := unhide HFS
      rw [show (is ++ [d + 1]) = is ++ jsOf d zs from by simp [hjs]] at hFF
      exact ⟨⟨_, rfl⟩, _, _, hFF, unhide HKP, done_second (unhide HM) (unhide HD) (by rw [unhide HOL]; exact hdN) (unhide HNS (unhide HD)) (unhide HOB)⟩
    · have hdd : decide ((d : Int) + 1 ∈ zs) = false := by simpa using hD
      rw [hdd]
      have HD := hide hD
      clear hdd hD
      go_wp2_with fail
      (try simp only [Exit.jump])
      (try simp only [Exit.noGoto_normal])
      (try simp only [Exit.then])
      go_wp2
      (try simp only [Exit.jump])
      (try simp only [Exit.noGoto_normal])
      go_end0
      have hjs : jsOf d zs = [] := by unfold jsOf; rw [unhide HM]; rw [if_neg (unhide HD)]; simp
      have hFF := unhide HFS
      rw [show (is) = is ++ jsOf d zs from by simp [hjs]] at hFF
      exact ⟨⟨_, rfl⟩, _, _, hFF, unhide HKP, done_none (unhide HM) (unhide HD)⟩

set_option maxRecDepth 100000 in
set_option maxHeartbeats 16000000 in
theorem fill_one (d : Nat) (hd : d ≤ 14) (gp gq gR n N lo : Nat) (is : List Nat) (cur : Array Value) (out : List (List Nat)) (w : World) (hlo : lo ≤ w.heap.size) (hF : FSt d w lo gp gq gR n N is cur out) (zs : List Int) (vz : Value) (gz : Nat) (hZ : ZArg w vz gz zs) (hzne : zs ≠ [] → gz ≠ gp ∧ gz ≠ gq ∧ gz ≠ gR) (hN : N = d + 2) (hpk : pk zs N = true)
    (his : ∀ i ∈ is, keep zs i = true) (hn : n ≤ 100000) (a : Nat) (had : a ≤ d) (hm : inP d zs = [(a : Int)]) (HNA : Hid (a ∉ is)) :
    Calls Tryz.prog 62 #[sv d (.slice (some ⟨gp, 0, none⟩) n n) (.slice (some ⟨gq, 0, none⟩) n n), .slice (some ⟨gR, 0, none⟩) N N, vz] w fun e w' => (∃ u, e = .returned u) ∧ ∃ cur' out', FSt d w' lo gp gq gR n N (is ++ jsOf d zs) cur' out' ∧ Kp [gp, gq, gR] w w' ∧ Done d n zs is out out' := by
  obtain ⟨hz2, hzb, hznd⟩ := pk_parts hpk
  have hN16 : N ≤ 16 ∧ d + 1 < N := by omega
  obtain ⟨hN16, hdN⟩ := hN16
  have HNN := hide hN
  have HFS := hide hF
  have HZ := hide hZ
  have HM := hide hm
  have HND := hide hznd
  have HZBD := hide hZ.bd
  have HZN : Hid (zs ≠ [] → gz < w.heap.size ∧ gz ≠ gp ∧ gz ≠ gq ∧ gz ≠ gR) := fun h => ⟨hZ.lt h, hzne h⟩
  have HNS : Hid (((d + 1 : Nat) : Int) ∈ zs → d + 1 ∉ (is ++ [a])) := fun h hm => by
    rcases List.mem_append.1 hm with hm | hm
    · have h2 := his _ hm; unfold keep at h2; rw [decide_eq_true h] at h2; cases h2
    · have := List.mem_singleton.1 hm; omega
  have HOL : Hid (out.length = N) := hF.len
  obtain ⟨za, zc, hvz, _⟩ := hZ.ex
  subst hvz
  obtain ⟨zl, hzl⟩ : ∃ zl, zs.length = zl := ⟨_, rfl⟩
  have HZL := hide hzl
  rw [hzl] at HZ hz2 ⊢
  clear hF hZ hm hznd hzl hN hzne
  unfold sv
  have HSB : Hid (SBox (w.alloc (.cells #[.int .i64 (d : Int), .slice (some ⟨gp, 0, none⟩) n n, .slice (some ⟨gq, 0, none⟩) n n] 105)) w.heap.size d (.slice (some ⟨gp, 0, none⟩) n n) (.slice (some ⟨gq, 0, none⟩) n n)) := ⟨World.alloc_heap_new w _⟩
  have HB1 : Hid (Below w.heap.size w (w.alloc (.cells #[.int .i64 (d : Int), .slice (some ⟨gp, 0, none⟩) n n, .slice (some ⟨gq, 0, none⟩) n n] 105))) := (Below.refl _ _).alloc (Nat.le_refl _) _
  go_enter Tryz.func62, Tryz.ntmps62
  go_wp2_with fail
  generalize w.alloc (.cells #[.int .i64 (d : Int), .slice (some ⟨gp, 0, none⟩) n n, .slice (some ⟨gq, 0, none⟩) n n] 105) = w1 at HSB HB1 ⊢
  have hbx := (unhide HSB).lt
  have hwx := (unhide HB1).size
  have hgx : gp < w.heap.size ∧ gq < w.heap.size ∧ gR < w.heap.size := by have h1 := (unhide HFS).hp; have h2 := (unhide HFS).hq; have h3 := (unhide HFS).hR; omega
  obtain ⟨hgx1, hgx2, hgx3⟩ := hgx
  replace HFS := hide ((unhide HFS).below (unhide HB1))
  replace HZ := hide ((unhide HZ).below (unhide HB1))
  have HKP : Hid (Kp [gp, gq, gR] w w1) := (Kp.refl _ w).ofBelow (unhide HB1)
  have haN : a < N := by omega
  refine wp_scope_jumps 1 (fun a' w' => (∃ gi oi c a8 n8 c8, a' = { tmps := #[.agg #[.int .i64 (d : Int), .slice (some ⟨gp, 0, none⟩) n n, .slice (some ⟨gq, 0, none⟩) n n], .slice (some ⟨gR, 0, none⟩) N N, .slice za zl zc, .pointer (some ⟨w.heap.size, 0, none⟩), undef, undef, .slice (some ⟨gi, oi, none⟩) 1 c, .slice za zl zc, .slice a8 n8 c8, .func (.func 95) #[] #[.pointer (some ⟨w.heap.size, 0, none⟩)], .slice (some ⟨gi, oi, none⟩) 1 c, .slice (some ⟨gi, oi, none⟩) 1 c, .int .i64 1, .bool false, .bool false, .bool true, .bool true, undef, undef, undef, undef, undef, undef, undef, undef, undef, undef, undef, undef, undef, undef, undef, undef, undef, undef, undef, undef, undef, undef, undef, undef, undef, undef, undef, undef, undef, undef, undef, undef, undef, undef, undef], defers := [] } ∧ w'.cell? ⟨gi, oi, none⟩ = some (.int .i64 (a : Int)) ∧ w1.heap.size ≤ gi) ∧ FSt d w' lo gp gq gR n N is cur out ∧ SBox w' w.heap.size d (.slice (some ⟨gp, 0, none⟩) n n) (.slice (some ⟨gq, 0, none⟩) n n) ∧ ZArg w' (.slice za zl zc) gz zs ∧ Kp [gp, gq, gR] w w' ∧ w1.heap.size ≤ w'.heap.size) (fun _ _ => 0) rfl ?_ ?_
  · go_wp2_with fail
    refine (cloneI_any _ gz zs w1 (unhide HZ) (by rw [unhide HZL]; omega)).mono ?_
    rintro e w2 ⟨v8, rfl, hFz, hk⟩
    have HFZ := hide hFz
    have HB2 := hide hk
    have hz12 := hk.size
    have hvs : ∃ ao n c, v8 = .slice ao n c := by
      rcases hFz with ⟨_, ao, c, h, _⟩ | ⟨g, c, h, _⟩
      · exact ⟨ao, _, c, h⟩
      · exact ⟨_, _, c, h⟩
    obtain ⟨a8, n8, c8, rfl⟩ := hvs
    clear hk hFz
    go_wp2_with fail
    refine (del_any _ zs w.heap.size d w1.heap.size hd _ _ _ _ _ _ w2 hz12 (unhide HFZ) (unhide HZBD) (by rw [unhide HZL]; exact hz2) (unhide HND) ((unhide HSB).below (unhide HB2) (unhide HSB).lt) (unhide HSB).lt).mono ?_
    rintro e w3 ⟨hk, ao, c, g, rfl, hIR, hgl⟩
    rw [unhide HM] at hIR hgl ⊢
    have hB3 := (unhide HB2).trans hk
    replace HFS := hide ((unhide HFS).below hB3)
    replace HSB := hide ((unhide HSB).below hB3 (unhide HSB).lt)
    replace HZ := hide ((unhide HZ).below hB3)
    replace HKP := hide ((unhide HKP).ofBelow hB3)
    have HB3 := hide hB3
    have hz13 := hB3.size
    clear hk hB3
    rw [show [(a : Int)].length = 1 from rfl]
    obtain ⟨oi, rfl, hA0, _⟩ := irow_at hIR (by simp)
    have HA0 := hide hA0
    have hgl' := hgl (by simp)
    clear hIR hgl hA0
    go_wp2_with fail
    go_step3
    exact ⟨rfl, ⟨g, oi, c, a8, n8, c8, rfl, unhide HA0, hgl'⟩, unhide HFS, unhide HSB, unhide HZ, unhide HKP, hz13⟩
  · rintro a' w3 ⟨⟨gi, oi, c, a8, n8, c8, rfl, hA0, hgi⟩, hFS, hSB, hZ3, hKP, hz13⟩
    replace HFS := hide hFS
    replace HSB := hide hSB
    replace HZ := hide hZ3
    replace HKP := hide hKP
    have HOB : Hid (∀ i, Bs (out.getD i [])) := hFS.bs
    have HA0 := hide hA0
    clear hFS hSB hZ3 hKP hA0
    obtain ⟨⟨c0, c1, c2⟩, _⟩ := three_at (unhide HSB).h
    have HC0 := hide c0
    have HC1 := hide c1
    have HC2 := hide c2
    clear c0 c1 c2
    go_wp2_with fail
    have hloR : lo ≤ w3.heap.size := by have h1 := (unhide HKP).size; omega
    replace HFS := hide ((unhide HFS).below (Below.refl _ _).drew)
    refine wp_region_noPanic ?_
    refine wp_region_held_drew (S := fun W => Kp [gp, gq, gR] w3 W) (by kernel_rfl) ((Kp.refl _ _).drew) (fun hHeld => ?_)
    have HH := hide hHeld
    clear hHeld
    refine takeL (i := 0) (v := ?_) rfl (by kernel_rfl) (by kernel_rfl) (by kernel_rfl) (fun _ _ _ h => h) (Or.inl ⟨by rfl, ?_⟩) (unhide HH) ?_
    rotate_left 1
    · intro W1 hSW; have hc0 := hSW.cell (unhide HC0) (by simp; omega); have hc1 := hSW.cell (unhide HC1) (by simp; omega); have hc2 := hSW.cell (unhide HC2) (by simp; omega); clear hSW; go_simp; all_goals (with_reducible rfl)
    (try simp only [Act.put, List.setIfInBounds_toArray, List.set_cons_zero, List.set_cons_succ])
    refine takeL (i := 1) (v := ?_) rfl (by kernel_rfl) (by kernel_rfl) (by kernel_rfl) (fun _ _ _ h => h) (Or.inl ⟨by rfl, ?_⟩) (unhide HH) ?_
    rotate_left 1
    · intro W hSW; go_simp; all_goals (with_reducible rfl)
    (try simp only [Act.put, List.setIfInBounds_toArray, List.set_cons_zero, List.set_cons_succ])
    refine takeL (i := 2) (v := ?_) rfl (by kernel_rfl) (by kernel_rfl) (by kernel_rfl) (fun _ _ _ h => h) (Or.inl ⟨by rfl, ?_⟩) (unhide HH) ?_
    rotate_left 1
    · intro W hSW; go_simp; all_goals (with_reducible rfl)
    (try simp only [Act.put, List.setIfInBounds_toArray, List.set_cons_zero, List.set_cons_succ])
    refine takeL (i := 3) (v := ?_) rfl (by kernel_rfl) (by kernel_rfl) (by kernel_rfl) (fun _ _ _ h => h) (Or.inl ⟨by rfl, ?_⟩) (unhide HH) ?_
    rotate_left 1
    · intro W hSW; go_simp; all_goals (with_reducible rfl)
    (try simp only [Act.put, List.setIfInBounds_toArray, List.set_cons_zero, List.set_cons_succ])
    refine takeL (i := 4) (v := ?_) rfl (by kernel_rfl) (by kernel_rfl) (by kernel_rfl) (fun _ _ _ h => h) (Or.inl ⟨by rfl, ?_⟩) (unhide HH) ?_
    rotate_left 1
    · intro W1 hSW; have hc0 := hSW.cell (unhide HA0) (by simp; omega); clear hSW; go_simp; all_goals (with_reducible rfl)
    (try simp only [Act.put, List.setIfInBounds_toArray, List.set_cons_zero, List.set_cons_succ])
    refine takeL (i := 5) (v := ?_) rfl (by kernel_rfl) (by kernel_rfl) (by kernel_rfl) (fun _ _ _ h => h) (Or.inl ⟨by rfl, ?_⟩) (unhide HH) ?_
    rotate_left 1
    · intro W hSW; go_simp; all_goals (with_reducible rfl)
    (try simp only [Act.put, List.setIfInBounds_toArray, List.set_cons_zero, List.set_cons_succ])
    refine takeL (i := 6) (v := ?_) rfl (by kernel_rfl) (by kernel_rfl) (by kernel_rfl) (fun _ _ _ h => h) (Or.inl ⟨by rfl, ?_⟩) (unhide HH) ?_
    rotate_left 1
    · intro W1 hSW; have hc0 := hSW.cell (unhide HC1) (by simp; omega); clear hSW; go_simp; all_goals (with_reducible rfl)
    (try simp only [Act.put, List.setIfInBounds_toArray, List.set_cons_zero, List.set_cons_succ])
    refine wpAnyH_ready (rs := [7]) (by kernel_rfl) (by simp) ?_
    refine consL rfl (fun K hK => ?_) AllReadyH.nil
    go_simp
    refine (cloneB_any5 _ gp _ _ ((unhide HFS).argP hn) (by rw [smL_len]; exact hn)).mono ?_
    rintro e w25 ⟨v5, rfl, hCL, hk4⟩
    replace HFS := hide ((unhide HFS).below hk4)
    have hlo5 : lo ≤ w3.heap.size := Nat.le_trans hloR (unhide HH).size
    have HCL := hide (hCL.lower hlo5)
    have HK4 := hide hk4
    clear hk4 hCL hlo5
    go_wp2_with fail
    refine hK.out _ _ ((unhide HH).ofBelow (unhide HK4)) (fun hHeld => ?_)
    clear hK K HH
    have HH := hide hHeld
    clear hHeld
    (try simp only [Act.put, List.setIfInBounds_toArray, List.set_cons_zero, List.set_cons_succ])
    clear HK4
    refine wpAnyH_ready (rs := [8]) (by kernel_rfl) (by simp) ?_
    refine consL rfl (fun K hK => ?_) AllReadyH.nil
    have hf1 := (unhide HFS).hp
    have hf2 := (unhide HFS).hq
    have hf3 := (unhide HFS).hR
    obtain ⟨g5, hA5, hg5⟩ := (unhide HCL).arg (smL_bs (unhide HFS).bs)
    have HA5 := hide hA5
    clear hA5
    go_simp

    refine (put_any d hd gp gq gR n n n N N _ _ _ (a) (by omega) haN _ g5 _ _ (unhide HFS).p (unhide HFS).q (smL_len _ _ _ _) (smL_len _ _ _ _) (smL_bs (unhide HFS).bs) (smL_bs (unhide HFS).bs) (unhide HFS).pq (unhide HA5) (smL_len _ _ _ _) (fun _ => ⟨by omega, by omega, by omega⟩) hn (unhide HFS).R (by rw [(unhide HFS).cs]; exact Nat.le_refl _)).mono ?_
    rintro e w26 ⟨⟨u9, rfl⟩, hp9, hq9, hR9, hk9⟩
    replace HFS := hide ((unhide HFS).put (i := a) haN (unhide HNA) (unhide HCL) (smL_len _ _ _ _) (smL_bs (unhide HFS).bs) hp9 hq9 hR9 hk9)
    have HK4 := hide hk9
    clear hp9 hq9 hR9 hk9 HA5 hg5 HCL hf1 hf2 hf3
    go_wp2_with fail
    refine hK.out _ _ ((unhide HH).trans (unhide HK4) (by simp)) (fun hHeld => ?_)
    clear hK K HH
    have HH := hide hHeld
    clear hHeld
    (try simp only [Act.put, List.setIfInBounds_toArray, List.set_cons_zero, List.set_cons_succ])
    clear HK4
    refine wpAnyH_done (by kernel_rfl) ?_ _
    refine NoPanic.normal ?_
    replace HKP := hide ((unhide HKP).trans (unhide HH) (by simp))
    replace HSB := hide ((unhide HSB).kp (unhide HH) (by simp; omega))
    replace HZ := hide ((unhide HZ).keepK (unhide HH) (fun h => by have := unhide HZN h; simp; omega))
    clear HH hloR
    go_wp2_with fail
    (try go_step3)
    obtain ⟨⟨c0, c1, c2⟩, _⟩ := three_at (unhide HSB).h
    have HC0 := hide c0
    have HC1 := hide c1
    have HC2 := hide c2
    go_wp2_with fail
    refine (second_any d hd _ _ _ _ _ _ _).mono ?_
    rintro e w27 ⟨rfl, hk4⟩
    replace HFS := hide ((unhide HFS).below hk4)
    replace HSB := hide ((unhide HSB).below hk4 (unhide HSB).lt)
    replace HZ := hide ((unhide HZ).below hk4)
    replace HKP := hide ((unhide HKP).ofBelow hk4)
    replace HC0 := hide ((hk4.cell (block_lt_of_cell (unhide HC0))).trans (unhide HC0))
    replace HC1 := hide ((hk4.cell (block_lt_of_cell (unhide HC1))).trans (unhide HC1))
    replace HC2 := hide ((hk4.cell (block_lt_of_cell (unhide HC2))).trans (unhide HC2))
    clear hk4 c0 c1 c2
    go_wp2_with fail
    refine (contains_any _ gz zs _ w27 (unhide HZ)).mono ?_
    rintro e w0 ⟨rfl, hw0⟩
    subst hw0
    by_cases hD : ((d + 1 : Nat) : Int) ∈ zs
    · have hdd : decide ((d : Int) + 1 ∈ zs) = true := by simpa using hD
      rw [hdd]
      have HD := hide hD
      clear hdd hD
      go_wp2_with fail
      have hloR : lo ≤ w0.heap.size := by have h1 := (unhide HKP).size; omega
      replace HFS := hide ((unhide HFS).below (Below.refl _ _).drew)
      refine wp_region_noPanic ?_
      refine wp_region_held_drew (S := fun W => Kp [gp, gq, gR] w0 W) (by kernel_rfl) ((Kp.refl _ _).drew) (fun hHeld => ?_)
      have HH := hide hHeld
      clear hHeld
      refine takeL (i := 0) (v := ?_) rfl (by kernel_rfl) (by kernel_rfl) (by kernel_rfl) (fun _ _ _ h => h) (Or.inl ⟨by rfl, ?_⟩) (unhide HH) ?_
      rotate_left 1
      · intro W1 hSW; have hc0 := hSW.cell (unhide HC0) (by simp; omega); have hc1 := hSW.cell (unhide HC1) (by simp; omega); have hc2 := hSW.cell (unhide HC2) (by simp; omega); clear hSW; go_simp; all_goals (with_reducible rfl)
      (try simp only [Act.put, List.setIfInBounds_toArray, List.set_cons_zero, List.set_cons_succ])
      refine takeL (i := 1) (v := ?_) rfl (by kernel_rfl) (by kernel_rfl) (by kernel_rfl) (fun _ _ _ h => h) (Or.inl ⟨by rfl, ?_⟩) (unhide HH) ?_
      rotate_left 1
      · intro W hSW; go_simp; all_goals (with_reducible rfl)
      (try simp only [Act.put, List.setIfInBounds_toArray, List.set_cons_zero, List.set_cons_succ])
      refine takeL (i := 2) (v := ?_) rfl (by kernel_rfl) (by kernel_rfl) (by kernel_rfl) (fun _ _ _ h => h) (Or.inl ⟨by rfl, ?_⟩) (unhide HH) ?_
      rotate_left 1
      · intro W1 hSW; have hc0 := hSW.cell (unhide HC0) (by simp; omega); have hc1 := hSW.cell (unhide HC1) (by simp; omega); have hc2 := hSW.cell (unhide HC2) (by simp; omega); clear hSW; go_simp; all_goals (with_reducible rfl)
      (try simp only [Act.put, List.setIfInBounds_toArray, List.set_cons_zero, List.set_cons_succ])
      refine takeL (i := 4) (v := ?_) rfl (by kernel_rfl) (by kernel_rfl) (by kernel_rfl) (fun _ _ _ h => h) (Or.inl ⟨by rfl, ?_⟩) (unhide HH) ?_
      rotate_left 1
      · intro W hSW; go_simp; all_goals (with_reducible rfl)
      (try simp only [Act.put, List.setIfInBounds_toArray, List.set_cons_zero, List.set_cons_succ])
      refine takeL (i := 5) (v := ?_) rfl (by kernel_rfl) (by kernel_rfl) (by kernel_rfl) (fun _ _ _ h => h) (Or.inl ⟨by rfl, ?_⟩) (unhide HH) ?_
      rotate_left 1
      · intro W1 hSW; have hc0 := hSW.cell (unhide HC2) (by simp; omega); clear hSW; go_simp; all_goals (with_reducible rfl)
      (try simp only [Act.put, List.setIfInBounds_toArray, List.set_cons_zero, List.set_cons_succ])
      refine wpAnyH_ready (rs := [3]) (by kernel_rfl) (by simp) ?_
      refine consL rfl (fun K hK => ?_) AllReadyH.nil
      go_simp
      refine (second_any d hd _ _ _ _ _ _ _).mono ?_
      rintro e w28 ⟨rfl, hk4⟩
      replace HFS := hide ((unhide HFS).below hk4)
      have HK4 := hide hk4
      clear hk4
      go_wp2_with fail
      refine hK.out _ _ ((unhide HH).ofBelow (unhide HK4)) (fun hHeld => ?_)
      clear hK K HH
      have HH := hide hHeld
      clear hHeld
      (try simp only [Act.put, List.setIfInBounds_toArray, List.set_cons_zero, List.set_cons_succ])
      clear HK4
      refine wpAnyH_ready (rs := [6]) (by kernel_rfl) (by simp) ?_
      refine consL rfl (fun K hK => ?_) AllReadyH.nil
      go_simp
      refine (cloneB_any5 _ gq _ _ ((unhide HFS).argQ hn) (by rw [smL_len]; exact hn)).mono ?_
      rintro e w29 ⟨v5, rfl, hCL, hk4⟩
      replace HFS := hide ((unhide HFS).below hk4)
      have hlo5 : lo ≤ w28.heap.size := Nat.le_trans hloR (unhide HH).size
      have HCL := hide (hCL.lower hlo5)
      have HK4 := hide hk4
      clear hk4 hCL hlo5
      go_wp2_with fail
      refine hK.out _ _ ((unhide HH).ofBelow (unhide HK4)) (fun hHeld => ?_)
      clear hK K HH
      have HH := hide hHeld
      clear hHeld
      (try simp only [Act.put, List.setIfInBounds_toArray, List.set_cons_zero, List.set_cons_succ])
      clear HK4
      refine wpAnyH_ready (rs := [7]) (by kernel_rfl) (by simp) ?_
      refine consL rfl (fun K hK => ?_) AllReadyH.nil
      have hf1 := (unhide HFS).hp
      have hf2 := (unhide HFS).hq
      have hf3 := (unhide HFS).hR
      obtain ⟨g5, hA5, hg5⟩ := (unhide HCL).arg (smL_bs (unhide HFS).bs)
      have HA5 := hide hA5
      clear hA5
      go_simp
      rw [show (d : Int) + 1 = ((d + 1 : Nat) : Int) from by omega]
      refine (put_any d hd gp gq gR n n n N N _ _ _ (d + 1) (by omega) (by omega) _ g5 _ _ (unhide HFS).p (unhide HFS).q (smL_len _ _ _ _) (smL_len _ _ _ _) (smL_bs (unhide HFS).bs) (smL_bs (unhide HFS).bs) (unhide HFS).pq (unhide HA5) (smL_len _ _ _ _) (fun _ => ⟨by omega, by omega, by omega⟩) hn (unhide HFS).R (by rw [(unhide HFS).cs]; exact Nat.le_refl _)).mono ?_
      rintro e w30 ⟨⟨u9, rfl⟩, hp9, hq9, hR9, hk9⟩
      replace HFS := hide ((unhide HFS).put (i := d + 1) (by omega) (unhide HNS (unhide HD)) (unhide HCL) (smL_len _ _ _ _) (smL_bs (unhide HFS).bs) hp9 hq9 hR9 hk9)
      have HK4 := hide hk9
      clear hp9 hq9 hR9 hk9 HA5 hg5 HCL hf1 hf2 hf3
      go_wp2_with fail
      refine hK.out _ _ ((unhide HH).trans (unhide HK4) (by simp)) (fun hHeld => ?_)
      clear hK K HH
      have HH := hide hHeld
      clear hHeld
      (try simp only [Act.put, List.setIfInBounds_toArray, List.set_cons_zero, List.set_cons_succ])
      clear HK4
      refine wpAnyH_done (by kernel_rfl) ?_ _
      refine NoPanic.normal ?_
      replace HKP := hide ((unhide HKP).trans (unhide HH) (by simp))
      replace HSB := hide ((unhide HSB).kp (unhide HH) (by simp; omega))
      replace HZ := hide ((unhide HZ).keepK (unhide HH) (fun h => by have := unhide HZN h; simp; omega))
      clear HH hloR
      (try simp only [Exit.jump])
      (try simp only [Exit.noGoto_normal])
      (try simp only [Exit.then])
      go_wp2
      (try simp only [Exit.jump])
      (try simp only [Exit.noGoto_normal])
      go_end0
      have hjs : jsOf d zs = [a, d + 1] := by unfold jsOf; rw [unhide HM]; rw [if_pos (unhide HD)]; simp
      have hFF := unhide HFS
      rw [show (is ++ [a] ++ [d + 1]) = is ++ jsOf d zs from by simp [hjs]] at hFF
      exact ⟨⟨_, rfl⟩, _, _, hFF, unhide HKP, done_one_second (unhide HM) (unhide HD) had (by rw [unhide HOL]; omega) (by rw [unhide HOL]; omega) (unhide HNA) (unhide HNS (unhide HD)) (unhide HOB)⟩
    · have hdd : decide ((d : Int) + 1 ∈ zs) = false := by simpa using hD
      rw [hdd]
      have HD := hide hD
      clear hdd hD
      go_wp2_with fail
      (try simp only [Exit.jump])
      (try simp only [Exit.noGoto_normal])
      (try simp only [Exit.then])
      go_wp2
      (try simp only [Exit.jump])
      (try simp only [Exit.noGoto_normal])
      go_end0
      have hjs : jsOf d zs = [a] := by unfold jsOf; rw [unhide HM]; rw [if_neg (unhide HD)]; simp
      have hFF := unhide HFS
      rw [show (is ++ [a]) = is ++ jsOf d zs from by simp [hjs]] at hFF
      exact ⟨⟨_, rfl⟩, _, _, hFF, unhide HKP, done_one (unhide HM) (unhide HD) had (by rw [unhide HOL]; omega) (unhide HNA) (unhide HOB)⟩

set_option maxRecDepth 100000 in
set_option maxHeartbeats 16000000 in
theorem fill_two (d : Nat) (hd : d ≤ 14) (gp gq gR n N lo : Nat) (is : List Nat) (cur : Array Value) (out : List (List Nat)) (w : World) (hlo : lo ≤ w.heap.size) (hF : FSt d w lo gp gq gR n N is cur out) (zs : List Int) (vz : Value) (gz : Nat) (hZ : ZArg w vz gz zs) (hzne : zs ≠ [] → gz ≠ gp ∧ gz ≠ gq ∧ gz ≠ gR) (hN : N = d + 2) (hpk : pk zs N = true)
    (hn : n ≤ 100000) (a b : Nat) (had : a ≤ d) (hbd : b ≤ d) (hab : a ≠ b) (hm : inP d zs = [(a : Int), (b : Int)]) (HNA : Hid (a ∉ is)) (HNB : Hid (b ∉ is)) (HDN : Hid (((d + 1 : Nat) : Int) ∉ zs)) :
    Calls Tryz.prog 62 #[sv d (.slice (some ⟨gp, 0, none⟩) n n) (.slice (some ⟨gq, 0, none⟩) n n), .slice (some ⟨gR, 0, none⟩) N N, vz] w fun e w' => (∃ u, e = .returned u) ∧ ∃ cur' out', FSt d w' lo gp gq gR n N (is ++ jsOf d zs) cur' out' ∧ Kp [gp, gq, gR] w w' ∧ Done d n zs is out out' := by
  obtain ⟨hz2, hzb, hznd⟩ := pk_parts hpk
  have hN16 : N ≤ 16 ∧ d + 1 < N := by omega
  obtain ⟨hN16, hdN⟩ := hN16
  have HNN := hide hN
  have HFS := hide hF
  have HZ := hide hZ
  have HM := hide hm
  have HND := hide hznd
  have HZBD := hide hZ.bd
  have HZN : Hid (zs ≠ [] → gz < w.heap.size ∧ gz ≠ gp ∧ gz ≠ gq ∧ gz ≠ gR) := fun h => ⟨hZ.lt h, hzne h⟩
  have HOL : Hid (out.length = N) := hF.len
  obtain ⟨za, zc, hvz, _⟩ := hZ.ex
  subst hvz
  obtain ⟨zl, hzl⟩ : ∃ zl, zs.length = zl := ⟨_, rfl⟩
  have HZL := hide hzl
  rw [hzl] at HZ hz2 ⊢
  clear hF hZ hm hznd hzl hN hzne
  unfold sv
  have HSB : Hid (SBox (w.alloc (.cells #[.int .i64 (d : Int), .slice (some ⟨gp, 0, none⟩) n n, .slice (some ⟨gq, 0, none⟩) n n] 105)) w.heap.size d (.slice (some ⟨gp, 0, none⟩) n n) (.slice (some ⟨gq, 0, none⟩) n n)) := ⟨World.alloc_heap_new w _⟩
  have HB1 : Hid (Below w.heap.size w (w.alloc (.cells #[.int .i64 (d : Int), .slice (some ⟨gp, 0, none⟩) n n, .slice (some ⟨gq, 0, none⟩) n n] 105))) := (Below.refl _ _).alloc (Nat.le_refl _) _
  go_enter Tryz.func62, Tryz.ntmps62
  go_wp2_with fail
  generalize w.alloc (.cells #[.int .i64 (d : Int), .slice (some ⟨gp, 0, none⟩) n n, .slice (some ⟨gq, 0, none⟩) n n] 105) = w1 at HSB HB1 ⊢
  have hbx := (unhide HSB).lt
  have hwx := (unhide HB1).size
  have hgx : gp < w.heap.size ∧ gq < w.heap.size ∧ gR < w.heap.size := by have h1 := (unhide HFS).hp; have h2 := (unhide HFS).hq; have h3 := (unhide HFS).hR; omega
  obtain ⟨hgx1, hgx2, hgx3⟩ := hgx
  replace HFS := hide ((unhide HFS).below (unhide HB1))
  replace HZ := hide ((unhide HZ).below (unhide HB1))
  have HKP : Hid (Kp [gp, gq, gR] w w1) := (Kp.refl _ w).ofBelow (unhide HB1)
  have haN : a < N := by omega
  have hbN : b < N := by omega
  have HOB : Hid (∀ i, Bs (out.getD i [])) := (unhide HFS).bs
  go_step3
  go_wp2_with fail
  refine (cloneI_any _ gz zs w1 (unhide HZ) (by rw [unhide HZL]; omega)).mono ?_
  rintro e w2 ⟨v8, rfl, hFz, hk⟩
  have HFZ := hide hFz
  have HB2 := hide hk
  have hz12 := hk.size
  have hvs : ∃ ao n c, v8 = .slice ao n c := by
    rcases hFz with ⟨_, ao, c, h, _⟩ | ⟨g, c, h, _⟩
    · exact ⟨ao, _, c, h⟩
    · exact ⟨_, _, c, h⟩
  obtain ⟨a8, n8, c8, rfl⟩ := hvs
  clear hk hFz
  go_wp2_with fail
  refine (del_any _ zs w.heap.size d w1.heap.size hd _ _ _ _ _ _ w2 hz12 (unhide HFZ) (unhide HZBD) (by rw [unhide HZL]; exact hz2) (unhide HND) ((unhide HSB).below (unhide HB2) (unhide HSB).lt) (unhide HSB).lt).mono ?_
  rintro e w3 ⟨hk, ao, c, g, rfl, hIR, hgl⟩
  rw [unhide HM] at hIR hgl ⊢
  have hB3 := (unhide HB2).trans hk
  replace HFS := hide ((unhide HFS).below hB3)
  replace HSB := hide ((unhide HSB).below hB3 (unhide HSB).lt)
  replace HZ := hide ((unhide HZ).below hB3)
  replace HKP := hide ((unhide HKP).ofBelow hB3)
  have HB3 := hide hB3
  have hz13 := hB3.size
  clear hk hB3
  rw [show [(a : Int), (b : Int)].length = 2 from rfl]
  obtain ⟨oi, rfl, hA0, hA1⟩ := irow_at hIR (by simp)
  have HA0 := hide hA0
  have HA1 := hide (hA1 (by simp))
  have hgi := hgl (by simp)
  clear hIR hgl hA0 hA1
  obtain ⟨⟨c0, c1, c2⟩, _⟩ := three_at (unhide HSB).h
  have HC0 := hide c0
  have HC1 := hide c1
  have HC2 := hide c2
  clear c0 c1 c2
  go_wp2_with fail
  have hloR : lo ≤ w3.heap.size := by have h1 := (unhide HKP).size; omega
  replace HFS := hide ((unhide HFS).below (Below.refl _ _).drew)
  refine wp_region_noPanic ?_
  refine wp_region_held_drew (S := fun W => Kp [gp, gq, gR] w3 W) (by kernel_rfl) ((Kp.refl _ _).drew) (fun hHeld => ?_)
  have HH := hide hHeld
  clear hHeld
  refine takeL (i := 0) (v := ?_) rfl (by kernel_rfl) (by kernel_rfl) (by kernel_rfl) (fun _ _ _ h => h) (Or.inl ⟨by rfl, ?_⟩) (unhide HH) ?_
  rotate_left 1
  · intro W1 hSW; have hc0 := hSW.cell (unhide HC0) (by simp; omega); have hc1 := hSW.cell (unhide HC1) (by simp; omega); have hc2 := hSW.cell (unhide HC2) (by simp; omega); clear hSW; go_simp; all_goals (with_reducible rfl)
  (try simp only [Act.put, List.setIfInBounds_toArray, List.set_cons_zero, List.set_cons_succ])
  refine takeL (i := 1) (v := ?_) rfl (by kernel_rfl) (by kernel_rfl) (by kernel_rfl) (fun _ _ _ h => h) (Or.inl ⟨by rfl, ?_⟩) (unhide HH) ?_
  rotate_left 1
  · intro W hSW; go_simp; all_goals (with_reducible rfl)
  (try simp only [Act.put, List.setIfInBounds_toArray, List.set_cons_zero, List.set_cons_succ])
  refine takeL (i := 2) (v := ?_) rfl (by kernel_rfl) (by kernel_rfl) (by kernel_rfl) (fun _ _ _ h => h) (Or.inl ⟨by rfl, ?_⟩) (unhide HH) ?_
  rotate_left 1
  · intro W hSW; go_simp; all_goals (with_reducible rfl)
  (try simp only [Act.put, List.setIfInBounds_toArray, List.set_cons_zero, List.set_cons_succ])
  refine takeL (i := 3) (v := ?_) rfl (by kernel_rfl) (by kernel_rfl) (by kernel_rfl) (fun _ _ _ h => h) (Or.inl ⟨by rfl, ?_⟩) (unhide HH) ?_
  rotate_left 1
  · intro W hSW; go_simp; all_goals (with_reducible rfl)
  (try simp only [Act.put, List.setIfInBounds_toArray, List.set_cons_zero, List.set_cons_succ])
  refine takeL (i := 4) (v := ?_) rfl (by kernel_rfl) (by kernel_rfl) (by kernel_rfl) (fun _ _ _ h => h) (Or.inl ⟨by rfl, ?_⟩) (unhide HH) ?_
  rotate_left 1
  · intro W1 hSW; have hc0 := hSW.cell (unhide HA1) (by simp; omega); clear hSW; go_simp; all_goals (with_reducible rfl)
  (try simp only [Act.put, List.setIfInBounds_toArray, List.set_cons_zero, List.set_cons_succ])
  refine takeL (i := 5) (v := ?_) rfl (by kernel_rfl) (by kernel_rfl) (by kernel_rfl) (fun _ _ _ h => h) (Or.inl ⟨by rfl, ?_⟩) (unhide HH) ?_
  rotate_left 1
  · intro W1 hSW; have hc0 := hSW.cell (unhide HC0) (by simp; omega); have hc1 := hSW.cell (unhide HC1) (by simp; omega); have hc2 := hSW.cell (unhide HC2) (by simp; omega); clear hSW; go_simp; all_goals (with_reducible rfl)
  (try simp only [Act.put, List.setIfInBounds_toArray, List.set_cons_zero, List.set_cons_succ])
  refine takeL (i := 6) (v := ?_) rfl (by kernel_rfl) (by kernel_rfl) (by kernel_rfl) (fun _ _ _ h => h) (Or.inl ⟨by rfl, ?_⟩) (unhide HH) ?_
  rotate_left 1
  · intro W hSW; go_simp; all_goals (with_reducible rfl)
  (try simp only [Act.put, List.setIfInBounds_toArray, List.set_cons_zero, List.set_cons_succ])
  refine takeL (i := 7) (v := ?_) rfl (by kernel_rfl) (by kernel_rfl) (by kernel_rfl) (fun _ _ _ h => h) (Or.inl ⟨by rfl, ?_⟩) (unhide HH) ?_
  rotate_left 1
  · intro W hSW; go_simp; all_goals (with_reducible rfl)
  (try simp only [Act.put, List.setIfInBounds_toArray, List.set_cons_zero, List.set_cons_succ])
  refine takeL (i := 8) (v := ?_) rfl (by kernel_rfl) (by kernel_rfl) (by kernel_rfl) (fun _ _ _ h => h) (Or.inl ⟨by rfl, ?_⟩) (unhide HH) ?_
  rotate_left 1
  · intro W1 hSW; have hc0 := hSW.cell (unhide HA1) (by simp; omega); clear hSW; go_simp; all_goals (with_reducible rfl)
  (try simp only [Act.put, List.setIfInBounds_toArray, List.set_cons_zero, List.set_cons_succ])
  refine takeL (i := 9) (v := ?_) rfl (by kernel_rfl) (by kernel_rfl) (by kernel_rfl) (fun _ _ _ h => h) (Or.inl ⟨by rfl, ?_⟩) (unhide HH) ?_
  rotate_left 1
  · intro W hSW; go_simp; all_goals (with_reducible rfl)
  (try simp only [Act.put, List.setIfInBounds_toArray, List.set_cons_zero, List.set_cons_succ])
  refine takeL (i := 10) (v := ?_) rfl (by kernel_rfl) (by kernel_rfl) (by kernel_rfl) (fun _ _ _ h => h) (Or.inl ⟨by rfl, ?_⟩) (unhide HH) ?_
  rotate_left 1
  · intro W hSW; go_simp; all_goals (with_reducible rfl)
  (try simp only [Act.put, List.setIfInBounds_toArray, List.set_cons_zero, List.set_cons_succ])
  refine takeL (i := 11) (v := ?_) rfl (by kernel_rfl) (by kernel_rfl) (by kernel_rfl) (fun _ _ _ h => h) (Or.inl ⟨by rfl, ?_⟩) (unhide HH) ?_
  rotate_left 1
  · intro W1 hSW; have hc0 := hSW.cell (unhide HA0) (by simp; omega); clear hSW; go_simp; all_goals (with_reducible rfl)
  (try simp only [Act.put, List.setIfInBounds_toArray, List.set_cons_zero, List.set_cons_succ])
  refine wpAnyH_ready (rs := [12]) (by kernel_rfl) (by simp) ?_
  refine consL rfl (fun K hK => ?_) AllReadyH.nil
  go_simp
  refine (parted_any d hd gp gq n n n _ _ b a (by omega) (by omega) _ (unhide HFS).p (unhide HFS).q (smL_len _ _ _ _) (smL_len _ _ _ _) (smL_bs (unhide HFS).bs) (smL_bs (unhide HFS).bs) hn).mono ?_
  rintro e w31 ⟨g9, rfl, hg9, hb9, hk4⟩
  replace HFS := hide ((unhide HFS).below hk4)
  have hlo5 : lo ≤ w3.heap.size := Nat.le_trans hloR (unhide HH).size
  have HCL : Hid (Fr lo w31 (.slice (some ⟨g9, 0, none⟩) n n) (partL (smL (shP d) out (is) n) (smL (shQ d) out (is) n) (shQ d b) (shQ d a) n)) := .inr ⟨g9, n, by rw [partL_len], by rw [partL_len]; exact Nat.le_refl _, by unfold maxLen; omega, hb9, Nat.le_trans hlo5 hg9⟩
  have HK4 := hide hk4
  clear hk4 hb9 hlo5 hg9
  go_wp2_with fail
  refine hK.out _ _ ((unhide HH).ofBelow (unhide HK4)) (fun hHeld => ?_)
  clear hK K HH
  have HH := hide hHeld
  clear hHeld
  (try simp only [Act.put, List.setIfInBounds_toArray, List.set_cons_zero, List.set_cons_succ])
  clear HK4
  refine wpAnyH_ready (rs := [13]) (by kernel_rfl) (by simp) ?_
  refine consL rfl (fun K hK => ?_) AllReadyH.nil
  have hf1 := (unhide HFS).hp
  have hf2 := (unhide HFS).hq
  have hf3 := (unhide HFS).hR
  obtain ⟨g5, hA5, hg5⟩ := (unhide HCL).arg (partL_bs (smL_bs (unhide HFS).bs) (smL_bs (unhide HFS).bs))
  have HA5 := hide hA5
  clear hA5
  go_simp

  refine (put_any d hd gp gq gR n n n N N _ _ _ (b) (by omega) hbN _ g5 _ _ (unhide HFS).p (unhide HFS).q (smL_len _ _ _ _) (smL_len _ _ _ _) (smL_bs (unhide HFS).bs) (smL_bs (unhide HFS).bs) (unhide HFS).pq (unhide HA5) (partL_len _ _ _ _ _) (fun _ => ⟨by omega, by omega, by omega⟩) hn (unhide HFS).R (by rw [(unhide HFS).cs]; exact Nat.le_refl _)).mono ?_
  rintro e w32 ⟨⟨u9, rfl⟩, hp9, hq9, hR9, hk9⟩
  replace HFS := hide ((unhide HFS).put (i := b) hbN (unhide HNB) (unhide HCL) (partL_len _ _ _ _ _) (partL_bs (smL_bs (unhide HFS).bs) (smL_bs (unhide HFS).bs)) hp9 hq9 hR9 hk9)
  have HK4 := hide hk9
  clear hp9 hq9 hR9 hk9 HA5 hg5 HCL hf1 hf2 hf3
  go_wp2_with fail
  refine hK.out _ _ ((unhide HH).trans (unhide HK4) (by simp)) (fun hHeld => ?_)
  clear hK K HH
  have HH := hide hHeld
  clear hHeld
  (try simp only [Act.put, List.setIfInBounds_toArray, List.set_cons_zero, List.set_cons_succ])
  clear HK4
  refine wpAnyH_done (by kernel_rfl) ?_ _
  refine NoPanic.normal ?_
  replace HKP := hide ((unhide HKP).trans (unhide HH) (by simp))
  replace HSB := hide ((unhide HSB).kp (unhide HH) (by simp; omega))
  replace HZ := hide ((unhide HZ).keepK (unhide HH) (fun h => by have := unhide HZN h; simp; omega))
  replace HA0 := hide ((unhide HH).cell (unhide HA0) (by simp; omega))
  clear HH hloR
  go_wp2_with fail
  (try go_step3)
  obtain ⟨⟨c0, c1, c2⟩, _⟩ := three_at (unhide HSB).h
  have HC0 := hide c0
  have HC1 := hide c1
  have HC2 := hide c2
  clear c0 c1 c2
  go_wp2_with fail
  have hloR : lo ≤ w32.heap.size := by have h1 := (unhide HKP).size; omega
  replace HFS := hide ((unhide HFS).below (Below.refl _ _).drew)
  refine wp_region_noPanic ?_
  refine wp_region_held_drew (S := fun W => Kp [gp, gq, gR] w32 W) (by kernel_rfl) ((Kp.refl _ _).drew) (fun hHeld => ?_)
  have HH := hide hHeld
  clear hHeld
  refine takeL (i := 0) (v := ?_) rfl (by kernel_rfl) (by kernel_rfl) (by kernel_rfl) (fun _ _ _ h => h) (Or.inl ⟨by rfl, ?_⟩) (unhide HH) ?_
  rotate_left 1
  · intro W1 hSW; have hc0 := hSW.cell (unhide HC0) (by simp; omega); have hc1 := hSW.cell (unhide HC1) (by simp; omega); have hc2 := hSW.cell (unhide HC2) (by simp; omega); clear hSW; go_simp; all_goals (with_reducible rfl)
  (try simp only [Act.put, List.setIfInBounds_toArray, List.set_cons_zero, List.set_cons_succ])
  refine takeL (i := 1) (v := ?_) rfl (by kernel_rfl) (by kernel_rfl) (by kernel_rfl) (fun _ _ _ h => h) (Or.inl ⟨by rfl, ?_⟩) (unhide HH) ?_
  rotate_left 1
  · intro W hSW; go_simp; all_goals (with_reducible rfl)
  (try simp only [Act.put, List.setIfInBounds_toArray, List.set_cons_zero, List.set_cons_succ])
  refine takeL (i := 2) (v := ?_) rfl (by kernel_rfl) (by kernel_rfl) (by kernel_rfl) (fun _ _ _ h => h) (Or.inl ⟨by rfl, ?_⟩) (unhide HH) ?_
  rotate_left 1
  · intro W hSW; go_simp; all_goals (with_reducible rfl)
  (try simp only [Act.put, List.setIfInBounds_toArray, List.set_cons_zero, List.set_cons_succ])
  refine takeL (i := 3) (v := ?_) rfl (by kernel_rfl) (by kernel_rfl) (by kernel_rfl) (fun _ _ _ h => h) (Or.inl ⟨by rfl, ?_⟩) (unhide HH) ?_
  rotate_left 1
  · intro W hSW; go_simp; all_goals (with_reducible rfl)
  (try simp only [Act.put, List.setIfInBounds_toArray, List.set_cons_zero, List.set_cons_succ])
  refine takeL (i := 4) (v := ?_) rfl (by kernel_rfl) (by kernel_rfl) (by kernel_rfl) (fun _ _ _ h => h) (Or.inl ⟨by rfl, ?_⟩) (unhide HH) ?_
  rotate_left 1
  · intro W1 hSW; have hc0 := hSW.cell (unhide HA0) (by simp; omega); clear hSW; go_simp; all_goals (with_reducible rfl)
  (try simp only [Act.put, List.setIfInBounds_toArray, List.set_cons_zero, List.set_cons_succ])
  refine takeL (i := 5) (v := ?_) rfl (by kernel_rfl) (by kernel_rfl) (by kernel_rfl) (fun _ _ _ h => h) (Or.inl ⟨by rfl, ?_⟩) (unhide HH) ?_
  rotate_left 1
  · intro W hSW; go_simp; all_goals (with_reducible rfl)
  (try simp only [Act.put, List.setIfInBounds_toArray, List.set_cons_zero, List.set_cons_succ])
  refine takeL (i := 6) (v := ?_) rfl (by kernel_rfl) (by kernel_rfl) (by kernel_rfl) (fun _ _ _ h => h) (Or.inl ⟨by rfl, ?_⟩) (unhide HH) ?_
  rotate_left 1
  · intro W1 hSW; have hc0 := hSW.cell (unhide HC1) (by simp; omega); clear hSW; go_simp; all_goals (with_reducible rfl)
  (try simp only [Act.put, List.setIfInBounds_toArray, List.set_cons_zero, List.set_cons_succ])
  refine wpAnyH_ready (rs := [7]) (by kernel_rfl) (by simp) ?_
  refine consL rfl (fun K hK => ?_) AllReadyH.nil
  go_simp
  refine (cloneB_any5 _ gp _ _ ((unhide HFS).argP hn) (by rw [smL_len]; exact hn)).mono ?_
  rintro e w33 ⟨v5, rfl, hCL, hk4⟩
  replace HFS := hide ((unhide HFS).below hk4)
  have hlo5 : lo ≤ w32.heap.size := Nat.le_trans hloR (unhide HH).size
  have HCL := hide (hCL.lower hlo5)
  have HK4 := hide hk4
  clear hk4 hCL hlo5
  go_wp2_with fail
  refine hK.out _ _ ((unhide HH).ofBelow (unhide HK4)) (fun hHeld => ?_)
  clear hK K HH
  have HH := hide hHeld
  clear hHeld
  (try simp only [Act.put, List.setIfInBounds_toArray, List.set_cons_zero, List.set_cons_succ])
  clear HK4
  refine wpAnyH_ready (rs := [8]) (by kernel_rfl) (by simp) ?_
  refine consL rfl (fun K hK => ?_) AllReadyH.nil
  have hf1 := (unhide HFS).hp
  have hf2 := (unhide HFS).hq
  have hf3 := (unhide HFS).hR
  obtain ⟨g5, hA5, hg5⟩ := (unhide HCL).arg (smL_bs (unhide HFS).bs)
  have HA5 := hide hA5
  clear hA5
  go_simp

  refine (put_any d hd gp gq gR n n n N N _ _ _ (a) (by omega) haN _ g5 _ _ (unhide HFS).p (unhide HFS).q (smL_len _ _ _ _) (smL_len _ _ _ _) (smL_bs (unhide HFS).bs) (smL_bs (unhide HFS).bs) (unhide HFS).pq (unhide HA5) (smL_len _ _ _ _) (fun _ => ⟨by omega, by omega, by omega⟩) hn (unhide HFS).R (by rw [(unhide HFS).cs]; exact Nat.le_refl _)).mono ?_
  rintro e w34 ⟨⟨u9, rfl⟩, hp9, hq9, hR9, hk9⟩
  replace HFS := hide ((unhide HFS).put (i := a) haN (fun hm => by rcases List.mem_append.1 hm with h | h; exact unhide HNA h; exact hab (List.mem_singleton.1 h)) (unhide HCL) (smL_len _ _ _ _) (smL_bs (unhide HFS).bs) hp9 hq9 hR9 hk9)
  have HK4 := hide hk9
  clear hp9 hq9 hR9 hk9 HA5 hg5 HCL hf1 hf2 hf3
  go_wp2_with fail
  refine hK.out _ _ ((unhide HH).trans (unhide HK4) (by simp)) (fun hHeld => ?_)
  clear hK K HH
  have HH := hide hHeld
  clear hHeld
  (try simp only [Act.put, List.setIfInBounds_toArray, List.set_cons_zero, List.set_cons_succ])
  clear HK4
  refine wpAnyH_done (by kernel_rfl) ?_ _
  refine NoPanic.normal ?_
  replace HKP := hide ((unhide HKP).trans (unhide HH) (by simp))
  replace HSB := hide ((unhide HSB).kp (unhide HH) (by simp; omega))
  replace HZ := hide ((unhide HZ).keepK (unhide HH) (fun h => by have := unhide HZN h; simp; omega))
  clear HH hloR
  go_wp2_with fail
  (try go_step3)
  obtain ⟨⟨c0, c1, c2⟩, _⟩ := three_at (unhide HSB).h
  have HC0 := hide c0
  have HC1 := hide c1
  have HC2 := hide c2
  go_wp2_with fail
  refine (second_any d hd _ _ _ _ _ _ _).mono ?_
  rintro e w35 ⟨rfl, hk4⟩
  replace HFS := hide ((unhide HFS).below hk4)
  replace HSB := hide ((unhide HSB).below hk4 (unhide HSB).lt)
  replace HZ := hide ((unhide HZ).below hk4)
  replace HKP := hide ((unhide HKP).ofBelow hk4)
  replace HC0 := hide ((hk4.cell (block_lt_of_cell (unhide HC0))).trans (unhide HC0))
  replace HC1 := hide ((hk4.cell (block_lt_of_cell (unhide HC1))).trans (unhide HC1))
  replace HC2 := hide ((hk4.cell (block_lt_of_cell (unhide HC2))).trans (unhide HC2))
  clear hk4 c0 c1 c2
  go_wp2_with fail
  refine (contains_any _ gz zs _ w35 (unhide HZ)).mono ?_
  rintro e w0 ⟨rfl, hw0⟩
  subst hw0
  by_cases hD : ((d + 1 : Nat) : Int) ∈ zs
  · exact absurd hD (unhide HDN)
  · have hdd : decide ((d : Int) + 1 ∈ zs) = false := by simpa using hD
    rw [hdd]
    have HD := hide hD
    clear hdd hD
    go_wp2_with fail
    (try simp only [Exit.jump])
    (try simp only [Exit.noGoto_normal])
    (try simp only [Exit.then])
    go_wp2
    (try simp only [Exit.jump])
    (try simp only [Exit.noGoto_normal])
    go_end0
    have hjs : jsOf d zs = [b, a] := by unfold jsOf; rw [unhide HM]; rw [if_neg (unhide HD)]; simp
    have hFF := unhide HFS
    rw [show (is ++ [b] ++ [a]) = is ++ jsOf d zs from by simp [hjs]] at hFF
    exact ⟨⟨_, rfl⟩, _, _, hFF, unhide HKP, done_two (unhide HM) (unhide HD) hd had hbd hab (by rw [unhide HOL]; omega) (by rw [unhide HOL]; omega) (unhide HNA) (unhide HNB) (unhide HOB)⟩

end Go.Proofs.YtjdikhelabibnabGreat
