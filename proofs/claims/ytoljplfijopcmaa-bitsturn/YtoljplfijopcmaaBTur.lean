/-
  The walk of BitsTurn.
-/
import Derived.Test.YtoljplfijopcmaaH6k
import Derived.Test.YtoljplfijopcmaaB6f
import Derived.Test.YtoljplfijopcmaaM6
import Derived.Test.YtoljplfijopcmaaN6c
namespace Go.Proofs.Ytoljplfijopcmaa
open Go.RowKit Go.Shelf

set_option maxRecDepth 100000 in
set_option maxHeartbeats 8000000 in
theorem turn_walk (u v : Value) (ga gb : Nat) (a b : List Nat) (w : World) (hA : Arg w u ga a) (hB : Arg w v gb b) :
    Calls Try.prog 4 #[u, v] w fun e w' => e = .returned (.bool true) ∧ Below w.heap.size w w' := by
  have HA := hide hA
  have HB := hide hB
  obtain ⟨⟨ao, ca, rfl, hc1, hc2, _, _⟩, hba⟩ := hA
  obtain ⟨⟨bo, cb, rfl, hd1, hd2, _, _⟩, hbb⟩ := hB
  obtain ⟨la, hla⟩ : ∃ n, a.length = n := ⟨_, rfl⟩
  obtain ⟨lb, hlb⟩ : ∃ n, b.length = n := ⟨_, rfl⟩
  have HLA := hide hla
  have HLB := hide hlb
  rw [hla] at HA hc1 ⊢
  rw [hlb] at HB hd1 ⊢
  clear hla hlb
  have ha1 : (la : Int) ≤ 9223372036854775807 := by unfold maxLen at hc2; omega
  have hb1 : (lb : Int) ≤ 9223372036854775807 := by unfold maxLen at hd2; omega
  obtain ⟨n, hn⟩ : ∃ n : Nat, min (min la lb) 60 = n := ⟨_, rfl⟩
  have hnl : n ≤ 60 := by omega
  have hna : n ≤ la := by omega
  have hnb : n ≤ lb := by omega
  have hmin : ∀ W : World, (Builtin.min_ #[3, 3, 3] 3 #[.int .i64 (la : Int), .int .i64 (lb : Int), .int .i64 60]).run Try.prog W = .ok (.int .i64 (n : Int)) W := fun W => by
    rw [min_three, show min (min (la : Int) (lb : Int)) 60 = (n : Int) from by omega]
  clear hn
  obtain ⟨X, hX⟩ : ∃ X, a.take n = X := ⟨_, rfl⟩
  obtain ⟨Y, hY⟩ : ∃ Y, b.take n = Y := ⟨_, rfl⟩
  have HX := hide ((unhide HA).front hna)
  have HY := hide ((unhide HB).front hnb)
  rw [hX] at HX
  rw [hY] at HY
  have hxl : X.length = n := by rw [← hX, List.length_take, unhide HLA]; omega
  have hyl : Y.length = n := by rw [← hY, List.length_take, unhide HLB]; omega
  have hxb : Bs X := (unhide HX).bs
  have hyb : Bs Y := (unhide HY).bs
  have HXL := hide hxl
  have HYL := hide hyl
  clear hX hY hxl hyl
  have hle : X.length = Y.length := by rw [unhide HXL, unhide HYL]
  have HFA := hide (flip_apart hle hxb hyb)
  have HFB := hide (flip_back hle hxb hyb)
  clear hle
  have HT : Hid (Below w.heap.size w w) := Below.refl _ _
  go_enter Try.func4, Try.ntmps4
  go_wp2_with fail
  refine (known_any _).mono ?_
  rintro e w1 ⟨rfl, hk⟩
  replace HX := hide ((unhide HX).below hk)
  replace HY := hide ((unhide HY).below hk)
  replace HT := hide ((unhide HT).trans (hk.mono (unhide HT).size))
  clear hk
  go_wp2_with fail
  clear hmin
  go_quiet (fail)
  have hk : Below w1.heap.size w1 (w1.drewN nq) := below_drewN w1 nq
  generalize w1.drewN nq = w2 at hk ⊢
  replace HX := hide ((unhide HX).below hk)
  replace HY := hide ((unhide HY).below hk)
  replace HT := hide ((unhide HT).trans (hk.mono (unhide HT).size))
  clear hk
  go_wp2_with fail
  refine (apart_any _ _ _ _ (X) (Y) _ (unhide HX) (unhide HY) (fun _ => by rw [unhide HXL]; omega)).mono ?_
  rintro e w3 ⟨v3, rfl, hO, hk⟩
  replace HX := hide ((unhide HX).below hk)
  replace HY := hide ((unhide HY).below hk)
  replace HT := hide ((unhide HT).trans (hk.mono (unhide HT).size))
  obtain ⟨ao3, c3, g3, rfl, hZ⟩ := hO.za (fun k h => by have := ap_lt h; have := unhide HXL; omega)
  have HZ3 := hide hZ
  clear hZ hO
  clear hk
  go_wp2_with fail
  replace HT := hide ((unhide HT).drew)
  replace HX := hide ((unhide HX).below (Below.refl _ _).drew)
  replace HY := hide ((unhide HY).below (Below.refl _ _).drew)
  replace HZ3 := hide ((unhide HZ3).below (Below.refl _ _).drew)
  refine wp_region_noPanic ?_
  refine wp_region_held_drew (S := fun W => Below w3.drew.heap.size w3.drew W) (by kernel_rfl) (Below.refl _ _) (fun hHeld => ?_)
  have HH := hide hHeld
  clear hHeld
  generalize w3.drew = w4 at HT HX HY HZ3 HH ⊢
  refine takeL (i := 0) (v := ?_) rfl (by kernel_rfl) (by kernel_rfl) (by kernel_rfl) (fun _ _ _ h => h) (Or.inl ⟨by rfl, ?_⟩) (unhide HH) ?_
  rotate_left 1
  · intro W hSW; go_simp; all_goals (with_reducible rfl)
  (try simp only [Act.put, List.setIfInBounds_toArray, List.set_cons_zero, List.set_cons_succ])
  refine takeL (i := 1) (v := ?_) rfl (by kernel_rfl) (by kernel_rfl) (by kernel_rfl) (fun _ _ _ h => h) (Or.inl ⟨by rfl, ?_⟩) (unhide HH) ?_
  rotate_left 1
  · intro W hSW; go_simp; all_goals (with_reducible rfl)
  (try simp only [Act.put, List.setIfInBounds_toArray, List.set_cons_zero, List.set_cons_succ])
  refine takeL (i := 4) (v := ?_) rfl (by kernel_rfl) (by kernel_rfl) (by kernel_rfl) (fun _ _ _ h => h) (Or.inl ⟨by rfl, ?_⟩) (unhide HH) ?_
  rotate_left 1
  · intro W hSW; go_simp; all_goals (with_reducible rfl)
  (try simp only [Act.put, List.setIfInBounds_toArray, List.set_cons_zero, List.set_cons_succ])
  refine takeL (i := 5) (v := ?_) rfl (by kernel_rfl) (by kernel_rfl) (by kernel_rfl) (fun _ _ _ h => h) (Or.inl ⟨by rfl, ?_⟩) (unhide HH) ?_
  rotate_left 1
  · intro W1 hSW; have hcv := conv_arg ((unhide HY).below hSW); clear hSW; go_simp; all_goals (with_reducible rfl)
  (try simp only [Act.put, List.setIfInBounds_toArray, List.set_cons_zero, List.set_cons_succ])
  refine wpAnyH_ready (rs := [2]) (by kernel_rfl) (by simp) ?_
  refine consL rfl (fun K hK => ?_) AllReadyH.nil
  go_simp
  refine (flip6_any _ _ _ _ (X) (ints (apL (X) (Y))) _ (unhide HX) (unhide HZ3) (by rw [unhide HXL]; omega)).mono ?_
  rintro e w5 ⟨v5, rfl, hF, hk⟩
  rw [unhide HFA] at hF
  replace HX := hide ((unhide HX).below hk)
  replace HY := hide ((unhide HY).below hk)
  replace HZ3 := hide ((unhide HZ3).below hk)
  replace HT := hide ((unhide HT).trans (hk.mono (unhide HT).size))
  obtain ⟨g5, hA, hge⟩ := hF.arg hyb
  obtain ⟨⟨ao5, c5, rfl, h1, h2, h3, h4⟩, _⟩ := hA
  have HA5 : Hid (Arg w5 (.slice ao5 n c5) g5 (Y)) := ⟨⟨ao5, c5, by rw [(unhide HYL)], h1, h2, h3, h4⟩, hyb⟩
  rw [show (Y).length = n from (unhide HYL)]
  clear h1 h2 h3 h4 hF hge
  go_wp2_with fail
  refine hK.out _ _ hk (fun hHeld => ?_)
  clear hK K HH hHeld
  (try simp only [Act.put, List.setIfInBounds_toArray, List.set_cons_zero, List.set_cons_succ])
  refine stronger (S' := fun W => Below w5.heap.size w5 W) (fun W h => hk.trans (h.mono hk.size)) _ _ _ _ ?_
  have HH : Hid (Below w5.heap.size w5 w5) := Below.refl _ _
  clear hk
  refine takeL (i := 3) (v := ?_) rfl (by kernel_rfl) (by kernel_rfl) (by kernel_rfl) (fun _ _ _ h => h) (Or.inl ⟨by rfl, ?_⟩) (unhide HH) ?_
  rotate_left 1
  · intro W1 hSW; have hcv := conv_arg ((unhide HA5).below hSW); clear hSW; go_simp; all_goals (with_reducible rfl)
  (try simp only [Act.put, List.setIfInBounds_toArray, List.set_cons_zero, List.set_cons_succ])
  refine takeL (i := 6) (v := ?_) rfl (by kernel_rfl) (by kernel_rfl) (by kernel_rfl) (fun _ _ _ h => h) (Or.inl ⟨by rfl, ?_⟩) (unhide HH) ?_
  rotate_left 1
  · intro W hSW; go_simp; all_goals (with_reducible rfl)
  (try simp only [Act.put, List.setIfInBounds_toArray, List.set_cons_zero, List.set_cons_succ])
  refine takeL (i := 7) (v := ?_) rfl (by kernel_rfl) (by kernel_rfl) (by kernel_rfl) (fun _ _ _ h => h) (Or.inl ⟨by rfl, ?_⟩) (unhide HH) ?_
  rotate_left 1
  · intro W hSW; go_simp; all_goals (with_reducible rfl)
  (try simp only [Act.put, List.setIfInBounds_toArray, List.set_cons_zero, List.set_cons_succ])
  refine takeL (i := 8) (v := ?_) rfl (by kernel_rfl) (by kernel_rfl) (by kernel_rfl) (fun _ _ _ h => h) (Or.inl ⟨by rfl, ?_⟩) (unhide HH) ?_
  rotate_left 1
  · intro W hSW; go_simp; all_goals (with_reducible rfl)
  (try simp only [Act.put, List.setIfInBounds_toArray, List.set_cons_zero, List.set_cons_succ])
  refine takeL (i := 9) (v := ?_) rfl (by kernel_rfl) (by kernel_rfl) (by kernel_rfl) (fun _ _ _ h => h) (Or.inl ⟨by rfl, ?_⟩) (unhide HH) ?_
  rotate_left 1
  · intro W hSW; go_simp; all_goals (with_reducible rfl)
  (try simp only [Act.put, List.setIfInBounds_toArray, List.set_cons_zero, List.set_cons_succ])
  refine takeL (i := 11) (v := ?_) rfl (by kernel_rfl) (by kernel_rfl) (by kernel_rfl) (fun _ _ _ h => h) (Or.inl ⟨by rfl, ?_⟩) (unhide HH) ?_
  rotate_left 1
  · intro W hSW; go_simp; all_goals (with_reducible rfl)
  (try simp only [Act.put, List.setIfInBounds_toArray, List.set_cons_zero, List.set_cons_succ])
  refine takeL (i := 14) (v := ?_) rfl (by kernel_rfl) (by kernel_rfl) (by kernel_rfl) (fun _ _ _ h => h) (Or.inl ⟨by rfl, ?_⟩) (unhide HH) ?_
  rotate_left 1
  · intro W hSW; go_simp; all_goals (with_reducible rfl)
  (try simp only [Act.put, List.setIfInBounds_toArray, List.set_cons_zero, List.set_cons_succ])
  refine takeL (i := 15) (v := ?_) rfl (by kernel_rfl) (by kernel_rfl) (by kernel_rfl) (fun _ _ _ h => h) (Or.inl ⟨by rfl, ?_⟩) (unhide HH) ?_
  rotate_left 1
  · intro W1 hSW; have hcv := conv_arg ((unhide HX).below hSW); clear hSW; go_simp; all_goals (with_reducible rfl)
  (try simp only [Act.put, List.setIfInBounds_toArray, List.set_cons_zero, List.set_cons_succ])
  refine wpAnyH_ready (rs := [10]) (by kernel_rfl) (by simp) ?_
  refine consL rfl (fun K hK => ?_) AllReadyH.nil
  go_simp
  refine (flip6_any _ _ _ _ (X) (ints (apL (X) (Y))) _ (unhide HX) (unhide HZ3) (by rw [unhide HXL]; omega)).mono ?_
  rintro e w6 ⟨v6, rfl, hF, hk⟩
  rw [unhide HFA] at hF
  replace HX := hide ((unhide HX).below hk)
  replace HY := hide ((unhide HY).below hk)
  replace HZ3 := hide ((unhide HZ3).below hk)
  replace HA5 := hide ((unhide HA5).below hk)
  replace HT := hide ((unhide HT).trans (hk.mono (unhide HT).size))
  obtain ⟨g6, hA, hge⟩ := hF.arg hyb
  obtain ⟨⟨ao6, c6, rfl, h1, h2, h3, h4⟩, _⟩ := hA
  have HA6 : Hid (Arg w6 (.slice ao6 n c6) g6 (Y)) := ⟨⟨ao6, c6, by rw [(unhide HYL)], h1, h2, h3, h4⟩, hyb⟩
  rw [show (Y).length = n from (unhide HYL)]
  clear h1 h2 h3 h4 hF hge
  go_wp2_with fail
  refine hK.out _ _ hk (fun hHeld => ?_)
  clear hK K HH hHeld
  (try simp only [Act.put, List.setIfInBounds_toArray, List.set_cons_zero, List.set_cons_succ])
  refine stronger (S' := fun W => Below w6.heap.size w6 W) (fun W h => hk.trans (h.mono hk.size)) _ _ _ _ ?_
  have HH : Hid (Below w6.heap.size w6 w6) := Below.refl _ _
  clear hk
  refine wpAnyH_ready (rs := [12]) (by kernel_rfl) (by simp) ?_
  refine consL rfl (fun K hK => ?_) AllReadyH.nil
  go_simp
  refine (flip6_any _ _ _ _ (Y) (ints (apL (X) (Y))) _ (unhide HA6) (unhide HZ3) (by rw [unhide HYL]; omega)).mono ?_
  rintro e w7 ⟨v7, rfl, hF, hk⟩
  rw [unhide HFB] at hF
  replace HX := hide ((unhide HX).below hk)
  replace HY := hide ((unhide HY).below hk)
  replace HZ3 := hide ((unhide HZ3).below hk)
  replace HA5 := hide ((unhide HA5).below hk)
  replace HA6 := hide ((unhide HA6).below hk)
  replace HT := hide ((unhide HT).trans (hk.mono (unhide HT).size))
  obtain ⟨g7, hA, hge⟩ := hF.arg hxb
  obtain ⟨⟨ao7, c7, rfl, h1, h2, h3, h4⟩, _⟩ := hA
  have HA7 : Hid (Arg w7 (.slice ao7 n c7) g7 (X)) := ⟨⟨ao7, c7, by rw [(unhide HXL)], h1, h2, h3, h4⟩, hxb⟩
  rw [show (X).length = n from (unhide HXL)]
  clear h1 h2 h3 h4 hF hge
  go_wp2_with fail
  refine hK.out _ _ hk (fun hHeld => ?_)
  clear hK K HH hHeld
  (try simp only [Act.put, List.setIfInBounds_toArray, List.set_cons_zero, List.set_cons_succ])
  refine stronger (S' := fun W => Below w7.heap.size w7 W) (fun W h => hk.trans (h.mono hk.size)) _ _ _ _ ?_
  have HH : Hid (Below w7.heap.size w7 w7) := Below.refl _ _
  clear hk
  refine takeL (i := 13) (v := ?_) rfl (by kernel_rfl) (by kernel_rfl) (by kernel_rfl) (fun _ _ _ h => h) (Or.inl ⟨by rfl, ?_⟩) (unhide HH) ?_
  rotate_left 1
  · intro W1 hSW; have hcv := conv_arg ((unhide HA7).below hSW); clear hSW; go_simp; all_goals (with_reducible rfl)
  (try simp only [Act.put, List.setIfInBounds_toArray, List.set_cons_zero, List.set_cons_succ])
  refine takeL (i := 16) (v := ?_) rfl (by kernel_rfl) (by kernel_rfl) (by kernel_rfl) (fun _ _ _ h => h) (Or.inl ⟨by rfl, ?_⟩) (unhide HH) ?_
  rotate_left 1
  · intro W hSW; go_simp; all_goals (with_reducible rfl)
  (try simp only [Act.put, List.setIfInBounds_toArray, List.set_cons_zero, List.set_cons_succ])
  refine takeL (i := 17) (v := ?_) rfl (by kernel_rfl) (by kernel_rfl) (by kernel_rfl) (fun _ _ _ h => h) (Or.inl ⟨by rfl, ?_⟩) (unhide HH) ?_
  rotate_left 1
  · intro W hSW; go_simp; all_goals (with_reducible rfl)
  (try simp only [Act.put, List.setIfInBounds_toArray, List.set_cons_zero, List.set_cons_succ])
  refine takeL (i := 18) (v := ?_) rfl (by kernel_rfl) (by kernel_rfl) (by kernel_rfl) (fun _ _ _ h => h) (Or.inl ⟨by rfl, ?_⟩) (unhide HH) ?_
  rotate_left 1
  · intro W hSW; go_simp; all_goals (with_reducible rfl)
  (try simp only [Act.put, List.setIfInBounds_toArray, List.set_cons_zero, List.set_cons_succ])
  refine takeL (i := 19) (v := ?_) rfl (by kernel_rfl) (by kernel_rfl) (by kernel_rfl) (fun _ _ _ h => h) (Or.inl ⟨by rfl, ?_⟩) (unhide HH) ?_
  rotate_left 1
  · intro W hSW; go_simp; all_goals (with_reducible rfl)
  (try simp only [Act.put, List.setIfInBounds_toArray, List.set_cons_zero, List.set_cons_succ])
  refine takeL (i := 20) (v := ?_) rfl (by kernel_rfl) (by kernel_rfl) (by kernel_rfl) (fun _ _ _ h => h) (Or.inl ⟨by rfl, ?_⟩) (unhide HH) ?_
  rotate_left 1
  · intro W hSW; go_simp; all_goals (with_reducible rfl)
  (try simp only [Act.put, List.setIfInBounds_toArray, List.set_cons_zero, List.set_cons_succ])
  refine wpAnyH_ready (rs := [21]) (by kernel_rfl) (by simp) ?_
  refine consL rfl (fun K hK => ?_) AllReadyH.nil
  go_simp
  refine (apart_any _ _ _ _ (X) (X) _ (unhide HX) (unhide HX) (fun _ => by rw [unhide HXL]; omega)).mono ?_
  rintro e w8 ⟨v8, rfl, hO, hk⟩
  rw [ap_self] at hO
  replace HX := hide ((unhide HX).below hk)
  replace HY := hide ((unhide HY).below hk)
  replace HZ3 := hide ((unhide HZ3).below hk)
  replace HA5 := hide ((unhide HA5).below hk)
  replace HA6 := hide ((unhide HA6).below hk)
  replace HA7 := hide ((unhide HA7).below hk)
  replace HT := hide ((unhide HT).trans (hk.mono (unhide HT).size))
  obtain ⟨ao8, c8, g8, rfl, hZ⟩ := hO.za (by simp)
  rw [show (([] : List Nat)).length = 0 from rfl] at hZ ⊢
  have HZ8 := hide hZ
  clear hZ hO
  go_wp2_with fail
  refine hK.out _ _ hk (fun hHeld => ?_)
  clear hK K HH hHeld
  (try simp only [Act.put, List.setIfInBounds_toArray, List.set_cons_zero, List.set_cons_succ])
  refine stronger (S' := fun W => Below w8.heap.size w8 W) (fun W h => hk.trans (h.mono hk.size)) _ _ _ _ ?_
  have HH : Hid (Below w8.heap.size w8 w8) := Below.refl _ _
  clear hk
  refine takeL (i := 22) (v := ?_) rfl (by kernel_rfl) (by kernel_rfl) (by kernel_rfl) (fun _ _ _ h => h) (Or.inl ⟨by rfl, ?_⟩) (unhide HH) ?_
  rotate_left 1
  · intro W hSW; go_simp; all_goals (with_reducible rfl)
  (try simp only [Act.put, List.setIfInBounds_toArray, List.set_cons_zero, List.set_cons_succ])
  refine takeL (i := 23) (v := ?_) rfl (by kernel_rfl) (by kernel_rfl) (by kernel_rfl) (fun _ _ _ h => h) (Or.inl ⟨by rfl, ?_⟩) (unhide HH) ?_
  rotate_left 1
  · intro W hSW; go_simp; all_goals (with_reducible rfl)
  (try simp only [Act.put, List.setIfInBounds_toArray, List.set_cons_zero, List.set_cons_succ])
  refine takeL (i := 24) (v := ?_) rfl (by kernel_rfl) (by kernel_rfl) (by kernel_rfl) (fun _ _ _ h => h) (Or.inl ⟨by rfl, ?_⟩) (unhide HH) ?_
  rotate_left 1
  · intro W hSW; go_simp; all_goals (with_reducible rfl)
  (try simp only [Act.put, List.setIfInBounds_toArray, List.set_cons_zero, List.set_cons_succ])
  refine takeL (i := 25) (v := ?_) rfl (by kernel_rfl) (by kernel_rfl) (by kernel_rfl) (fun _ _ _ h => h) (Or.inl ⟨by rfl, ?_⟩) (unhide HH) ?_
  rotate_left 1
  · intro W hSW; go_simp; all_goals (with_reducible rfl)
  (try simp only [Act.put, List.setIfInBounds_toArray, List.set_cons_zero, List.set_cons_succ])
  refine wpAnyH_done (by kernel_rfl) ?_ _
  refine NoPanic.normal ?_
  go_wp2
  go_ret
  exact ⟨rfl, unhide HT⟩

end Go.Proofs.Ytoljplfijopcmaa
