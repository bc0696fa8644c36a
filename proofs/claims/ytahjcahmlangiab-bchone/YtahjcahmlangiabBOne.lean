/-
  The walk of BchOne.
-/
import Derived.Test.YtahjcahmlangiabLp
import Derived.Test.YtahjcahmlangiabHd
import Derived.Test.YtahjcahmlangiabHi
namespace Go.Proofs.Ytahjcahmlangiab
open Go.RowKit

set_option maxRecDepth 100000 in
set_option maxHeartbeats 8000000 in
theorem one_walk (va : Value) (ga : Nat) (b : List Nat) (z : Int) (w : World) (hA : Arg w va ga b) :
    Calls Try.prog 3 #[va, .int .i64 z] w fun x w' => x = .returned (.bool true) ∧ Below w.heap.size w w' := by
  have HA := hide hA
  obtain ⟨⟨ao, c, rfl, _⟩, _⟩ := hA
  obtain ⟨n, hn⟩ : ∃ n : Nat, z % 224 = (n : Int) := ⟨(z % 224).toNat, by omega⟩
  have hn224 : n < 224 := by omega
  have hmk24 : ∀ w : World, (Instr.makeSlice 22 (.int .i64 24) (.int .i64 24)).run Try.prog w = .ok (.slice (some ⟨w.heap.size, 0, none⟩) 24 24) (w.alloc (.cells (List.replicate 24 (Value.int .u8 0)).toArray 5)) := run_zeros 24 (by omega)
  have HZ24 := hide (fun W : World => zeros_arg 24 (by omega) W)
  obtain ⟨z24, hz24⟩ : ∃ z, (List.replicate 24 (Value.int .u8 0)).toArray = z := ⟨_, rfl⟩
  rw [hz24] at HZ24
  simp only [hz24] at hmk24
  clear hz24
  have hmk28 : ∀ w : World, (Instr.makeSlice 22 (.int .i64 28) (.int .i64 28)).run Try.prog w = .ok (.slice (some ⟨w.heap.size, 0, none⟩) 28 28) (w.alloc (.cells (List.replicate 28 (Value.int .u8 0)).toArray 5)) := run_zeros 28 (by omega)
  have HZ28 := hide (fun W : World => zeros_arg 28 (by omega) W)
  obtain ⟨z28, hz28⟩ : ∃ z, (List.replicate 28 (Value.int .u8 0)).toArray = z := ⟨_, rfl⟩
  rw [hz28] at HZ28
  simp only [hz28] at hmk28
  clear hz28
  have HT : Hid (Below w.heap.size w w) := Below.refl _ _
  go_enter Try.func3, Try.ntmps3
  go_wp2_with fail
  refine (known_any _).mono ?_
  rintro e w1 ⟨rfl, hk⟩
  replace HA := hide ((unhide HA).below hk)
  replace HT := hide ((unhide HT).trans (hk.mono (unhide HT).size))
  clear hk
  go_wp2_with fail
  refine (data_any _ _ b 24 (by omega) _ (unhide HA)).mono ?_
  rintro e w2 ⟨v2, d, rfl, hld, hbd, hF, hk⟩
  replace HA := hide ((unhide HA).below hk)
  replace HT := hide ((unhide HT).trans (hk.mono (unhide HT).size))
  obtain ⟨g2, hA, hge⟩ := hF.arg hbd
  obtain ⟨⟨ao2, c2, rfl, h1, h2, h3, h4⟩, _⟩ := hA
  have HA2 : Hid (Arg w2 (.slice ao2 24 c2) g2 (d)) := ⟨⟨ao2, c2, by rw [hld], h1, h2, h3, h4⟩, hbd⟩
  rw [show (d).length = 24 from hld]
  clear h1 h2 h3 h4 hF hge
  clear hk
  go_wp2_with fail
  refine (within_any z 224 _ (by omega) (by omega)).mono ?_
  rintro e w3 ⟨rfl, hwk⟩
  rw [hwk, hn]
  clear hwk hn
  go_wp2_with fail
  refine (encode_any _ _ (d) _ (unhide HA2) hld).mono ?_
  rintro e w4 ⟨v4, rfl, hF, hk⟩
  replace HA := hide ((unhide HA).below hk)
  replace HA2 := hide ((unhide HA2).below hk)
  replace HT := hide ((unhide HT).trans (hk.mono (unhide HT).size))
  obtain ⟨g4, hA, hge⟩ := hF.arg (encF_bs hbd)
  obtain ⟨⟨ao4, c4, rfl, h1, h2, h3, h4⟩, _⟩ := hA
  have HA4 : Hid (Arg w4 (.slice ao4 28 c4) g4 (encF (d))) := ⟨⟨ao4, c4, by rw [(encF_len hld)], h1, h2, h3, h4⟩, (encF_bs hbd)⟩
  rw [show (encF (d)).length = 28 from (encF_len hld)]
  clear h1 h2 h3 h4 hF hge
  clear hk
  go_wp2_with fail
  have hk : Below w4.heap.size w4 (w4.alloc (.cells #[.int .i64 (n : Int)] 3)) := (Below.refl _ _).alloc (Nat.le_refl _) _
  have hI := one_iarg w4 n
  generalize w4.alloc (.cells #[.int .i64 (n : Int)] 3) = w5 at hk hI ⊢
  replace HA := hide ((unhide HA).below hk)
  replace HA2 := hide ((unhide HA2).below hk)
  replace HA4 := hide ((unhide HA4).below hk)
  replace HT := hide ((unhide HT).trans (hk.mono (unhide HT).size))
  clear hk
  refine (flip_any _ _ _ _ (encF d) [n] _ (unhide HA4) hI (encF_len hld) (one_pl hn224).lt (by simp)).mono ?_
  rintro e w6 ⟨v6, rfl, hF, hk⟩
  clear hI
  replace HA := hide ((unhide HA).below hk)
  replace HA2 := hide ((unhide HA2).below hk)
  replace HA4 := hide ((unhide HA4).below hk)
  replace HT := hide ((unhide HT).trans (hk.mono (unhide HT).size))
  obtain ⟨dz, dd, dn⟩ := dec_data (l := [n]) (encF_is hbd hld) (one_pl hn224) (by simp)
  obtain ⟨fX, hfX⟩ : ∃ f, flips (encF d) [n] = f := ⟨_, rfl⟩
  have hflX : fX.length = 28 := by rw [← hfX, flips_len]; exact (encF_len hld)
  have hfbX : Bs fX := by rw [← hfX]; exact flips_bs (encF_bs hbd) _
  rw [hfX] at hF dz dd dn
  clear hfX
  obtain ⟨g6, hA, hge⟩ := hF.arg hfbX
  obtain ⟨⟨ao6, c6, rfl, h1, h2, h3, h4⟩, _⟩ := hA
  have HA6 : Hid (Arg w6 (.slice ao6 28 c6) g6 (fX)) := ⟨⟨ao6, c6, by rw [hflX], h1, h2, h3, h4⟩, hfbX⟩
  rw [show (fX).length = 28 from hflX]
  clear h1 h2 h3 h4 hF hge
  clear hk
  go_wp2_with fail
  refine (decode_any _ _ fX _ (unhide HA6) hflX).mono ?_
  rintro e w7 ⟨hk, hres⟩
  replace HA := hide ((unhide HA).below hk)
  replace HA2 := hide ((unhide HA2).below hk)
  replace HA4 := hide ((unhide HA4).below hk)
  replace HA6 := hide ((unhide HA6).below hk)
  replace HT := hide ((unhide HT).trans (hk.mono (unhide HT).size))
  obtain ⟨qX, cX, rfl, hq⟩ : ∃ q c, e = .returned (.tuple #[.slice (some ⟨q, 4, none⟩) 24 c, .int .i64 1, .bool true]) ∧ Arg w7 (.slice (some ⟨q, 4, none⟩) 24 c) q (d) := by
    rcases hres with ⟨_, q, c, rfl, hq, _⟩ | ⟨hz, _⟩
    · rw [dn]
      rw [dd] at hq
      exact ⟨q, c, rfl, hq⟩
    · exact absurd dz hz
  have HX := hide hq
  clear hq hres dz dd dn
  clear hk
  go_wp2_with fail
  have hk : Below w7.heap.size w7 ((w7.alloc (.cells z28 5)).alloc (.cells #[.int .i64 (n : Int)] 3)) := ((Below.refl _ _).alloc (Nat.le_refl _) _).alloc (by simp) _
  have hI := one_iarg (w7.alloc (.cells z28 5)) n
  have hZ := (unhide HZ28 w7).below ((Below.refl _ _).alloc (Nat.le_refl _) (.cells #[.int .i64 (n : Int)] 3))
  rw [World.size_alloc] at hI
  generalize (w7.alloc (.cells z28 5)).alloc (.cells #[.int .i64 (n : Int)] 3) = w8 at hk hI hZ ⊢
  replace HA := hide ((unhide HA).below hk)
  replace HA2 := hide ((unhide HA2).below hk)
  replace HA4 := hide ((unhide HA4).below hk)
  replace HA6 := hide ((unhide HA6).below hk)
  replace HX := hide ((unhide HX).below hk)
  replace HT := hide ((unhide HT).trans (hk.mono (unhide HT).size))
  have HA8 := hide hZ
  clear hZ hk
  refine (flip_any _ _ _ _ (List.replicate 28 0) [n] _ (unhide HA8) hI List.length_replicate (one_pl hn224).lt (by simp)).mono ?_
  rintro e w9 ⟨v9, rfl, hF, hk⟩
  clear hI
  replace HA := hide ((unhide HA).below hk)
  replace HA2 := hide ((unhide HA2).below hk)
  replace HA4 := hide ((unhide HA4).below hk)
  replace HA6 := hide ((unhide HA6).below hk)
  replace HX := hide ((unhide HX).below hk)
  replace HA8 := hide ((unhide HA8).below hk)
  replace HT := hide ((unhide HT).trans (hk.mono (unhide HT).size))
  obtain ⟨dz, dd, dn⟩ := dec_data (l := [n]) (show IsEnc (List.replicate 24 0) (List.replicate 28 0) from ⟨zeros_code, rfl⟩) (one_pl hn224) (by simp)
  obtain ⟨fY, hfY⟩ : ∃ f, flips (List.replicate 28 0) [n] = f := ⟨_, rfl⟩
  have hflY : fY.length = 28 := by rw [← hfY, flips_len]; exact List.length_replicate
  have hfbY : Bs fY := by rw [← hfY]; exact flips_bs (Bs.zeros 28) _
  rw [hfY] at hF dz dd dn
  clear hfY
  obtain ⟨g9, hA, hge⟩ := hF.arg hfbY
  obtain ⟨⟨ao9, c9, rfl, h1, h2, h3, h4⟩, _⟩ := hA
  have HA9 : Hid (Arg w9 (.slice ao9 28 c9) g9 (fY)) := ⟨⟨ao9, c9, by rw [hflY], h1, h2, h3, h4⟩, hfbY⟩
  rw [show (fY).length = 28 from hflY]
  clear h1 h2 h3 h4 hF hge
  clear hk
  go_wp2_with fail
  refine (decode_any _ _ fY _ (unhide HA9) hflY).mono ?_
  rintro e w10 ⟨hk, hres⟩
  replace HA := hide ((unhide HA).below hk)
  replace HA2 := hide ((unhide HA2).below hk)
  replace HA4 := hide ((unhide HA4).below hk)
  replace HA6 := hide ((unhide HA6).below hk)
  replace HX := hide ((unhide HX).below hk)
  replace HA8 := hide ((unhide HA8).below hk)
  replace HA9 := hide ((unhide HA9).below hk)
  replace HT := hide ((unhide HT).trans (hk.mono (unhide HT).size))
  obtain ⟨qY, cY, rfl, hq⟩ : ∃ q c, e = .returned (.tuple #[.slice (some ⟨q, 4, none⟩) 24 c, .int .i64 1, .bool true]) ∧ Arg w10 (.slice (some ⟨q, 4, none⟩) 24 c) q (List.replicate 24 0) := by
    rcases hres with ⟨_, q, c, rfl, hq, _⟩ | ⟨hz, _⟩
    · rw [dn]
      rw [dd] at hq
      exact ⟨q, c, rfl, hq⟩
    · exact absurd dz hz
  have HY := hide hq
  clear hq hres dz dd dn
  clear hk
  go_wp2_with fail
  replace HT := hide ((unhide HT).drew)
  replace HA := hide ((unhide HA).below (Below.refl _ _).drew)
  replace HA2 := hide ((unhide HA2).below (Below.refl _ _).drew)
  replace HA4 := hide ((unhide HA4).below (Below.refl _ _).drew)
  replace HA6 := hide ((unhide HA6).below (Below.refl _ _).drew)
  replace HX := hide ((unhide HX).below (Below.refl _ _).drew)
  replace HA8 := hide ((unhide HA8).below (Below.refl _ _).drew)
  replace HA9 := hide ((unhide HA9).below (Below.refl _ _).drew)
  replace HY := hide ((unhide HY).below (Below.refl _ _).drew)
  refine wp_region_noPanic ?_
  refine wp_region_held_drew (S := fun W => Below w10.drew.heap.size w10.drew W) (by kernel_rfl) (Below.refl _ _) (fun hHeld => ?_)
  have HH := hide hHeld
  clear hHeld
  generalize w10.drew = w11 at HT HA HA2 HA4 HA6 HX HA8 HA9 HY HH ⊢
  refine takeL (i := 0) (v := ?_) rfl (by kernel_rfl) (by kernel_rfl) (by kernel_rfl) (fun _ _ _ h => h) (Or.inl ⟨by rfl, ?_⟩) (unhide HH) ?_
  rotate_left 1
  · intro W hSW; go_simp; all_goals (with_reducible rfl)
  (try simp only [Act.put, List.setIfInBounds_toArray, List.set_cons_zero, List.set_cons_succ])
  refine takeL (i := 1) (v := ?_) rfl (by kernel_rfl) (by kernel_rfl) (by kernel_rfl) (fun _ _ _ h => h) (Or.inl ⟨by rfl, ?_⟩) (unhide HH) ?_
  rotate_left 1
  · intro W hSW; go_simp; all_goals (with_reducible rfl)
  (try simp only [Act.put, List.setIfInBounds_toArray, List.set_cons_zero, List.set_cons_succ])
  refine takeL (i := 2) (v := ?_) rfl (by kernel_rfl) (by kernel_rfl) (by kernel_rfl) (fun _ _ _ h => h) (Or.inl ⟨by rfl, ?_⟩) (unhide HH) ?_
  rotate_left 1
  · intro W hSW; go_simp; all_goals (with_reducible rfl)
  (try simp only [Act.put, List.setIfInBounds_toArray, List.set_cons_zero, List.set_cons_succ])
  refine takeL (i := 3) (v := ?_) rfl (by kernel_rfl) (by kernel_rfl) (by kernel_rfl) (fun _ _ _ h => h) (Or.inl ⟨by rfl, ?_⟩) (unhide HH) ?_
  rotate_left 1
  · intro W hSW; go_simp; all_goals (with_reducible rfl)
  (try simp only [Act.put, List.setIfInBounds_toArray, List.set_cons_zero, List.set_cons_succ])
  refine takeL (i := 4) (v := ?_) rfl (by kernel_rfl) (by kernel_rfl) (by kernel_rfl) (fun _ _ _ h => h) (Or.inl ⟨by rfl, ?_⟩) (unhide HH) ?_
  rotate_left 1
  · intro W hSW; go_simp; all_goals (with_reducible rfl)
  (try simp only [Act.put, List.setIfInBounds_toArray, List.set_cons_zero, List.set_cons_succ])
  refine takeL (i := 5) (v := ?_) rfl (by kernel_rfl) (by kernel_rfl) (by kernel_rfl) (fun _ _ _ h => h) (Or.inl ⟨by rfl, ?_⟩) (unhide HH) ?_
  rotate_left 1
  · intro W hSW; go_simp; all_goals (with_reducible rfl)
  (try simp only [Act.put, List.setIfInBounds_toArray, List.set_cons_zero, List.set_cons_succ])
  refine takeL (i := 6) (v := ?_) rfl (by kernel_rfl) (by kernel_rfl) (by kernel_rfl) (fun _ _ _ h => h) (Or.inl ⟨by rfl, ?_⟩) (unhide HH) ?_
  rotate_left 1
  · intro W hSW; go_simp; all_goals (with_reducible rfl)
  (try simp only [Act.put, List.setIfInBounds_toArray, List.set_cons_zero, List.set_cons_succ])
  refine takeL (i := 7) (v := ?_) rfl (by kernel_rfl) (by kernel_rfl) (by kernel_rfl) (fun _ _ _ h => h) (Or.inl ⟨by rfl, ?_⟩) (unhide HH) ?_
  rotate_left 1
  · intro W1 hSW; have hcv := conv_arg ((unhide HX).below hSW); clear hSW; go_simp; all_goals (with_reducible rfl)
  (try simp only [Act.put, List.setIfInBounds_toArray, List.set_cons_zero, List.set_cons_succ])
  refine takeL (i := 8) (v := ?_) rfl (by kernel_rfl) (by kernel_rfl) (by kernel_rfl) (fun _ _ _ h => h) (Or.inl ⟨by rfl, ?_⟩) (unhide HH) ?_
  rotate_left 1
  · intro W hSW; go_simp; all_goals (with_reducible rfl)
  (try simp only [Act.put, List.setIfInBounds_toArray, List.set_cons_zero, List.set_cons_succ])
  refine takeL (i := 9) (v := ?_) rfl (by kernel_rfl) (by kernel_rfl) (by kernel_rfl) (fun _ _ _ h => h) (Or.inl ⟨by rfl, ?_⟩) (unhide HH) ?_
  rotate_left 1
  · intro W1 hSW; have hcv := conv_arg ((unhide HA2).below hSW); clear hSW; go_simp; all_goals (with_reducible rfl)
  (try simp only [Act.put, List.setIfInBounds_toArray, List.set_cons_zero, List.set_cons_succ])
  refine takeL (i := 10) (v := ?_) rfl (by kernel_rfl) (by kernel_rfl) (by kernel_rfl) (fun _ _ _ h => h) (Or.inl ⟨by rfl, ?_⟩) (unhide HH) ?_
  rotate_left 1
  · intro W hSW; go_simp; all_goals (with_reducible rfl)
  (try simp only [Act.put, List.setIfInBounds_toArray, List.set_cons_zero, List.set_cons_succ])
  refine takeL (i := 11) (v := ?_) rfl (by kernel_rfl) (by kernel_rfl) (by kernel_rfl) (fun _ _ _ h => h) (Or.inl ⟨by rfl, ?_⟩) (unhide HH) ?_
  rotate_left 1
  · intro W hSW; go_simp; all_goals (with_reducible rfl)
  (try simp only [Act.put, List.setIfInBounds_toArray, List.set_cons_zero, List.set_cons_succ])
  refine takeL (i := 12) (v := ?_) rfl (by kernel_rfl) (by kernel_rfl) (by kernel_rfl) (fun _ _ _ h => h) (Or.inl ⟨by rfl, ?_⟩) (unhide HH) ?_
  rotate_left 1
  · intro W hSW; go_simp; all_goals (with_reducible rfl)
  (try simp only [Act.put, List.setIfInBounds_toArray, List.set_cons_zero, List.set_cons_succ])
  refine takeL (i := 13) (v := ?_) rfl (by kernel_rfl) (by kernel_rfl) (by kernel_rfl) (fun _ _ _ h => h) (Or.inl ⟨by rfl, ?_⟩) (unhide HH) ?_
  rotate_left 1
  · intro W hSW; go_simp; all_goals (with_reducible rfl)
  (try simp only [Act.put, List.setIfInBounds_toArray, List.set_cons_zero, List.set_cons_succ])
  refine takeL (i := 14) (v := ?_) rfl (by kernel_rfl) (by kernel_rfl) (by kernel_rfl) (fun _ _ _ h => h) (Or.inl ⟨by rfl, ?_⟩) (unhide HH) ?_
  rotate_left 1
  · intro W hSW; go_simp; all_goals (with_reducible rfl)
  (try simp only [Act.put, List.setIfInBounds_toArray, List.set_cons_zero, List.set_cons_succ])
  refine takeL (i := 15) (v := ?_) rfl (by kernel_rfl) (by kernel_rfl) (by kernel_rfl) (fun _ _ _ h => h) (Or.inl ⟨by rfl, ?_⟩) (unhide HH) ?_
  rotate_left 1
  · intro W hSW; go_simp; all_goals (with_reducible rfl)
  (try simp only [Act.put, List.setIfInBounds_toArray, List.set_cons_zero, List.set_cons_succ])
  refine takeL (i := 16) (v := ?_) rfl (by kernel_rfl) (by kernel_rfl) (by kernel_rfl) (fun _ _ _ h => h) (Or.inl ⟨by rfl, ?_⟩) (unhide HH) ?_
  rotate_left 1
  · intro W hSW; go_simp; all_goals (with_reducible rfl)
  (try simp only [Act.put, List.setIfInBounds_toArray, List.set_cons_zero, List.set_cons_succ])
  refine takeL (i := 17) (v := ?_) rfl (by kernel_rfl) (by kernel_rfl) (by kernel_rfl) (fun _ _ _ h => h) (Or.inl ⟨by rfl, ?_⟩) (unhide HH) ?_
  rotate_left 1
  · intro W hSW; go_simp; all_goals (with_reducible rfl)
  (try simp only [Act.put, List.setIfInBounds_toArray, List.set_cons_zero, List.set_cons_succ])
  refine takeL (i := 18) (v := ?_) rfl (by kernel_rfl) (by kernel_rfl) (by kernel_rfl) (fun _ _ _ h => h) (Or.inl ⟨by rfl, ?_⟩) (unhide HH) ?_
  rotate_left 1
  · intro W hSW; go_simp; all_goals (with_reducible rfl)
  (try simp only [Act.put, List.setIfInBounds_toArray, List.set_cons_zero, List.set_cons_succ])
  refine takeL (i := 19) (v := ?_) rfl (by kernel_rfl) (by kernel_rfl) (by kernel_rfl) (fun _ _ _ h => h) (Or.inl ⟨by rfl, ?_⟩) (unhide HH) ?_
  rotate_left 1
  · intro W hSW; go_simp; all_goals (with_reducible rfl)
  (try simp only [Act.put, List.setIfInBounds_toArray, List.set_cons_zero, List.set_cons_succ])
  refine takeL (i := 20) (v := ?_) rfl (by kernel_rfl) (by kernel_rfl) (by kernel_rfl) (fun _ _ _ h => h) (Or.inl ⟨by rfl, ?_⟩) (unhide HH) ?_
  rotate_left 1
  · intro W hSW; go_simp; all_goals (with_reducible rfl)
  (try simp only [Act.put, List.setIfInBounds_toArray, List.set_cons_zero, List.set_cons_succ])
  refine takeL (i := 21) (v := ?_) rfl (by kernel_rfl) (by kernel_rfl) (by kernel_rfl) (fun _ _ _ h => h) (Or.inl ⟨by rfl, ?_⟩) (unhide HH) ?_
  rotate_left 1
  · intro W1 hSW; have hcv := conv_arg ((unhide HY).below hSW); clear hSW; go_simp; all_goals (with_reducible rfl)
  (try simp only [Act.put, List.setIfInBounds_toArray, List.set_cons_zero, List.set_cons_succ])
  refine wpAnyH_ready (rs := [22]) (by kernel_rfl) (by simp) ?_
  refine consL rfl (fun K hK => ?_) AllReadyH.nil
  go_simp
  have hk : Below w11.heap.size w11 (w11.alloc (.cells z24 5)) := (Below.refl _ _).alloc (Nat.le_refl _) _
  have hA := unhide HZ24 w11
  generalize w11.alloc (.cells z24 5) = w12 at hk hA ⊢
  replace HA := hide ((unhide HA).below hk)
  replace HA2 := hide ((unhide HA2).below hk)
  replace HA4 := hide ((unhide HA4).below hk)
  replace HA6 := hide ((unhide HA6).below hk)
  replace HX := hide ((unhide HX).below hk)
  replace HA8 := hide ((unhide HA8).below hk)
  replace HA9 := hide ((unhide HA9).below hk)
  replace HY := hide ((unhide HY).below hk)
  replace HT := hide ((unhide HT).trans (hk.mono (unhide HT).size))
  have HA12 := hide hA
  clear hA
  refine hK.out _ _ hk (fun hHeld => ?_)
  clear hK K HH hHeld
  (try simp only [Act.put, List.setIfInBounds_toArray, List.set_cons_zero, List.set_cons_succ])
  refine stronger (S' := fun W => Below w12.heap.size w12 W) (fun W h => hk.trans (h.mono hk.size)) _ _ _ _ ?_
  have HH : Hid (Below w12.heap.size w12 w12) := Below.refl _ _
  clear hk
  refine takeL (i := 23) (v := ?_) rfl (by kernel_rfl) (by kernel_rfl) (by kernel_rfl) (fun _ _ _ h => h) (Or.inl ⟨by rfl, ?_⟩) (unhide HH) ?_
  rotate_left 1
  · intro W1 hSW; have hcv := conv_arg ((unhide HA12).below hSW); clear hSW; go_simp; all_goals (with_reducible rfl)
  (try simp only [Act.put, List.setIfInBounds_toArray, List.set_cons_zero, List.set_cons_succ])
  refine takeL (i := 24) (v := ?_) rfl (by kernel_rfl) (by kernel_rfl) (by kernel_rfl) (fun _ _ _ h => h) (Or.inl ⟨by rfl, ?_⟩) (unhide HH) ?_
  rotate_left 1
  · intro W hSW; go_simp; all_goals (with_reducible rfl)
  (try simp only [Act.put, List.setIfInBounds_toArray, List.set_cons_zero, List.set_cons_succ])
  refine takeL (i := 25) (v := ?_) rfl (by kernel_rfl) (by kernel_rfl) (by kernel_rfl) (fun _ _ _ h => h) (Or.inl ⟨by rfl, ?_⟩) (unhide HH) ?_
  rotate_left 1
  · intro W hSW; go_simp; all_goals (with_reducible rfl)
  (try simp only [Act.put, List.setIfInBounds_toArray, List.set_cons_zero, List.set_cons_succ])
  refine takeL (i := 26) (v := ?_) rfl (by kernel_rfl) (by kernel_rfl) (by kernel_rfl) (fun _ _ _ h => h) (Or.inl ⟨by rfl, ?_⟩) (unhide HH) ?_
  rotate_left 1
  · intro W hSW; go_simp; all_goals (with_reducible rfl)
  (try simp only [Act.put, List.setIfInBounds_toArray, List.set_cons_zero, List.set_cons_succ])
  refine wpAnyH_done (by kernel_rfl) ?_ _
  refine NoPanic.normal ?_
  go_wp2
  go_ret
  exact ⟨rfl, unhide HT⟩

end Go.Proofs.Ytahjcahmlangiab
