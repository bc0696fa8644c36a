/-
  The walk of BitsApart.
-/
import Derived.Test.YtoljplfijopcmaaH6k
import Derived.Test.YtoljplfijopcmaaM6
import Derived.Test.YtoljplfijopcmaaN6f
namespace Go.Proofs.Ytoljplfijopcmaa
open Go.RowKit Go.Shelf

set_option maxRecDepth 100000 in
set_option maxHeartbeats 8000000 in
theorem apa_walk (u v : Value) (ga gb : Nat) (a b : List Nat) (w : World) (hA : Arg w u ga a) (hB : Arg w v gb b) :
    Calls Try.prog 8 #[u, v] w fun e w' => e = .returned (.bool true) ∧ Below w.heap.size w w' := by
  have HA := hide hA
  have HB := hide hB
  obtain ⟨⟨ao, ca, rfl, hc1, hc2, _, _⟩, hba⟩ := hA
  obtain ⟨⟨bo, cb, rfl, hd1, hd2, _, _⟩, hbb⟩ := hB
  obtain ⟨la, hla⟩ : ∃ n, a.length = n := ⟨_, rfl⟩
  obtain ⟨lb, hlb⟩ : ∃ n, b.length = n := ⟨_, rfl⟩
  have HLA := hide hla
  have HLB := hide hlb
  rw [hla] at HA hc1 ⊢
  rw [hlb] at HB hd1 ⊢
  clear hla hlb
  have ha1 : (la : Int) ≤ 9223372036854775807 := by unfold maxLen at hc2; omega
  have hb1 : (lb : Int) ≤ 9223372036854775807 := by unfold maxLen at hd2; omega
  obtain ⟨n, hn⟩ : ∃ n : Nat, min (min la lb) 60 = n := ⟨_, rfl⟩
  have hnl : n ≤ 60 := by omega
  have hna : n ≤ la := by omega
  have hnb : n ≤ lb := by omega
  have hmin : ∀ W : World, (Builtin.min_ #[3, 3, 3] 3 #[.int .i64 (la : Int), .int .i64 (lb : Int), .int .i64 60]).run Try.prog W = .ok (.int .i64 (n : Int)) W := fun W => by
    rw [min_three, show min (min (la : Int) (lb : Int)) 60 = (n : Int) from by omega]
  clear hn
  have hnca : n ≤ ca := by omega
  have hncb : n ≤ cb := by omega
  obtain ⟨X, hX⟩ : ∃ X, a.take n = X := ⟨_, rfl⟩
  obtain ⟨Y, hY⟩ : ∃ Y, b.take n = Y := ⟨_, rfl⟩
  have HX := hide ((unhide HA).front hna)
  have HY := hide ((unhide HB).front hnb)
  rw [hX] at HX
  rw [hY] at HY
  have hxl : X.length = n := by rw [← hX, List.length_take, unhide HLA]; omega
  have hyl : Y.length = n := by rw [← hY, List.length_take, unhide HLB]; omega
  have hxb : Bs X := (unhide HX).bs
  have hyb : Bs Y := (unhide HY).bs
  have HXL := hide hxl
  have HYL := hide hyl
  have HCX : Hid (∀ i, i < n → cf a i = cf X i) := fun i hi => by rw [← hX, cf_take, if_pos hi]
  have HCY : Hid (∀ i, i < n → cf b i = cf Y i) := fun i hi => by rw [← hY, cf_take, if_pos hi]
  clear hX hY hxl hyl
  have hle : X.length = Y.length := by rw [unhide HXL, unhide HYL]
  obtain ⟨L, hL⟩ : ∃ L, apL X Y = L := ⟨_, rfl⟩
  have HLT : Hid (∀ k ∈ L, k < 1000000) := fun k h => by rw [← hL] at h; have := ap_lt h; rw [unhide HXL] at this; omega
  have HALL : Hid (apc X Y (8 * n) = L.length) := by have := apc_all hle; rwa [unhide HXL, hL] at this
  have HYES : Hid (∀ k, k < 8 * n → dif X Y k = true → apc X Y k < L.length ∧ cf L (apc X Y k) = k) := fun k hk h => by have := ap_yes hle (by rw [unhide HXL]; exact hk) h; rwa [hL] at this
  have HNO : Hid (∀ k, k < 8 * n → dif X Y k = false → apc X Y k ≤ L.length ∧ (apc X Y k < L.length → cf L (apc X Y k) ≠ k)) := fun k hk h => by have := ap_no hle (by rw [unhide HXL]; exact hk) h; rwa [hL] at this
  have HLL := hide hL
  clear hle hL
  have HT : Hid (Below w.heap.size w w) := Below.refl _ _
  go_enter Try.func8, Try.ntmps8
  go_wp2_with fail
  refine (known_any _).mono ?_
  rintro e w1 ⟨rfl, hk⟩
  replace HA := hide ((unhide HA).below hk)
  replace HB := hide ((unhide HB).below hk)
  replace HX := hide ((unhide HX).below hk)
  replace HY := hide ((unhide HY).below hk)
  replace HT := hide ((unhide HT).trans (hk.mono (unhide HT).size))
  clear hk
  go_wp2_with fail
  clear hmin
  replace HT := hide ((unhide HT).drew)
  replace HA := hide ((unhide HA).below (Below.refl _ _).drew)
  replace HB := hide ((unhide HB).below (Below.refl _ _).drew)
  replace HX := hide ((unhide HX).below (Below.refl _ _).drew)
  replace HY := hide ((unhide HY).below (Below.refl _ _).drew)
  refine wp_region_noPanic ?_
  refine wp_region_held_drew (S := fun W => Below w1.drew.heap.size w1.drew W) (by kernel_rfl) (Below.refl _ _) (fun hHeld => ?_)
  have HH := hide hHeld
  clear hHeld
  generalize w1.drew = w2 at HT HA HB HX HY HH ⊢
  refine takeL (i := 0) (v := ?_) rfl (by kernel_rfl) (by kernel_rfl) (by kernel_rfl) (fun _ _ _ h => h) (Or.inl ⟨by rfl, ?_⟩) (unhide HH) ?_
  rotate_left 1
  · intro W hSW; go_simp; all_goals (with_reducible rfl)
  (try simp only [Act.put, List.setIfInBounds_toArray, List.set_cons_zero, List.set_cons_succ])
  refine takeL (i := 1) (v := ?_) rfl (by kernel_rfl) (by kernel_rfl) (by kernel_rfl) (fun _ _ _ h => h) (Or.inl ⟨by rfl, ?_⟩) (unhide HH) ?_
  rotate_left 1
  · intro W hSW; go_simp; all_goals (with_reducible rfl)
  (try simp only [Act.put, List.setIfInBounds_toArray, List.set_cons_zero, List.set_cons_succ])
  refine takeL (i := 2) (v := ?_) rfl (by kernel_rfl) (by kernel_rfl) (by kernel_rfl) (fun _ _ _ h => h) (Or.inl ⟨by rfl, ?_⟩) (unhide HH) ?_
  rotate_left 1
  · intro W hSW; go_simp; all_goals (with_reducible rfl)
  (try simp only [Act.put, List.setIfInBounds_toArray, List.set_cons_zero, List.set_cons_succ])
  refine takeL (i := 3) (v := ?_) rfl (by kernel_rfl) (by kernel_rfl) (by kernel_rfl) (fun _ _ _ h => h) (Or.inl ⟨by rfl, ?_⟩) (unhide HH) ?_
  rotate_left 1
  · intro W hSW; go_simp; all_goals (with_reducible rfl)
  (try simp only [Act.put, List.setIfInBounds_toArray, List.set_cons_zero, List.set_cons_succ])
  refine takeL (i := 4) (v := ?_) rfl (by kernel_rfl) (by kernel_rfl) (by kernel_rfl) (fun _ _ _ h => h) (Or.inl ⟨by rfl, ?_⟩) (unhide HH) ?_
  rotate_left 1
  · intro W hSW; go_simp; all_goals (with_reducible rfl)
  (try simp only [Act.put, List.setIfInBounds_toArray, List.set_cons_zero, List.set_cons_succ])
  refine takeL (i := 5) (v := ?_) rfl (by kernel_rfl) (by kernel_rfl) (by kernel_rfl) (fun _ _ _ h => h) (Or.inl ⟨by rfl, ?_⟩) (unhide HH) ?_
  rotate_left 1
  · intro W hSW; go_simp; all_goals (with_reducible rfl)
  (try simp only [Act.put, List.setIfInBounds_toArray, List.set_cons_zero, List.set_cons_succ])
  refine wpAnyH_ready (rs := [6]) (by kernel_rfl) (by simp) ?_
  refine consL rfl (fun K hK => ?_) AllReadyH.nil
  go_simp
  refine (apart_any _ _ _ _ (X) (Y) _ (unhide HX) (unhide HY) (fun _ => by rw [unhide HXL]; omega)).mono ?_
  rintro e w3 ⟨v3, rfl, hO, hk⟩
  rw [unhide HLL] at hO
  replace HA := hide ((unhide HA).below hk)
  replace HB := hide ((unhide HB).below hk)
  replace HX := hide ((unhide HX).below hk)
  replace HY := hide ((unhide HY).below hk)
  replace HT := hide ((unhide HT).trans (hk.mono (unhide HT).size))
  obtain ⟨ao3, c3, g3, rfl, hZ⟩ := hO.za (unhide HLT)
  have HZ3 := hide hZ
  clear hZ hO
  go_wp2_with fail
  refine hK.out _ _ hk (fun hHeld => ?_)
  clear hK K HH hHeld
  (try simp only [Act.put, List.setIfInBounds_toArray, List.set_cons_zero, List.set_cons_succ])
  refine stronger (S' := fun W => Below w3.heap.size w3 W) (fun W h => hk.trans (h.mono hk.size)) _ _ _ _ ?_
  have HH : Hid (Below w3.heap.size w3 w3) := Below.refl _ _
  clear hk
  refine takeL (i := 7) (v := ?_) rfl (by kernel_rfl) (by kernel_rfl) (by kernel_rfl) (fun _ _ _ h => h) (Or.inl ⟨by rfl, ?_⟩) (unhide HH) ?_
  rotate_left 1
  · intro W hSW; go_simp; all_goals (with_reducible rfl)
  (try simp only [Act.put, List.setIfInBounds_toArray, List.set_cons_zero, List.set_cons_succ])
  refine wpAnyH_done (by kernel_rfl) ?_ _
  refine NoPanic.normal ?_
  have hnl2 : (n : Int) ≤ 60 := by omega
  go_wp2_with fail
  go_loopw [7, 8] (fun q p wr => ∃ k : Nat, p = .int .i64 k ∧ k ≤ 8 * n ∧ q = .int .i64 (apc X Y k : Nat) ∧ Below w3.heap.size w3 wr) (fun _ p _ => 8 * n - (intOf p).toNat)
  case atStart => exact ⟨0, rfl, by omega, rfl, Below.refl _ _⟩
  case round =>
    obtain ⟨k, rfl, hk, rfl, hK⟩ := hrel
    have HK := hide hK
    have hpc := apc_le X Y k
    clear hK
    by_cases hlt : k < 8 * n
    · have hk1 : (k : Int) < 8 * (n : Int) := by omega
      have HST := hide (apc_succ X Y k)
      obtain ⟨j, hj⟩ : ∃ j, k / 8 = j := ⟨_, rfl⟩
      obtain ⟨m, hm⟩ : ∃ m, k % 8 = m := ⟨_, rfl⟩
      have hjn : j < n := by omega
      have hja : (j : Int) < (la : Int) := by omega
      have hjb : (j : Int) < (lb : Int) := by omega
      have hm8 : m < 8 := by omega
      have q0 : (k : Int) / 8 = (j : Int) := by omega
      have q1 : (k : Int).tdiv 8 = (j : Int) := by rw [Int.tdiv_eq_ediv_of_nonneg (by omega)]; omega
      have q1' : IntKind.i64.wrap (j : Int) = (j : Int) := by rw [IntWalk.i64_in _ ⟨by omega, by omega⟩]
      have q2 : (k : Int).tmod 8 = (m : Int) := by rw [Int.tmod_eq_emod_of_nonneg (by omega)]; omega
      have q2' : (k : Int) % 8 = (m : Int) := by omega
      have q3 : IntKind.u64.wrap (m : Int) = (m : Int) := IntWalk.u64_in _ ⟨by omega, by omega⟩
      have hra := arg_row ((unhide HA).below (unhide HK))
      obtain ⟨oa, rfl⟩ := row_some hra (by rw [unhide HLA]; omega)
      have hca := row_cell hra (j := j) (by rw [unhide HLA]; omega)
      have hrb := arg_row ((unhide HB).below (unhide HK))
      obtain ⟨ob, rfl⟩ := row_some hrb (by rw [unhide HLB]; omega)
      have hcb := row_cell hrb (j := j) (by rw [unhide HLB]; omega)
      clear hra hrb
      rw [unhide HCX j hjn] at hca
      rw [unhide HCY j hjn] at hcb
      have q5 := bit_u8 m (hxb j)
      have q6 := bit_u8 m (hyb j)
      have HD : Hid (dif X Y k = decide (bt (cf X j) m ≠ bt (cf Y j) m)) := by show _ = _; unfold dif bf; rw [hj, hm]
      obtain ⟨x, hx⟩ : ∃ x, bt (cf X j) m = x := ⟨_, rfl⟩
      obtain ⟨y, hy⟩ : ∃ x, bt (cf Y j) m = x := ⟨_, rfl⟩
      rw [hx] at q5 HD
      rw [hy] at q6 HD
      clear hx hy hj hm
      by_cases hxy : x = y
      · subst hxy
        have hd : dif X Y k = false := by rw [unhide HD]; simp
        have hno := unhide HNO k hlt hd
        rw [hd, if_neg (by simp), Nat.add_zero] at HST
        obtain ⟨at', hat⟩ : ∃ x, apc X Y k = x := ⟨_, rfl⟩
        rw [hat] at hno HST hpc ⊢
        clear hat hd HD
        by_cases hin : at' < L.length
        · have hin1 : (at' : Int) < (L.length : Int) := by omega
          have hrl := zarg_row ((unhide HZ3).below (unhide HK))
          obtain ⟨ol, rfl⟩ := irow_some hrl (by omega)
          have hcl := irow_cell hrl (j := at') hin
          have hne := hno.2 hin
          have hne1 : (((cf L at' : Nat) : Int) == (k : Int)) = false := by rw [beq_eq_false_iff_ne]; omega
          clear hrl hno hne
          go_wp2_with fail
          go_quiet (fail)
          have hk : Below wr.heap.size wr (wr.drewN nq) := below_drewN wr nq
          have hcl' := (hk.cell (block_lt_of_cell hcl)).trans hcl
          generalize wr.drewN nq = wq at hk hcl' ⊢
          have HK2 := hide ((unhide HK).trans (hk.mono (unhide HK).size))
          clear hk hcl hca hcb
          go_wp2_with fail
          go_roundw
          case rel => exact ⟨k + 1, by go_num, by omega, by rw [unhide HST]; rfl, unhide HK2⟩
          case measure => simp [intOf]; omega
        · have hin1 : (L.length : Int) ≤ (at' : Int) := by omega
          clear hno
          go_wp2_with fail
          go_quiet (fail)
          have hk : Below wr.heap.size wr (wr.drewN nq) := below_drewN wr nq
          generalize wr.drewN nq = wq at hk ⊢
          have HK2 := hide ((unhide HK).trans (hk.mono (unhide HK).size))
          clear hk hca hcb
          go_wp2_with fail
          go_roundw
          case rel => exact ⟨k + 1, by go_num, by omega, by rw [unhide HST]; rfl, unhide HK2⟩
          case measure => simp [intOf]; omega
      · have hd : dif X Y k = true := by rw [unhide HD]; simp [hxy]
        have hye := unhide HYES k hlt hd
        rw [hd, if_pos rfl] at HST
        have hxy1 : ((x : Int) != (y : Int)) = true := by rw [bne_iff_ne]; omega
        obtain ⟨at', hat⟩ : ∃ x, apc X Y k = x := ⟨_, rfl⟩
        rw [hat] at hye HST hpc ⊢
        clear hat hd HD hxy
        have hin1 : (at' : Int) < (L.length : Int) := by omega
        have hrl := zarg_row ((unhide HZ3).below (unhide HK))
        obtain ⟨ol, rfl⟩ := irow_some hrl (by omega)
        have hcl := irow_cell hrl (j := at') hye.1
        rw [hye.2] at hcl
        clear hrl hye
        go_wp2_with fail
        go_quiet (fail)
        have hk : Below wr.heap.size wr (wr.drewN nq) := below_drewN wr nq
        have hcl' := (hk.cell (block_lt_of_cell hcl)).trans hcl
        generalize wr.drewN nq = wq at hk hcl' ⊢
        have HK2 := hide ((unhide HK).trans (hk.mono (unhide HK).size))
        clear hk hcl hca hcb
        go_wp2_with fail
        go_roundw
        case rel => exact ⟨k + 1, by go_num, by omega, by rw [unhide HST]; go_num, unhide HK2⟩
        case measure => simp [intOf]; omega
    · have hk2 : k = 8 * n := by omega
      subst hk2
      rw [unhide HALL] at hpc ⊢
      replace HT := hide ((unhide HT).trans ((unhide HK).mono (unhide HT).size))
      replace HA := hide ((unhide HA).below (unhide HK))
      replace HB := hide ((unhide HB).below (unhide HK))
      clear HK HYES HNO HALL
      by_cases hab : la = lb
      · subst hab
        go_wp2_with fail
        go_ret
        exact ⟨rfl, unhide HT⟩
      · have hab1 : ((la : Int) == (lb : Int)) = false := by rw [beq_eq_false_iff_ne]; omega
        have HAB : Hid (apL a b = []) := by show _ = _; rw [apL, if_neg (by rw [unhide HLA, unhide HLB]; exact hab)]
        go_wp2_with fail
        refine (apart_any _ _ _ _ (a) (b) _ (unhide HA) (unhide HB) (fun h => absurd h (by rw [unhide HLA, unhide HLB]; exact hab))).mono ?_
        rintro e w21 ⟨v21, rfl, hO, hk⟩
        rw [unhide HAB] at hO
        replace HA := hide ((unhide HA).below hk)
        replace HB := hide ((unhide HB).below hk)
        replace HT := hide ((unhide HT).trans (hk.mono (unhide HT).size))
        obtain ⟨ao21, c21, g21, rfl, hZ⟩ := hO.za (by simp)
        rw [show (([] : List Nat)).length = 0 from rfl] at hZ ⊢
        have HZ21 := hide hZ
        clear hZ hO
        clear hk
        go_wp2_with fail
        go_ret
        exact ⟨rfl, unhide HT⟩

end Go.Proofs.Ytoljplfijopcmaa
