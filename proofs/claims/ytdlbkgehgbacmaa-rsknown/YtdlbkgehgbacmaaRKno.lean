/-
  RsKnown's walk.
-/
import Derived.Test.YtdlbkgehgbacmaaL5
namespace Go.Proofs.Ytdlbkgehgbacmaa
open Go.RowKit

set_option maxRecDepth 100000 in
set_option maxHeartbeats 8000000 in
theorem rkno_walk (v : Value) (gb : Nat) (b : List Nat) (n0 : Int) (add : Int) (ha0 : 0 ≤ add) (ha1 : add ≤ 255) (w : World) (hA : Arg w v gb b) :
    Calls Try.prog 7 #[v, .int .i64 n0, .int .u8 add] w fun e w' => e = .returned (.bool true) ∧ Below w.heap.size w w' := by
  obtain ⟨ad, rfl⟩ := Int.eq_ofNat_of_zero_le ha0
  have hadd : ad < 256 := by omega
  have HA := hide hA
  obtain ⟨ao, c, hv, _⟩ := hA.ex
  subst hv
  clear hA ha0 ha1
  obtain ⟨i0, hi0, hz0, hz1, hz2⟩ := info_parts infoR
  have HI := hide hi0
  clear hi0
  go_enter Try.func7, Try.ntmps7
  go_wp2_with fail
  refine (known_any w).mono ?_
  rintro e w1 ⟨rfl, hk⟩
  have HB := hide hk
  replace HA := hide ((unhide HA).below hk)
  clear hk
  go_wp2_with fail
  refine (within_any n0 12 w1 (by omega) (by omega)).mono ?_
  rintro e w2 ⟨rfl, hw2⟩
  subst hw2
  obtain ⟨m, hm⟩ : ∃ m : Nat, n0 % 12 = (m : Int) := ⟨(n0 % 12).toNat, by omega⟩
  have hm12 : m < 12 := by omega
  rw [hm]
  clear hm
  obtain ⟨n, hn⟩ : ∃ n, 2 + m = n := ⟨_, rfl⟩
  have hn1 : (2 : Int) + (m : Int) = (n : Int) := by omega
  have hn2 : 2 ≤ n ∧ n ≤ 13 := by omega
  obtain ⟨hn2, hn3⟩ := hn2
  clear hn hm12
  go_wp2_with fail
  have hrw := rows_any _ gb b n 1 (by omega) (by omega) w2 (unhide HA)
  rw [show ((1 : Nat) : Int) = 1 from rfl] at hrw
  refine hrw.mono ?_
  clear hrw
  rintro e w3 ⟨v7, ps, l, rfl, hO, hl, hs, hk⟩
  replace HB := hide ((unhide HB).trans (hk.mono (unhide HB).size))
  obtain ⟨g7, c7, rfl, hg7, hg7l, hc7, hc7m, hcl⟩ := hO.some hl (by omega)
  have HO := hide hO
  have HL := hide hl
  have HS := hide hs
  clear hO hl hs hk hcl
  go_wp2_with fail
  obtain ⟨G, hR, _⟩ := (unhide HO).arg
  refine (parity_any _ G _ _ l w3 hR (len_of (unhide HL) (unhide HS) (by omega))).mono ?_
  clear hR
  rintro e w4 ⟨v1, v2, rfl, hP, hQ, hk⟩
  replace HB := hide ((unhide HB).trans (hk.mono (unhide HB).size))
  replace HO := hide ((unhide HO).below hk)
  have hz4 := hk.size
  obtain ⟨hok, hsz⟩ := okP_of (unhide HL) hn2 (by omega) (unhide HS)
  rw [(par_of hok).1, hsz, unhide HL, smL_one] at hP
  rw [(par_of hok).2, hsz, unhide HL, smL_one] at hQ
  obtain ⟨gp, cp, rfl, hcp⟩ := hP.one
  obtain ⟨gq, cq, rfl, hcq⟩ := hQ.one
  have HCP := hide hcp
  have HCQ := hide hcq
  clear hP hQ hk hok hsz hcp hcq
  have HE : Hid (OwnR w4.heap.size (w4.alloc (.cells #[] 22)) (.slice (some ⟨w4.heap.size, 0, none⟩) 0 0) [] []) := own_empty w4
  have hke : Below w4.heap.size w4 (w4.alloc (.cells #[] 22)) := (Below.refl _ _).alloc (Nat.le_refl _) _
  have HOE := hide ((unhide HO).below hke)
  have HKE := hide hke
  clear hke
  go_wp2_with (at_builtin; refine wpList_append_vals _ rfl _ _ 23 rfl w4.heap.size 22 i0 Try.underlying23 (unhide HI) hz0 hz1 hz2 (.slice (some ⟨w4.heap.size, 0, none⟩) 0 0) 0 [] rfl (unhide HE).own (some ⟨g7, 0, none⟩) g7 n c7 (vals ps l) rfl (by rw [vals_len (unhide HOE).len]; exact unhide HL) (unhide HOE).src (vals_one _ _) (fun h => by cases h) (by omega) (by simp) ?_)
  intro v8 w5 ho hg
  have hk5 : Below w4.heap.size w4 w5 := below_grown (unhide HKE) hg (by simp) (unhide HE).row
  have hO5 : OwnR w4.heap.size w5 v8 ps l := (unhide HE).app (unhide HL) (unhide HO).len ho (fun i hi => by obtain ⟨g, h⟩ := (unhide HO).rows i hi; exact ⟨g, h.below hk5⟩)
  obtain ⟨g8, c8, rfl, hg8, hg8l, hc8, hc8m, _⟩ := hO5.some (unhide HL) (by omega)
  have hz5 := hk5.size
  have HO5 := hide hO5
  have HK45 := hide hk5
  clear ho hg hk5 HE HKE HOE hO5
  have hka : Below w5.heap.size w5 ((w5.alloc (.cells #[.int .u8 (ad : Int)] 5)).alloc (.cells #[.slice (some ⟨w5.heap.size, 0, none⟩) 1 1] 22)) := ((Below.refl _ _).alloc (Nat.le_refl _) _).alloc (by simp) _
  have HSRC := hide (one_src (w5.alloc (.cells #[.int .u8 (ad : Int)] 5)) (some ⟨w5.heap.size, 0, none⟩) 1 1)
  rw [World.size_alloc] at HSRC
  have HO6 := hide ((unhide HO5).below hka)
  have HOW : Hid (((w5.alloc (.cells #[.int .u8 (ad : Int)] 5)).alloc (.cells #[.slice (some ⟨w5.heap.size, 0, none⟩) 1 1] 22)).ownsRow w4.heap.size 22 1 (.slice (some ⟨g8, 0, none⟩) n c8) n (vals ps l)) := by
    have h := (unhide HO6).own
    rwa [unhide HL] at h
  have HKA := hide hka
  have HAD := hide ((arg_one w5 ad hadd).below ((Below.refl _ _).alloc (Nat.le_refl _) (.cells #[.slice (some ⟨w5.heap.size, 0, none⟩) 1 1] 22)))
  clear hka
  go_wp2_with (at_builtin; refine wpList_append_vals _ rfl _ _ 23 rfl w4.heap.size 22 i0 Try.underlying23 (unhide HI) hz0 hz1 hz2 (.slice (some ⟨g8, 0, none⟩) n c8) n (vals ps l) rfl (unhide HOW) (some ⟨w5.heap.size + 1, 0, none⟩) (w5.heap.size + 1) 1 1 [.slice (some ⟨w5.heap.size, 0, none⟩) 1 1] rfl rfl (unhide HSRC) (by simp [Value.oneCell']) (fun h => by cases h) (by omega) (by simp; omega) ?_)
  intro v9 w6 ho hg
  have hk6 : Below w4.heap.size w4 w6 := below_grown ((unhide HK45).trans ((unhide HKA).mono hz5)) hg (by simp; omega) (fun k hk => by cases hk; exact hg8)
  have hz6 := hk6.size
  have hO9 := (unhide HO6).snoc (r := [ad]) (n := 1) (by rw [unhide HL]; exact ho) (fun i hi => by obtain ⟨g, h⟩ := (unhide HO).rows i hi; exact ⟨g, h.below hk6⟩) rfl ⟨w5.heap.size, (unhide HAD).grown hg (fun _ e => by have e2 : g8 = w5.heap.size := Option.some.inj e; omega)⟩
  have hl9 : (l ++ [[ad]]).length = n + 1 := by simp [unhide HL]
  have hs9 : ∀ i, i < n + 1 → ((l ++ [[ad]]).getD i []).length = 1 := fun i hi => by
    by_cases e : i < n
    · rw [getD_snoc (by rw [unhide HL]; exact e)]; exact unhide HS i e
    · have : i = l.length := by rw [unhide HL]; omega
      rw [this, getD_last]; rfl
  obtain ⟨g9, c9, rfl, hg9, _⟩ := hO9.some hl9 (by omega)
  replace HB := hide ((unhide HB).trans (hk6.mono (unhide HB).size))
  replace HO := hide ((unhide HO).below hk6)
  replace HCP := hide ((hk6.cell (block_lt_of_cell (unhide HCP))).trans (unhide HCP))
  replace HCQ := hide ((hk6.cell (block_lt_of_cell (unhide HCQ))).trans (unhide HCQ))
  have HO9 := hide hO9
  have HL9 := hide hl9
  have HS9 := hide hs9
  clear ho hg hk6 hO9 hl9 hs9 HO6 HOW HKA HAD HSRC HO5 HK45
  go_wp2_with fail
  obtain ⟨G, hR, _⟩ := (unhide HO9).arg
  refine (parity_any _ G _ _ (l ++ [[ad]]) w6 hR (len_of (unhide HL9) (unhide HS9) (by omega))).mono ?_
  clear hR
  rintro e w7 ⟨v3, v4, rfl, hP, hQ, hk⟩
  replace HB := hide ((unhide HB).trans (hk.mono (unhide HB).size))
  replace HO := hide ((unhide HO).below hk)
  replace HCP := hide ((hk.cell (block_lt_of_cell (unhide HCP))).trans (unhide HCP))
  replace HCQ := hide ((hk.cell (block_lt_of_cell (unhide HCQ))).trans (unhide HCQ))
  have hz7 := hk.size
  obtain ⟨hok, hsz⟩ := okP_of (unhide HL9) (by omega) (by omega) (unhide HS9)
  rw [(par_of hok).1, hsz, unhide HL9, smL_one, sm_next, sm_snoc _ _ _ _ _ (by rw [unhide HL]; exact Nat.le_refl _)] at hP
  rw [(par_of hok).2, hsz, unhide HL9, smL_one, sm_next, sm_snoc _ _ _ _ _ (by rw [unhide HL]; exact Nat.le_refl _)] at hQ
  have hrc : rc (l ++ [[ad]]) n 0 = ad := by unfold rc; rw [← unhide HL, getD_last]; rfl
  rw [hrc, gmul_one hadd] at hP
  rw [hrc] at hQ
  obtain ⟨gv, cv, rfl, hcv⟩ := hP.one
  obtain ⟨gw, cw, rfl, hcw⟩ := hQ.one
  have HCV := hide hcv
  have HCW := hide hcw
  clear hP hQ hk hok hsz hcv hcw hrc HO9 HL9 HS9
  have HBL : Hid (∀ i, Bs (l.getD i [])) := (unhide HO).bs
  go_wp2_with fail
  go_loopw [12, 13, 14] (fun x y p wr => ∃ i : Nat, x = .int .u8 (sm (fun _ => 1) l (List.range i) 0 : Nat) ∧ y = .int .u8 (sm E l (List.range i) 0 : Nat) ∧ p = .int .i64 i ∧ i ≤ n ∧ Below w7.heap.size w7 wr) (fun _ _ p _ => n - (intOf p).toNat)
  case atStart => exact ⟨0, rfl, rfl, rfl, by omega, Below.refl _ _⟩
  case round =>
    obtain ⟨i, rfl, rfl, rfl, hi, hK⟩ := hrel
    have HK := hide hK
    clear hK
    have hx8 : sm (fun _ => 1) l (List.range i) 0 < 256 := sm_lt (unhide HBL)
    have hy8 : sm E l (List.range i) 0 < 256 := sm_lt (unhide HBL)
    by_cases hlt : i < n
    · have hi1 : (i : Int) < (n : Int) := by omega
      have HN1 := hide (sm_next (fun _ => 1) l i 0)
      have HN2 := hide (sm_next E l i 0)
      obtain ⟨x, hx⟩ : ∃ x, sm (fun _ => 1) l (List.range i) 0 = x := ⟨_, rfl⟩
      obtain ⟨y, hy⟩ : ∃ y, sm E l (List.range i) 0 = y := ⟨_, rfl⟩
      rw [hx] at hx8 HN1 ⊢
      rw [hy] at hy8 HN2 ⊢
      clear hx hy
      have hO := (unhide HO).below (unhide HK)
      obtain ⟨g, hA⟩ := hO.rows i (by rw [unhide HL]; exact hlt)
      obtain ⟨_, _, hsh, _, _, _, _, hcl⟩ := hO.some (unhide HL) (by omega)
      cases hsh
      have hc1 := hcl i hlt
      rw [unhide HS i hlt] at hc1 hA
      obtain ⟨o, hao, hc2⟩ := hA.first (by rw [unhide HS i hlt]; omega)
      rw [hao] at hc1
      have hr8 : cf (l.getD i []) 0 < 256 := unhide HBL i 0
      rw [show rc l i 0 = cf (l.getD i []) 0 from rfl] at HN1 HN2
      obtain ⟨r, hr⟩ : ∃ r, cf (l.getD i []) 0 = r := ⟨_, rfl⟩
      rw [hr] at hc2 hr8 HN1 HN2
      obtain ⟨C9, hC9⟩ : ∃ C9, psC ps i = C9 := ⟨_, rfl⟩
      rw [hC9] at hc1
      have hxx := bits_xor_u8 hx8 hr8
      have hyy := bits_xor_u8 hy8 (gmul_lt (a := X (i : Int)) (b := r) (X_lt _))
      clear hr hA hcl hao hO hC9
      go_wp2_with fail
      go_quiet ((first | (go_at_call 22; exact Calls.quiet_of_same (rexp_any (i : Int) _)) | (go_at_call 21; exact Calls.quiet_of_same (rmul_any (X (i : Int)) r (X_lt _) hr8 _))))
      go_wp2_with fail
      go_roundw
      case rel => exact ⟨i + 1, by rw [unhide HN1, gmul_one hr8], by rw [unhide HN2, gmul_comm hr8 (E_lt i), ← X_nat], by go_num, by omega, below_drewN (unhide HK) _⟩
      case measure => simp [intOf]; omega
    · have hi2 : i = n := by omega
      subst hi2
      obtain ⟨x, hx⟩ : ∃ x, sm (fun _ => 1) l (List.range i) 0 = x := ⟨_, rfl⟩
      obtain ⟨y, hy⟩ : ∃ y, sm E l (List.range i) 0 = y := ⟨_, rfl⟩
      rw [hx] at hx8 HCP HCV ⊢
      rw [hy] at hy8 HCQ HCW ⊢
      clear hx hy
      rw [gmul_comm hadd (E_lt i), ← X_nat] at HCW
      have d1 := ((unhide HK).cell (block_lt_of_cell (unhide HCP))).trans (unhide HCP)
      have d2 := ((unhide HK).cell (block_lt_of_cell (unhide HCQ))).trans (unhide HCQ)
      have d3 := ((unhide HK).cell (block_lt_of_cell (unhide HCV))).trans (unhide HCV)
      have d4 := ((unhide HK).cell (block_lt_of_cell (unhide HCW))).trans (unhide HCW)
      have hxx := bits_xor_u8 hx8 hadd
      have hyy := bits_xor_u8 hy8 (gmul_lt (a := X (i : Int)) (b := ad) (X_lt _))
      go_wp2_with fail
      go_quiet ((first | (go_at_call 22; exact Calls.quiet_of_same (rexp_any (i : Int) _)) | (go_at_call 21; exact Calls.quiet_of_same (rmul_any (X (i : Int)) ad (X_lt _) hadd _))))
      go_wp2_with fail
      go_ret
      exact ⟨rfl, below_drewN ((unhide HB).trans ((unhide HK).mono (unhide HB).size)) _⟩

end Go.Proofs.Ytdlbkgehgbacmaa
