/-
  RsDetects' walk.
-/
import Derived.Test.YtdlbkgehgbacmaaT6
import Derived.Test.YtdlbkgehgbacmaaR5a
namespace Go.Proofs.Ytdlbkgehgbacmaa
open Go.RowKit

theorem z_one (w : World) (k : Nat) (hk : k < 1000) : ZArg (w.alloc (.cells #[.int .i64 (k : Int)] 3)) (.slice (some ⟨w.heap.size, 0, none⟩) 1 1) w.heap.size [(k : Int)] :=
  ⟨⟨some ⟨w.heap.size, 0, none⟩, 1, rfl, by simp, by unfold maxLen; omega, (fun h => by cases h), .inr ⟨0, rfl, fun j hj => by
    have : j = 0 := by simpa using hj
    subst this
    exact (cell_new' w _ _).1⟩⟩, by simp; omega⟩

theorem plain_mod' {i m N k : Nat} (hk : (i + 1 + m) % N = k) : ((i : Int) + 1 + (m : Int)) % (N : Int) = (k : Int) := by
  rw [← hk, Int.natCast_emod, Int.natCast_add, Int.natCast_add]; rfl
theorem plain_mod {i m N k : Nat} (hk : (i + 1 + m) % N = k) : ((i : Int) + 1 + (m : Int)).tmod (N : Int) = (k : Int) := by
  rw [Int.tmod_eq_emod_of_nonneg (by omega)]; exact plain_mod' hk

/-- One lost, another one wrong: told. -/
theorem detect {l t x : List (List Nat)} {d s i k : Nat} {bad : List Nat} (hl : l.length = d) (h2 : 2 ≤ d) (h14 : d ≤ 14) (hs : ∀ i, i < d → (l.getD i []).length = s) (hb : ∀ i, Bs (l.getD i [])) (hi : i < d + 2) (hk : k < d + 2) (hik : i ≠ k) (hbl : bad.length = s)
    (ht : t = (withP l).set k bad) (hx : IsFix t [(i : Int)] x s) : chk x = decide (bad = (withP l).getD k []) := by
  obtain ⟨f1, f2, f3, f4⟩ := withP_facts hl h2 h14 hs hb
  have hwl : (withP l).length = d + 2 := by rw [withP_len, hl]
  have htl : t.length = d + 2 := by rw [ht, List.length_set, hwl]
  have hxl : x.length = d + 2 := by rw [hx.len, htl]
  have hkw : k < (withP l).length := by rw [hwl]; exact hk
  have hpk1 : pk [(i : Int)] t.length = true := pk_of ⟨by simp, by simp; rw [htl]; omega, by simp⟩
  by_cases e : bad = (withP l).getD k []
  · rw [decide_eq_true e]
    have htw : t = withP l := by
      rw [ht]
      refine getD_ext (by rw [List.length_set]) (fun j hj => ?_)
      rw [getD_set hkw]
      split
      · rename_i h; rw [← h]; exact e
      · rfl
    have hI : IsFix t [(i : Int)] (withP l) s := by
      rw [htw]
      exact ⟨rfl, fun j hj _ => f1 j (by rw [← hwl]; exact hj), fun j hj => f1 j (by rw [← hwl]; exact hj), fun _ _ _ => rfl, f2, by rw [hwl]; exact fun _ => f3, by rw [hwl]; exact fun _ => f4⟩
    have hxe := fix_once (by rw [htl]; omega) (by rw [htl]; omega) hpk1 hx hI
    rw [hxe]
    exact chk_of (by rw [hwl]; omega) (by rw [hwl]; omega) (fun j hj => f1 j (by rw [← hwl]; exact hj)) (by rw [hwl]; exact f3) (by rw [hwl]; exact f4)
  · rw [decide_eq_false e]
    cases hc : chk x with
    | false => rfl
    | true =>
      exfalso
      obtain ⟨hok, hp, hq⟩ := chk_parts hc
      have hsz : size x = s := hx.sz 0 (by rw [htl]; omega)
      rw [hsz, hxl, show d + 2 - 2 = d from by omega] at hp hq
      have hpk2 : pk [(i : Int), (k : Int)] (d + 2) = true := pk_of ⟨by simp, by simp; omega, by simp; omega⟩
      have hxk : x.getD k [] = bad := by
        rw [hx.same k (by rw [htl]; exact hk) (by simp [keep]; omega), ht, getD_set hkw, if_pos rfl]
      refine e (eq_of_cf (by rw [hbl, f1 k hk]) (fun c => ?_))
      by_cases hcs : c < s
      · have h0 := supp_zero (d := d) (N := d + 2) (zs := [(i : Int), (k : Int)]) (e := fun j => rc x j c ^^^ rc (withP l) j c) (by omega) rfl hpk2 (fun j => xor_lt (hx.bs j c) (f2 j c)) (fun j hj hkj => by
          have hji : i ≠ j := fun e2 => by rw [← e2] at hkj; simp [keep] at hkj
          have hjk : k ≠ j := fun e2 => by rw [← e2] at hkj; simp [keep] at hkj
          show rc x j c ^^^ rc (withP l) j c = 0
          unfold rc
          rw [hx.same j (by rw [htl]; exact hj) (by simp [keep]; omega), ht, getD_set hkw, if_neg hjk, Nat.xor_self])
          (fun _ => by rw [sm_diff (shP_lt _) hx.bs f2, hp c hcs, f3 c hcs, Nat.xor_self]) (fun _ => by rw [sm_diff (shQ_lt _) hx.bs f2, hq c hcs, f4 c hcs, Nat.xor_self]) k hk
        have h1 := xor_nil.1 h0
        unfold rc at h1
        rw [hxk] at h1
        exact h1
      · rw [cf_ge (by rw [hbl]; omega), cf_ge (by rw [f1 k hk]; omega)]
theorem turned_eq {r y : List Nat} {J : Nat} (hy : Bs y) (hl : r.length = 8) (hJ : J ≤ 8) : decide (addK r y 1 J = r) = !decide (∃ c, c < J ∧ cf y c ≠ 0) := by
  by_cases h : ∃ c, c < J ∧ cf y c ≠ 0
  · rw [decide_eq_true h, decide_eq_false]
    · rfl
    · intro e
      obtain ⟨c, hc, hne⟩ := h
      have h1 := congrArg (fun s => cf s c) e
      simp only [cf_addK] at h1
      rw [if_pos (by omega), if_pos hc, gmul_one (hy c)] at h1
      have h2 := congrArg (fun z => cf r c ^^^ z) h1
      simp only [← Nat.xor_assoc, Nat.xor_self, Nat.zero_xor] at h2
      exact hne h2
  · rw [decide_eq_false h, decide_eq_true]
    · rfl
    · refine eq_of_cf (addK_len _ _ _ _) (fun c => ?_)
      rw [cf_addK]
      by_cases h1 : c < r.length
      · rw [if_pos h1]
        split
        · rename_i h2
          have : cf y c = 0 := by
            by_cases h3 : cf y c = 0
            · exact h3
            · exact absurd ⟨c, h2, h3⟩ h
          rw [this, zero_gmul (by omega), Nat.xor_zero]
        · rfl
      · rw [if_neg h1, cf_ge (by omega)]

set_option maxRecDepth 100000 in
set_option maxHeartbeats 16000000 in
theorem rdet_walk {w : World} (v : Value) (gb : Nat) (b : List Nat) (n0 i00 k00 : Int) (vy : Value) (gy : Nat) (y : List Nat) (hA : Arg w v gb b) (hY : Arg w vy gy y) :
    Calls Try.prog 6 #[v, .int .i64 n0, .int .i64 i00, .int .i64 k00, vy] w fun e w' => e = .returned (.bool true) ∧ Below w.heap.size w w' := by
  have HA := hide hA
  have HY := hide hY
  have HYB := hide hY.bs
  obtain ⟨ao, c, hv, -⟩ := hA.ex
  obtain ⟨yo, yc, hvy, hyc1, hyc2, -⟩ := hY.ex
  subst hv
  subst hvy
  obtain ⟨L, hL⟩ : ∃ L, y.length = L := ⟨_, rfl⟩
  rw [hL] at HY hyc1 ⊢
  have HYL := hide hL
  have hLm : (L : Int) ≤ 9223372036854775807 := by unfold maxLen at hyc2; omega
  clear hA hY hL
  obtain ⟨i0, hi0, hz0, hz1, hz2⟩ := info_parts infoR
  have HI := hide hi0
  clear hi0
  obtain ⟨iB, hiB, hzB0, hzB1, hzB2⟩ := info_parts infoE
  have HIB := hide hiB
  clear hiB
  go_enter Try.func6, Try.ntmps6
  go_wp2_with fail
  refine (known_any w).mono ?_
  rintro e w1 ⟨rfl, hk⟩
  have HB := hide hk
  replace HA := hide ((unhide HA).below hk)
  replace HY := hide ((unhide HY).below hk)
  clear hk
  go_wp2_with fail
  refine (within_any n0 5 w1 (by omega) (by omega)).mono ?_
  rintro e w2 ⟨rfl, hw2⟩
  subst hw2
  obtain ⟨m, hm⟩ : ∃ m : Nat, n0 % 5 = (m : Int) := ⟨(n0 % 5).toNat, by omega⟩
  have hm12 : m < 5 := by omega
  rw [hm]
  clear hm
  obtain ⟨n, hn⟩ : ∃ n, 4 + m = n := ⟨_, rfl⟩
  have hn1 : (4 : Int) + (m : Int) = (n : Int) := by omega
  have hn2 : 4 ≤ n ∧ n ≤ 8 := by omega
  obtain ⟨hn2, hn3⟩ := hn2
  clear hn hm12
  go_wp2_with fail
  have hrw := rows_any _ gb b n 8 (by omega) (by omega) w2 (unhide HA)
  rw [show ((8 : Nat) : Int) = 8 from rfl] at hrw
  refine hrw.mono ?_
  clear hrw
  rintro e w4 ⟨v9, ps, l, rfl, hO, hl, hs, hk⟩
  replace HB := hide ((unhide HB).trans (hk.mono (unhide HB).size))
  replace HY := hide ((unhide HY).below hk)
  obtain ⟨g9, c9, rfl, _, hg9l, -⟩ := hO.some hl (by omega)
  have HO := hide hO
  have HL := hide hl
  have HS := hide hs
  have HBL : Hid (∀ i, Bs (l.getD i [])) := hO.bs
  clear hO hl hs hk HA
  go_wp2_with fail
  obtain ⟨G, hR, -⟩ := (unhide HO).arg
  refine (rparity_any _ G _ _ l w4 hR (len_of (unhide HL) (unhide HS) (by omega))).mono ?_
  clear hR
  rintro e w5 ⟨v1, v2, rfl, hP, hQ, hk⟩
  replace HB := hide ((unhide HB).trans (hk.mono (unhide HB).size))
  replace HY := hide ((unhide HY).below hk)
  replace HO := hide ((unhide HO).below hk)
  obtain ⟨hok, hsz⟩ := okP_of (unhide HL) (by omega) (by omega) (unhide HS)
  have hlP : (pP l).length = 8 := by rw [(par_of hok).1, smL_len, hsz]
  have hlQ : (pQ l).length = 8 := by rw [(par_of hok).2, smL_len, hsz]
  obtain ⟨gP, hAP, -⟩ := hP.arg (par_bs (unhide HBL)).1
  obtain ⟨gQ, hAQ, -⟩ := hQ.arg (par_bs (unhide HBL)).2
  obtain ⟨aP, cP, hvP, -⟩ := hAP.ex
  obtain ⟨aQ, cQ, hvQ, -⟩ := hAQ.ex
  rw [hlP] at hvP
  rw [hlQ] at hvQ
  subst hvP
  subst hvQ
  have HAP := hide hAP
  have HAQ := hide hAQ
  have HLP := hide hlP
  have HLQ := hide hlQ
  have hzw5 := (unhide HB).size
  clear hAP hAQ hP hQ hlP hlQ hk hok hsz
  have HE : Hid (OwnR w5.heap.size (w5.alloc (.cells #[] 22)) (.slice (some ⟨w5.heap.size, 0, none⟩) 0 0) [] []) := own_empty w5
  have hke : Below w5.heap.size w5 (w5.alloc (.cells #[] 22)) := (Below.refl _ _).alloc (Nat.le_refl _) _
  have HOE := hide ((unhide HO).below hke)
  have HKE := hide hke
  clear hke
  go_wp2_with (at_builtin; refine wpList_append_vals _ rfl _ _ 23 rfl w5.heap.size 22 i0 Try.underlying23 (unhide HI) hz0 hz1 hz2 (.slice (some ⟨w5.heap.size, 0, none⟩) 0 0) 0 [] rfl (unhide HE).own (some ⟨g9, 0, none⟩) g9 n c9 (vals ps l) rfl (by rw [vals_len (unhide HOE).len]; exact unhide HL) (unhide HOE).src (vals_one _ _) (fun h => by cases h) (by omega) (by simp) ?_)
  intro v8 w6 ho hg
  have hkX : Below w5.heap.size w5 w6 := below_grown (unhide HKE) hg (by simp) (unhide HE).row
  have hOX : OwnR w5.heap.size w6 v8 ps l := (unhide HE).app (unhide HL) (unhide HO).len ho (fun i hi => by obtain ⟨g, h⟩ := (unhide HO).rows i hi; exact ⟨g, h.below hkX⟩)
  obtain ⟨gX, cX, rfl, hgX, hgXl, hcX, hcXm, _⟩ := hOX.some (unhide HL) (by omega)
  have hzX := hkX.size
  have HOX := hide hOX
  have HKX := hide hkX
  clear ho hg hkX HE HKE HOE hOX
  have hka : Below w6.heap.size w6 (w6.alloc (.cells #[.slice aP 8 cP, .slice aQ 8 cQ] 22)) := (Below.refl _ _).alloc (Nat.le_refl _) _
  have HSRC := hide (two_src w6 aP aQ 8 8 cP cQ)
  have HO6 := hide ((unhide HOX).below hka)
  have HOW : Hid ((w6.alloc (.cells #[.slice aP 8 cP, .slice aQ 8 cQ] 22)).ownsRow w5.heap.size 22 1 (.slice (some ⟨gX, 0, none⟩) n cX) n (vals ps l)) := by
    have h := (unhide HO6).own
    rwa [unhide HL] at h
  have HKA := hide hka
  clear hka
  go_wp2_with (at_builtin; refine wpList_append_vals _ rfl _ _ 23 rfl w5.heap.size 22 i0 Try.underlying23 (unhide HI) hz0 hz1 hz2 (.slice (some ⟨gX, 0, none⟩) n cX) n (vals ps l) rfl (unhide HOW) (some ⟨w6.heap.size, 0, none⟩) w6.heap.size 2 2 [.slice aP 8 cP, .slice aQ 8 cQ] rfl rfl (unhide HSRC) (by simp [Value.oneCell']) (fun h => by cases h) (by omega) (by simp; omega) ?_)
  intro vB w7 ho hg
  have hkB : Below w5.heap.size w5 w7 := below_grown ((unhide HKX).trans ((unhide HKA).mono (unhide HKX).size)) hg (by simp; omega) (fun k hk => by have e2 : gX = k := Option.some.inj hk; omega)
  have hOB := (unhide HO6).snoc2 (r := (pP l)) (q := (pQ l)) (by rw [unhide HL]; exact ho) (fun i hi => by obtain ⟨g, h⟩ := (unhide HO).rows i hi; exact ⟨g, h.below hkB⟩) (unhide HLP) (unhide HLQ) ⟨_, (unhide HAP).below hkB⟩ ⟨_, (unhide HAQ).below hkB⟩
  have hlB : (l ++ [pP l] ++ [pQ l]).length = n + 2 := by simp [unhide HL]
  obtain ⟨gB, cB, rfl, hgB, hgBl, hcB, hcBm, -⟩ := hOB.some hlB (by omega)
  have hrB := fun j (hj : j < n + 2) => hOB.rows j (by rw [hlB]; exact hj)
  have HTN : Hid (Tn w7 gB (n + 2) (ps ++ [(aP, cP)] ++ [(aQ, cQ)]) (l ++ [pP l] ++ [pQ l])) := tn_of hOB hlB (fun j hj => by
    by_cases h1 : j < n
    · rw [getD_snoc (by simp [unhide HL]; omega), getD_snoc (by rw [unhide HL]; exact h1), (ps_snoc (by simp [(unhide HO).len, unhide HL]; omega)).1, (ps_snoc (by simp [(unhide HO).len, unhide HL]; omega)).2, (ps_snoc (by rw [(unhide HO).len, unhide HL]; exact h1)).1, (ps_snoc (by rw [(unhide HO).len, unhide HL]; exact h1)).2]
      obtain ⟨g, h⟩ := (unhide HO).rows j (by rw [unhide HL]; exact h1)
      exact ⟨g, h.below hkB, fun h0 => by have := h.lt h0; omega⟩
    · by_cases h2 : j = n
      · have e1 : j = l.length := by rw [unhide HL]; exact h2
        rw [e1, getD_snoc (by simp), getD_last, (ps_snoc (by simp [(unhide HO).len])).1, (ps_snoc (by simp [(unhide HO).len])).2, (ps_last (unhide HO).len.symm).1, (ps_last (unhide HO).len.symm).2, unhide HLP]
        exact ⟨gP, (unhide HAP).below hkB, fun h0 => by have := (unhide HAP).lt h0; omega⟩
      · have e1 : j = (l ++ [pP l]).length := by simp [unhide HL]; omega
        have e2 : (l ++ [pP l]).length = (ps ++ [(aP, cP)]).length := by simp [(unhide HO).len]
        rw [e1, getD_last, (ps_last e2).1, (ps_last e2).2, unhide HLQ]
        exact ⟨gQ, (unhide HAQ).below hkB, fun h0 => by have := (unhide HAQ).lt h0; omega⟩)
  replace HB := hide ((unhide HB).trans (hkB.mono (unhide HB).size))
  have hgBw : w.heap.size ≤ gB := by have h1 := hzw5; omega
  replace HY := hide ((unhide HY).below hkB)
  obtain ⟨N, hN⟩ : ∃ N, n + 2 = N := ⟨_, rfl⟩
  rw [hN] at hcB HTN ⊢
  obtain ⟨pa, hpa⟩ : ∃ pa, ps ++ [(aP, cP)] ++ [(aQ, cQ)] = pa := ⟨_, rfl⟩
  obtain ⟨la, hla⟩ : ∃ la, l ++ [pP l] ++ [pQ l] = la := ⟨_, rfl⟩
  rw [hpa, hla] at HTN
  have HLA : Hid (la = withP l) := hla.symm
  have HNN := hide hN
  have hNb : 6 ≤ N ∧ N ≤ 10 := by omega
  obtain ⟨hN4, hN16⟩ := hNb
  clear hpa hla ho hg hkB hOB hlB HO6 HOW HSRC hN HOX HKX HKA hrB
  go_wp2_with fail
  refine (within_any i00 (N : Int) w7 (by omega) (by omega)).mono ?_
  rintro e w8 ⟨rfl, hw8⟩
  subst hw8
  obtain ⟨i, hii⟩ : ∃ k : Nat, i00 % (N : Int) = (k : Int) := ⟨(i00 % (N : Int)).toNat, by have := Int.emod_nonneg i00 (show (N : Int) ≠ 0 by omega); omega⟩
  have hiN : i < N := by have := Int.emod_lt_of_pos i00 (show (0 : Int) < (N : Int) by omega); omega
  rw [hii]
  clear hii
  obtain ⟨N1, hN1⟩ : ∃ N1, N - 1 = N1 := ⟨_, rfl⟩
  have hN1' : (N : Int) - 1 = (N1 : Int) := by omega
  go_wp2_with fail
  refine (within_any k00 (N1 : Int) w8 (by omega) (by omega)).mono ?_
  rintro e w9 ⟨rfl, hw9⟩
  subst hw9
  obtain ⟨m, hmm⟩ : ∃ k : Nat, k00 % (N1 : Int) = (k : Int) := ⟨(k00 % (N1 : Int)).toNat, by have := Int.emod_nonneg k00 (show (N1 : Int) ≠ 0 by omega); omega⟩
  have hmN : m < N1 := by have := Int.emod_lt_of_pos k00 (show (0 : Int) < (N1 : Int) by omega); omega
  rw [hmm]
  clear hmm
  obtain ⟨k, hk⟩ : ∃ k, (i + 1 + m) % N = k := ⟨_, rfl⟩
  have hkN : k < N := by rw [← hk]; exact Nat.mod_lt _ (by omega)
  have hik : i ≠ k := by
    intro e
    by_cases h1 : i + 1 + m < N
    · rw [Nat.mod_eq_of_lt h1] at hk; omega
    · have h2 : (i + 1 + m) % N = i + 1 + m - N := by rw [Nat.mod_eq_sub_mod (by omega), Nat.mod_eq_of_lt (by omega)]
      omega
  have hm9 : (m : Int) ≤ 9 := by omega
  have q1 := plain_mod hk
  have q1' := plain_mod' hk
  have hN00 : ¬ (N : Int) = 0 := by omega
  have hN00' : ¬ N = 0 := by omega
  have hkN' : (k : Int) < (N : Int) := by omega
  clear hk hmN hN1
  obtain ⟨hcT, hfT⟩ := (unhide HTN).cell hkN
  obtain ⟨gk, hAk, hgk⟩ := (unhide HTN).rows k hkN
  have hlk : (la.getD k []).length = 8 := by
    obtain ⟨f1, _, _, -⟩ := withP_facts (unhide HL) (by omega) (by omega) (unhide HS) (unhide HBL)
    rw [unhide HLA]
    exact f1 k (by have := unhide HNN; omega)
  rw [hlk] at hcT hAk
  have hkE : Below w9.heap.size w9 (w9.alloc (.cells #[] 5)) := (Below.refl _ _).alloc (Nat.le_refl _) _
  have HE := hide (own_none w9 5)
  have hcTE := (hkE.cell (p := ⟨gB, k, none⟩) (block_lt_of_cell hcT)).trans hcT
  have hAkE := hAk.below hkE
  obtain ⟨⟨aK, cK, hvK, hsK, -, hnK, hrK⟩, -⟩ := hAkE
  rw [hlk] at hvK hsK
  have hpa : psA pa k = aK := by injection hvK
  have hpc : psC pa k = cK := by injection hvK
  rw [hpa, hpc] at hcT hcTE
  have HNK := hide hnK
  have HRK := hide hrK
  have HKE := hide hkE
  obtain ⟨rk, hrk⟩ : ∃ rk, la.getD k [] = rk := ⟨_, rfl⟩
  have HSK : Hid (rk.length = 8) := by show _ = _; rw [← hrk]; exact hlk
  have HBK : Hid (Bs rk) := by show Bs _; rw [← hrk]; exact hAk.bs
  rw [hrk] at HRK
  have HRKE := hide hrk
  clear hrk hkE hvK hnK hrK hAk hgk hlk hfT
  go_wp2_with (at_builtin; refine wpList_append_row _ rfl _ _ 22 rfl w9.heap.size 5 iB Try.underlying22 (unhide HIB) hzB0 hzB1 hzB2 (.slice (some ⟨w9.heap.size, 0, none⟩) 0 0) 0 [] rfl (unhide HE) aK gk 8 cK (ints rk) rfl (by rw [ints_len]; exact unhide HSK) (unhide HRK) (fun h => by have h0 := unhide HNK h; omega) (by omega) (by simp) ?_)
  intro v17 wb ho hg hnn
  have hkb := below_grown (unhide HKE) hg (by simp) (fun k hk => by have e2 : w9.heap.size = k := Option.some.inj hk; omega)
  obtain ⟨g17, c17, hv17, hg17, hg17l⟩ := owns_shape ho hnn
  subst hv17
  have hF17 := (owns_fr ho).2
  have HBK17 : Hid (Blk wb g17 rk) := by
    rcases hF17 with ⟨_, h⟩ | ⟨g', c', h1, _, _, h2, _⟩
    · cases h
    · injection h1 with h3 h4 h5
      injection h3 with h6
      injection h6 with h7
      rw [h7]; exact h2
  have HC17 : Hid (8 ≤ c17 ∧ c17 ≤ maxLen) := by
    rcases ho.2 with ⟨h, _⟩ | ⟨g', cap, cur, h1, h2, h3, h4, h5, _⟩
    · cases h
    · injection h1 with i3 i4 i5
      rw [i5]; exact ⟨h4, h5⟩
  have HY9 := hide ((unhide HY).below hkb)
  have HTNb := hide ((unhide HTN).below hkb)
  have HBb := hide ((unhide HB).trans (hkb.mono (unhide HB).size))
  have HKwb := hide hkb
  have hgB9 := (unhide HTN).lt
  have hgy9 : y ≠ [] → gy < w9.heap.size := fun h => (unhide HY).lt h
  have HGY := hide hgy9
  clear ho hg hnn hkb hF17 hgy9 q1 q1' hN1'
  go_wp2_with fail
  go_loopw [18, 19] (fun q p wr => ∃ (j : Nat) (tu : Bool), q = .bool tu ∧ p = .int .i64 j ∧ j ≤ L ∧ j ≤ 8 ∧ (tu = true ↔ ∃ c, c < j ∧ cf y c ≠ 0) ∧ Blk wr g17 (addK rk y 1 j) ∧ Kp [g17] wb wr) (fun _ p _ => 8 - (intOf p).toNat)
  case atStart => exact ⟨0, false, rfl, rfl, by omega, by omega, ⟨fun h => (by cases h), fun ⟨c, h, _⟩ => by omega⟩, by rw [addK_zero]; exact unhide HBK17, Kp.refl _ _⟩
  case round =>
    obtain ⟨j, tu, rfl, rfl, hjL, hj8, htu, hBj, hKj⟩ := hrel
    have HTU := hide htu
    have HBJ := hide hBj
    have HKJ := hide hKj
    clear htu hBj hKj
    by_cases hcont : j < L ∧ j < 8
    · obtain ⟨h1, h2⟩ := hcont
      have i1 : (j : Int) < (L : Int) := by omega
      have i2 : (j : Int) < 8 := by omega
      have hy0 : y ≠ [] := fun e => by have h := unhide HYL; rw [e] at h; simp at h; omega
      obtain ⟨oy, hyo, hyc⟩ := (unhide HY9).cells hy0
      subst hyo
      have hgyb := unhide HGY hy0
      have HYC := hide ((unhide HKJ).cell (hyc j (by rw [unhide HYL]; exact h1)) (by simp; omega))
      have hy8 : cf y j < 256 := unhide HYB j
      have hr8 : cf rk j < 256 := unhide HBK j
      have HST : Hid ((addK rk y 1 j).set j (cf rk j ^^^ cf y j) = addK rk y 1 (j + 1)) := by
        show _ = _
        rw [← addK_step (by rw [unhide HSK]; exact h2), gmul_one hy8]
      have HTN1 : Hid ((∃ c, c < j + 1 ∧ cf y c ≠ 0) ↔ (∃ c, c < j ∧ cf y c ≠ 0) ∨ cf y j ≠ 0) := by
        constructor
        · rintro ⟨c, hc, hne⟩
          by_cases e : c = j
          · exact .inr (e ▸ hne)
          · exact .inl ⟨c, by omega, hne⟩
        · rintro (⟨c, hc, hne⟩ | hne)
          · exact ⟨c, by omega, hne⟩
          · exact ⟨j, by omega, hne⟩
      have hcr : wr.cell? ⟨g17, j, none⟩ = some (.int .u8 ((cf rk j : Nat) : Int)) := by
        have h := (unhide HBJ).cell (j := j) (by rw [addK_len, unhide HSK]; exact h2)
        rwa [addK_at (by rw [unhide HSK]; exact h2)] at h
      have HCR := hide hcr
      obtain ⟨yj, hyj⟩ : ∃ z, cf y j = z := ⟨_, rfl⟩
      obtain ⟨rj, hrj⟩ : ∃ z, cf rk j = z := ⟨_, rfl⟩
      rw [hyj] at HYC hy8 HST HTN1
      rw [hrj] at HCR hr8 HST
      have hxor := bits_xor_u8 hr8 hy8
      clear hyj hrj hcr hyc hy0
      go_wp2_with fail
      refine wp_region_noPanic ?_
      refine wp_region_held_drew (S := fun W => Kp [g17] wr W) (by kernel_rfl) ((Kp.refl _ _).drew) (fun hHeld => ?_)
      have HH := hide hHeld
      clear hHeld
      refine takeL (i := 0) (v := ?_) rfl (by kernel_rfl) (by kernel_rfl) (by kernel_rfl) (fun _ _ _ h => h) (Or.inl ⟨by rfl, ?_⟩) (unhide HH) ?_
      rotate_left 1
      · intro W hSW; go_simp; all_goals (with_reducible rfl)
      (try simp only [Act.put, List.setIfInBounds_toArray, List.set_cons_zero, List.set_cons_succ])
      refine takeL (i := 1) (v := ?_) rfl (by kernel_rfl) (by kernel_rfl) (by kernel_rfl) (fun _ _ _ h => h) (Or.inl ⟨by rfl, ?_⟩) (unhide HH) ?_
      rotate_left 1
      · intro W hSW; go_simp; all_goals (with_reducible rfl)
      (try simp only [Act.put, List.setIfInBounds_toArray, List.set_cons_zero, List.set_cons_succ])
      refine takeL (i := 2) (v := ?_) rfl (by kernel_rfl) (by kernel_rfl) (by kernel_rfl) (fun _ _ _ h => h) (Or.inl ⟨by rfl, ?_⟩) (unhide HH) ?_
      rotate_left 1
      · intro W hSW; go_simp; all_goals (with_reducible rfl)
      (try simp only [Act.put, List.setIfInBounds_toArray, List.set_cons_zero, List.set_cons_succ])
      refine takeL (i := 4) (v := ?_) rfl (by kernel_rfl) (by kernel_rfl) (by kernel_rfl) (fun _ _ _ h => h) (Or.inl ⟨by rfl, ?_⟩) (unhide HH) ?_
      rotate_left 1
      · intro W hSW; go_simp; all_goals (with_reducible rfl)
      (try simp only [Act.put, List.setIfInBounds_toArray, List.set_cons_zero, List.set_cons_succ])
      refine takeL (i := 5) (v := ?_) rfl (by kernel_rfl) (by kernel_rfl) (by kernel_rfl) (fun _ _ _ h => h) (Or.inl ⟨by rfl, ?_⟩) (unhide HH) ?_
      rotate_left 1
      · intro W hSW; go_simp; all_goals (with_reducible rfl)
      (try simp only [Act.put, List.setIfInBounds_toArray, List.set_cons_zero, List.set_cons_succ])
      refine takeL (i := 6) (v := ?_) rfl (by kernel_rfl) (by kernel_rfl) (by kernel_rfl) (fun _ _ _ h => h) (Or.inl ⟨by rfl, ?_⟩) (unhide HH) ?_
      rotate_left 1
      · intro W hSW; go_simp; all_goals (with_reducible rfl)
      (try simp only [Act.put, List.setIfInBounds_toArray, List.set_cons_zero, List.set_cons_succ])
      refine takeL (i := 7) (v := ?_) rfl (by kernel_rfl) (by kernel_rfl) (by kernel_rfl) (fun _ _ _ h => h) (Or.inl ⟨by rfl, ?_⟩) (unhide HH) ?_
      rotate_left 1
      · intro W1 hSW; have hc := hSW.cell (unhide HYC) (by simp; omega); clear hSW; go_simp; all_goals (with_reducible rfl)
      (try simp only [Act.put, List.setIfInBounds_toArray, List.set_cons_zero, List.set_cons_succ])
      refine wpAnyH_ready (rs := [3]) (by kernel_rfl) (by simp) ?_
      refine consL rfl (fun K hK => ?_) AllReadyH.nil
      have he : wr.cell? ⟨g17, j, none⟩ = some (.int .u8 (rj : Int)) := unhide HCR
      go_simp
      refine hK.out _ _ (unhide HH) (fun hHeld => ?_)
      clear hK K HH
      have HH := hide hHeld
      clear hHeld
      (try simp only [Act.put, List.setIfInBounds_toArray, List.set_cons_zero, List.set_cons_succ])
      clear he
      refine takeL (i := 8) (v := ?_) rfl (by kernel_rfl) (by kernel_rfl) (by kernel_rfl) (fun _ _ _ h => h) (Or.inl ⟨by rfl, ?_⟩) (unhide HH) ?_
      rotate_left 1
      · intro W hSW; go_simp; all_goals (with_reducible rfl)
      (try simp only [Act.put, List.setIfInBounds_toArray, List.set_cons_zero, List.set_cons_succ])
      refine takeL (i := 9) (v := ?_) rfl (by kernel_rfl) (by kernel_rfl) (by kernel_rfl) (fun _ _ _ h => h) (Or.inl ⟨by rfl, ?_⟩) (unhide HH) ?_
      rotate_left 1
      · intro W hSW; go_simp; all_goals (with_reducible rfl)
      (try simp only [Act.put, List.setIfInBounds_toArray, List.set_cons_zero, List.set_cons_succ])
      refine wpAnyH_ready (rs := [10]) (by kernel_rfl) (by simp) ?_
      refine consL rfl (fun K hK => ?_) AllReadyH.nil
      have he : wr.cell? ⟨g17, j, none⟩ = some (.int .u8 (rj : Int)) := unhide HCR
      have hf4 : wr.frozen? ⟨g17, j, none⟩ = false := (unhide HBJ).free
      go_simp
      have HBW2 : Hid (Blk (wr.setCell ⟨g17, j, none⟩ (.int .u8 ((rj ^^^ yj : Nat) : Int))).drew g17 _) := ((unhide HBJ).set j (rj ^^^ yj) (by rw [addK_len, unhide HSK]; exact h2)).of rfl
      have HKW2 : Hid (Kp [g17] wr (wr.setCell ⟨g17, j, none⟩ (.int .u8 ((rj ^^^ yj : Nat) : Int))).drew) := ((Kp.refl [g17] wr).setCell ⟨g17, j, none⟩ (.int .u8 ((rj ^^^ yj : Nat) : Int)) (.inl (by simp))).drew
      refine hK.out _ _ (unhide HKW2) (fun hHeld => ?_)
      clear hHeld hK K HH he hf4
      (try simp only [Act.put, List.setIfInBounds_toArray, List.set_cons_zero, List.set_cons_succ])
      refine wpAnyH_done (by kernel_rfl) ?_ _
      refine NoPanic.normal ?_
      generalize (wr.setCell ⟨g17, j, none⟩ (.int .u8 ((rj ^^^ yj : Nat) : Int))).drew = w20 at HBW2 HKW2 ⊢
      have hyC := (unhide HKW2).cell (unhide HYC) (by simp; omega)
      cases tu with
      | true =>
        go_wp2_with fail
        go_roundw
        case rel => exact ⟨j + 1, true, rfl, by go_num, by omega, by omega, by rw [unhide HTN1]; exact ⟨fun h => .inl ((unhide HTU).1 h), fun _ => rfl⟩, by rw [← unhide HST]; exact unhide HBW2, (unhide HKJ).trans (unhide HKW2) (by simp)⟩
        case measure => simp [intOf]; omega
      | false =>
        by_cases hyz : yj = 0
        · have e1 : ((yj : Int) != 0) = false := by rw [hyz]; rfl
          have HYZ := hide hyz
          clear hyz
          go_wp2_with fail
          go_roundw
          case rel => exact ⟨j + 1, false, rfl, by go_num, by omega, by omega, by rw [unhide HTN1]; exact ⟨fun h => (by cases h), fun h => h.elim (fun h => (unhide HTU).2 h) (fun h => absurd (unhide HYZ) h)⟩, by rw [← unhide HST]; exact unhide HBW2, (unhide HKJ).trans (unhide HKW2) (by simp)⟩
          case measure => simp [intOf]; omega
        · have e1 : ((yj : Int) != 0) = true := by rw [bne_iff_ne]; omega
          have HYZ := hide hyz
          clear hyz
          go_wp2_with fail
          go_roundw
          case rel => exact ⟨j + 1, true, rfl, by go_num, by omega, by omega, by rw [unhide HTN1]; exact ⟨fun _ => .inr (unhide HYZ), fun _ => rfl⟩, by rw [← unhide HST]; exact unhide HBW2, (unhide HKJ).trans (unhide HKW2) (by simp)⟩
          case measure => simp [intOf]; omega
    · have hex : (L : Int) ≤ (j : Int) ∨ (8 : Int) ≤ (j : Int) := by omega
      have HFIN : Hid (∃ wE, True) := ⟨wr, trivial⟩
      have hBE : Blk wr g17 (addK rk y 1 j) := unhide HBJ
      have hA17 : Arg wr (.slice (some ⟨g17, 0, none⟩) 8 c17) g17 (addK rk y 1 j) := by
        have h := hBE.arg (c := c17) (addK_bs (unhide HBK) (unhide HYB)) (by rw [addK_len, unhide HSK]; exact (unhide HC17).1) (unhide HC17).2
        rwa [addK_len, unhide HSK] at h
      have hTNr : Tn wr gB N pa la := by
        obtain ⟨cur, h1, h2⟩ := (unhide HTNb).cells
        refine ⟨⟨cur, (unhide HKJ).heap h1 (by simp; omega), h2⟩, (unhide HTNb).pl, (unhide HTNb).tl, fun c hc => ?_⟩
        obtain ⟨g, h3, h4⟩ := (unhide HTN).rows c hc
        exact ⟨g, arg_kp (h3.below (unhide HKwb)) (unhide HKJ) (fun h0 => by have := h3.lt h0; simp; omega), h4⟩
      obtain ⟨hcT2, hfT2⟩ := hTNr.cell hkN
      have hbl : (addK rk y 1 j).length = 8 := by rw [addK_len, unhide HSK]
      have HT2 := hide (hTNr.set hkN (a := some ⟨g17, 0, none⟩) (c := c17) (r := addK rk y 1 j) (by rw [hbl]; exact hA17) (fun _ => by omega))
      rw [hbl] at HT2
      have HBr : Hid (Below w.heap.size w wr) := below_kp (unhide HBb) (unhide HKJ) (by simp; have := (unhide HB).size; omega) (unhide HBb).size
      have HBS : Hid (Below w.heap.size w (wr.setCell ⟨gB, k, none⟩ (.slice (some ⟨g17, 0, none⟩) 8 c17))) := (unhide HBr).setCell (p := ⟨gB, k, none⟩) hgBw _
      obtain ⟨t, ht⟩ : ∃ t, la.set k (addK rk y 1 j) = t := ⟨_, rfl⟩
      rw [ht] at HT2
      have HTD : Hid (t = (withP l).set k (addK rk y 1 j)) := by show _ = _; rw [← ht, unhide HLA]
      have HTL : Hid (t.length = N) := (unhide HT2).tl
      have HTG : Hid (∀ c, c < N → (t.getD c []).length = 8) := fun c hc => by
        obtain ⟨f1, _, _, -⟩ := withP_facts (unhide HL) (by omega) (by omega) (unhide HS) (unhide HBL)
        rw [unhide HTD, getD_set (by rw [withP_len, unhide HL]; have := unhide HNN; omega)]
        split
        · exact hbl
        · exact f1 c (by have := unhide HNN; omega)
      have HTLEN : Hid (∀ j, (t.getD j []).length ≤ 100000) := len_of (unhide HTL) (unhide HTG) (by omega)
      have HTUR : Hid (decide (addK rk y 1 j = rk) = !tu) := by
        show _ = _
        rw [turned_eq (unhide HYB) (unhide HSK) hj8]
        cases tu with
        | true => rw [decide_eq_true ((unhide HTU).1 rfl)]
        | false => rw [decide_eq_false (fun h => by have := (unhide HTU).2 h; cases this)]
      clear hBE hA17 hTNr ht hbl HFIN
      have hmain : ∀ (wd : World), wr.setCell ⟨gB, k, none⟩ (.slice (some ⟨g17, 0, none⟩) 8 c17) = wd → True := fun _ _ => trivial
      clear hmain
      by_cases hL2 : j < L
      · have i1 : (j : Int) < (L : Int) := by omega
        have i2 : (8 : Int) ≤ (j : Int) := by omega
        clear hex
        go_wp2_with fail
        have hws : (wr.setCell ⟨gB, k, none⟩ (.slice (some ⟨g17, 0, none⟩) 8 c17)).heap.size = wr.heap.size := by simp [World.setCell]
        generalize wr.setCell ⟨gB, k, none⟩ (.slice (some ⟨g17, 0, none⟩) 8 c17) = wd at HT2 HBS hws ⊢
        have HZ1 := hide (z_one wd i (by omega))
        rw [hws] at HZ1
        have hkf : Below wd.heap.size wd (wd.alloc (.cells #[.int .i64 (i : Int)] 3)) := (Below.refl _ _).alloc (Nat.le_refl _) _
        replace HT2 := hide ((unhide HT2).below hkf)
        replace HBS := hide ((unhide HBS).trans (hkf.mono (unhide HBS).size))
        clear hkf
        generalize wd.alloc (.cells #[.int .i64 (i : Int)] 3) = wf at HZ1 HT2 HBS ⊢
        have hF2 : fixOk t [(i : Int)] = true := fixOk_of (n := 8) (pk_of ⟨by simp, by simp; rw [unhide HTL]; omega, by simp⟩) (by rw [unhide HTL]; omega) (by rw [unhide HTL]; omega) (fun c hc _ => unhide HTG c (by rw [← unhide HTL]; exact hc))
        refine (fix_any _ gB _ _ t _ wr.heap.size [(i : Int)] wf ((unhide HT2).arg hcB hcBm) (unhide HZ1) (unhide HTLEN)).mono ?_
        rintro e wg ⟨hk, h⟩
        rcases h with ⟨_, vx, Gx, Ax, Cx, x, nx, rfl, hRX, hFX⟩ | ⟨hno, _⟩
        rotate_left 1
        · rw [hF2] at hno; cases hno
        obtain ⟨ax, cx, hvx, -⟩ := hRX.ex
        subst hvx
        have HRX := hide hRX
        have hnx : nx = 8 := by
          obtain ⟨c, hc, hkc⟩ := some_kept (zs := [(i : Int)]) (N := N) (by simp) (by omega)
          rw [← hFX.szl c (by rw [unhide HTL]; exact hc) hkc, unhide HTG c hc]
        rw [hnx] at hFX
        have HCK : Hid (chk x = !tu) := by
          show _ = _
          rw [detect (unhide HL) (by omega) (by omega) (unhide HS) (unhide HBL) (by have := unhide HNN; omega) (by have := unhide HNN; omega) hik (by rw [addK_len, unhide HSK]) (unhide HTD) hFX, ← unhide HTUR, ← unhide HRKE, unhide HLA]
        have HXLEN : Hid (∀ c, (x.getD c []).length ≤ 100000) := fun c => by
          by_cases hc : c < x.length
          · rw [hFX.sz c (by rw [← hFX.len]; exact hc)]; omega
          · rw [List.getD_eq_getElem?_getD, List.getElem?_eq_none (by omega)]; simp
        replace HBS := hide ((unhide HBS).trans (hk.mono (unhide HBS).size))
        clear hF2 hk hRX hFX hnx
        go_wp2_with fail
        refine (check_any _ Gx Ax Cx x wg (unhide HRX) (unhide HXLEN)).mono ?_
        rintro e wh ⟨rfl, hk⟩
        rw [unhide HCK]
        replace HBS := hide ((unhide HBS).trans (hk.mono (unhide HBS).size))
        clear hk
        cases tu with
        | true =>
          go_wp2_with fail
          go_ret
          exact ⟨rfl, unhide HBS⟩
        | false =>
          go_wp2_with fail
          go_ret
          exact ⟨rfl, unhide HBS⟩
      · have i1 : (L : Int) ≤ (j : Int) := by omega
        clear hex
        go_wp2_with fail
        have hws : (wr.setCell ⟨gB, k, none⟩ (.slice (some ⟨g17, 0, none⟩) 8 c17)).heap.size = wr.heap.size := by simp [World.setCell]
        generalize wr.setCell ⟨gB, k, none⟩ (.slice (some ⟨g17, 0, none⟩) 8 c17) = wd at HT2 HBS hws ⊢
        have HZ1 := hide (z_one wd i (by omega))
        rw [hws] at HZ1
        have hkf : Below wd.heap.size wd (wd.alloc (.cells #[.int .i64 (i : Int)] 3)) := (Below.refl _ _).alloc (Nat.le_refl _) _
        replace HT2 := hide ((unhide HT2).below hkf)
        replace HBS := hide ((unhide HBS).trans (hkf.mono (unhide HBS).size))
        clear hkf
        generalize wd.alloc (.cells #[.int .i64 (i : Int)] 3) = wf at HZ1 HT2 HBS ⊢
        have hF2 : fixOk t [(i : Int)] = true := fixOk_of (n := 8) (pk_of ⟨by simp, by simp; rw [unhide HTL]; omega, by simp⟩) (by rw [unhide HTL]; omega) (by rw [unhide HTL]; omega) (fun c hc _ => unhide HTG c (by rw [← unhide HTL]; exact hc))
        refine (fix_any _ gB _ _ t _ wr.heap.size [(i : Int)] wf ((unhide HT2).arg hcB hcBm) (unhide HZ1) (unhide HTLEN)).mono ?_
        rintro e wg ⟨hk, h⟩
        rcases h with ⟨_, vx, Gx, Ax, Cx, x, nx, rfl, hRX, hFX⟩ | ⟨hno, _⟩
        rotate_left 1
        · rw [hF2] at hno; cases hno
        obtain ⟨ax, cx, hvx, -⟩ := hRX.ex
        subst hvx
        have HRX := hide hRX
        have hnx : nx = 8 := by
          obtain ⟨c, hc, hkc⟩ := some_kept (zs := [(i : Int)]) (N := N) (by simp) (by omega)
          rw [← hFX.szl c (by rw [unhide HTL]; exact hc) hkc, unhide HTG c hc]
        rw [hnx] at hFX
        have HCK : Hid (chk x = !tu) := by
          show _ = _
          rw [detect (unhide HL) (by omega) (by omega) (unhide HS) (unhide HBL) (by have := unhide HNN; omega) (by have := unhide HNN; omega) hik (by rw [addK_len, unhide HSK]) (unhide HTD) hFX, ← unhide HTUR, ← unhide HRKE, unhide HLA]
        have HXLEN : Hid (∀ c, (x.getD c []).length ≤ 100000) := fun c => by
          by_cases hc : c < x.length
          · rw [hFX.sz c (by rw [← hFX.len]; exact hc)]; omega
          · rw [List.getD_eq_getElem?_getD, List.getElem?_eq_none (by omega)]; simp
        replace HBS := hide ((unhide HBS).trans (hk.mono (unhide HBS).size))
        clear hF2 hk hRX hFX hnx
        go_wp2_with fail
        refine (check_any _ Gx Ax Cx x wg (unhide HRX) (unhide HXLEN)).mono ?_
        rintro e wh ⟨rfl, hk⟩
        rw [unhide HCK]
        replace HBS := hide ((unhide HBS).trans (hk.mono (unhide HBS).size))
        clear hk
        cases tu with
        | true =>
          go_wp2_with fail
          go_ret
          exact ⟨rfl, unhide HBS⟩
        | false =>
          go_wp2_with fail
          go_ret
          exact ⟨rfl, unhide HBS⟩

end Go.Proofs.Ytdlbkgehgbacmaa
