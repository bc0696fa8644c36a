/-
  RsParity's walk.
-/
import Derived.Test.YtdlbkgehgbacmaaT6
import Derived.Test.YtdlbkgehgbacmaaR5a
namespace Go.Proofs.Ytdlbkgehgbacmaa
open Go.RowKit

theorem rarg_nil (w : World) : RArg w (.slice none 0 0) 0 (fun _ => none) (fun _ => 0) [] := ⟨⟨none, 0, rfl, by simp, by simp, fun _ => rfl, .inl rfl⟩, fun i hi => by simp at hi⟩
theorem rarg_in {w : World} {a : Addr} {len cap base : Nat} {A : Nat → Option Addr} {L C : Nat → Nat} {Z : Nat → List Int} (hl : len ≤ cap) (hm : cap ≤ maxLen)
    (h : ∀ r, r < cap → w.cell? (a.add r) = some (.slice (A r) (L r) (C r)) ∧ L r ≤ C r ∧ C r ≤ maxLen ∧ (Z r).length = C r ∧ (∀ n ∈ Z r, (Lit.int .u8 n).wf = true) ∧ (A r = none → C r = 0) ∧ ∀ a', A r = some a' → base ≤ a'.block ∧ ∀ c, c < C r → w.cell? (a'.add c) = some (.int .u8 ((Z r).getD c 0))) :
    ∃ G A' C' l, RArg w (.slice (some a) len cap) G A' C' l := by
  have hg : ∀ r, r < len → ((List.range len).map (fun r => nats ((Z r).take (L r)))).getD r [] = nats ((Z r).take (L r)) := fun r hr => by
    rw [List.getD_eq_getElem?_getD, List.getElem?_map, List.getElem?_range hr]
    rfl
  have hlen : ((List.range len).map (fun r => nats ((Z r).take (L r)))).length = len := by simp
  have hL : ∀ r, r < len → (nats ((Z r).take (L r))).length = L r := fun r hr => by
    obtain ⟨_, h2, _, h4, _⟩ := h r (by omega)
    simp [nats]
    omega
  refine ⟨a.block, A, C, (List.range len).map (fun r => nats ((Z r).take (L r))), ⟨⟨some a, cap, by rw [hlen], by rw [hlen]; exact hl, hm, (fun h => by cases h), ?_⟩, fun i hi => ?_⟩⟩
  · rw [hlen]
    by_cases h0 : len = 0
    · exact .inl h0
    · obtain ⟨b, off, spot⟩ := a
      have hspot : spot = none := by simpa [Addr.add] using World.cell?_spot (h 0 (by omega)).1
      subst hspot
      refine .inr ⟨off, rfl, fun j hj => ?_⟩
      have := (h j (by omega)).1
      rw [Go.WideShapes.add_plain] at this
      rw [this]
      simp only [hg j hj, hL j hj]
  · rw [hlen] at hi
    rw [hg i hi, hL i hi]
    obtain ⟨_, h2, h3, h4, h5, h6, h7⟩ := h i (by omega)
    cases hA : A i with
    | none =>
      have hc := h6 hA
      have hz : (Z i).take (L i) = [] := List.eq_nil_of_length_eq_zero (by simp; omega)
      exact ⟨0, arg_in (by rw [hz]; simp; omega) (.inl hz) (by rw [hz]; simp [Byt]) h2 (fun _ => by omega) h3⟩
    | some a' =>
      obtain ⟨g, p1, p2, p3⟩ := row_in h2 h4 (fun c hc => (h7 a' hA).2 c (by omega)) h5
      exact ⟨g, arg_in p1 p2 p3 h2 (fun h => by cases h) h3⟩

/-- One byte other than it was: not right. -/
theorem one_wrong {l t : List (List Nat)} {d s k c u : Nat} (hl : l.length = d) (h2 : 2 ≤ d) (h14 : d ≤ 14) (hs : ∀ i, i < d → (l.getD i []).length = s) (hb : ∀ i, Bs (l.getD i [])) (hk : k < d + 2) (hc : c < s) (hu : u < 256) (hne : u ≠ cf ((withP l).getD k []) c)
    (ht : t = (withP l).set k (((withP l).getD k []).set c u)) : chk t = false := by
  obtain ⟨f1, f2, f3, f4⟩ := withP_facts hl h2 h14 hs hb
  have hwl : (withP l).length = d + 2 := by rw [withP_len, hl]
  have htl : t.length = d + 2 := by rw [ht, List.length_set, hwl]
  have hkw : k < (withP l).length := by rw [hwl]; exact hk
  have hcl : c < ((withP l).getD k []).length := by rw [f1 k hk]; exact hc
  have htb : ∀ i, Bs (t.getD i []) := fun i => by
    rw [ht, getD_set hkw]
    split
    · intro x
      rw [cf_set _ _ _ _ hcl]
      split
      · exact hu
      · exact f2 k x
    · exact f2 i
  have hts : ∀ i, i < d + 2 → (t.getD i []).length = s := fun i hi => by
    rw [ht, getD_set hkw]
    split
    · rw [List.length_set]; exact f1 k hk
    · exact f1 i hi
  cases hx : chk t with
  | false => rfl
  | true =>
    exfalso
    obtain ⟨_, hp, hq⟩ := chk_parts hx
    have hsz : size t = s := hts 0 (by omega)
    rw [hsz, htl, show d + 2 - 2 = d from by omega] at hp hq
    have hpk : pk [(k : Int)] (d + 2) = true := pk_of ⟨by simp, by simp; omega, by simp⟩
    have h0 := supp_zero (d := d) (N := d + 2) (zs := [(k : Int)]) (e := fun j => rc t j c ^^^ rc (withP l) j c) (by omega) rfl hpk (fun j => xor_lt (htb j c) (f2 j c)) (fun j hj hkj => by
      have hjk : k ≠ j := fun e2 => by rw [← e2] at hkj; simp [keep] at hkj
      show rc t j c ^^^ rc (withP l) j c = 0
      unfold rc
      rw [ht, getD_set hkw, if_neg hjk, Nat.xor_self])
      (fun _ => by rw [sm_diff (shP_lt _) htb f2, hp c hc, f3 c hc, Nat.xor_self]) (fun _ => by rw [sm_diff (shQ_lt _) htb f2, hq c hc, f4 c hc, Nat.xor_self]) k hk
    have h1 := xor_nil.1 h0
    unfold rc at h1
    rw [ht, getD_set hkw, if_pos rfl, cf_set _ _ _ _ hcl, if_pos rfl] at h1
    exact hne h1

set_option maxRecDepth 100000 in
set_option maxHeartbeats 16000000 in
theorem rpar_walk {w : World} (v : Value) (gb : Nat) (b : List Nat) (n0 s0 : Int) (vr : Value) (Gr : Nat) (Ar : Nat → Option Addr) (Cr : Nat → Nat) (raw : List (List Nat)) (at0 by0 : Int) (hby0 : 0 ≤ by0) (hby1 : by0 ≤ 255) (hA : Arg w v gb b) (hR : RArg w vr Gr Ar Cr raw) :
    Calls Try.prog 3 #[v, .int .i64 n0, .int .i64 s0, vr, .int .i64 at0, .int .u8 by0] w fun e w' => e = .returned (.bool true) ∧ Below w.heap.size w w' := by
  obtain ⟨by8, rfl⟩ := Int.eq_ofNat_of_zero_le hby0
  have hb8 : by8 < 256 := by omega
  have HA := hide hA
  have HRAW := hide hR
  obtain ⟨ao, c, hv, _⟩ := hA.ex
  obtain ⟨ro, rcp, hvr, _⟩ := hR.ex
  subst hv
  subst hvr
  obtain ⟨rn, hrn⟩ : ∃ rn, raw.length = rn := ⟨_, rfl⟩
  rw [hrn] at HRAW ⊢
  clear hA hR hby0 hby1 hrn
  obtain ⟨i0, hi0, hz0, hz1, hz2⟩ := info_parts infoR
  have HI := hide hi0
  clear hi0
  obtain ⟨iB, hiB, hzB0, hzB1, hzB2⟩ := info_parts infoE
  have HIB := hide hiB
  clear hiB
  go_enter Try.func3, Try.ntmps3
  go_wp2_with fail
  refine (known_any w).mono ?_
  rintro e w1 ⟨rfl, hk⟩
  have HB := hide hk
  replace HA := hide ((unhide HA).below hk)
  replace HRAW := hide ((unhide HRAW).below hk)
  clear hk
  go_wp2_with fail
  refine (few_any _ Gr Ar Cr raw w1 (unhide HRAW)).mono ?_
  rintro e w1' ⟨rfl, hw1⟩
  subst hw1
  cases hfew : few raw with
  | false =>
    clear hfew
    go_wp2_with fail
    go_ret
    exact ⟨rfl, unhide HB⟩
  | true =>
    have HRL : Hid (∀ i, (raw.getD i []).length ≤ 100000) := (few_len hfew).2
    clear hfew
    go_wp2_with fail
    refine (within_any n0 13 w1' (by omega) (by omega)).mono ?_
    rintro e w2 ⟨rfl, hw2⟩
    subst hw2
    obtain ⟨m, hm⟩ : ∃ m : Nat, n0 % 13 = (m : Int) := ⟨(n0 % 13).toNat, by omega⟩
    have hm12 : m < 13 := by omega
    rw [hm]
    clear hm
    obtain ⟨n, hn⟩ : ∃ n, 2 + m = n := ⟨_, rfl⟩
    have hn1 : (2 : Int) + (m : Int) = (n : Int) := by omega
    have hn2 : 2 ≤ n ∧ n ≤ 14 := by omega
    obtain ⟨hn2, hn3⟩ := hn2
    clear hn hm12
    go_wp2_with fail
    refine (within_any s0 20 w2 (by omega) (by omega)).mono ?_
    rintro e w3 ⟨rfl, hw3⟩
    subst hw3
    obtain ⟨s, hs⟩ : ∃ s : Nat, s0 % 20 = (s : Int) := ⟨(s0 % 20).toNat, by omega⟩
    have hs20 : s < 20 := by omega
    rw [hs]
    clear hs
    go_wp2_with fail
    refine (rows_any _ gb b n s (by omega) (by omega) w3 (unhide HA)).mono ?_
    rintro e w4 ⟨v9, ps, l, rfl, hO, hl, hs, hk⟩
    replace HB := hide ((unhide HB).trans (hk.mono (unhide HB).size))
    replace HRAW := hide ((unhide HRAW).below hk)
    obtain ⟨g9, c9, rfl, _, hg9l, _⟩ := hO.some hl (by omega)
    have HO := hide hO
    have HL := hide hl
    have HS := hide hs
    have HBL : Hid (∀ i, Bs (l.getD i [])) := hO.bs
    have HBR : Hid (∀ i, Bs (raw.getD i [])) := (unhide HRAW).bs
    clear hO hl hs hk HA
    have HLEN : Hid (∀ i, (l.getD i []).length ≤ 100000) := len_of (unhide HL) (unhide HS) (by omega)
    obtain ⟨hok, hsz⟩ := okP_of (unhide HL) hn2 hn3 (unhide HS)
    have HLP : Hid ((pP l).length = s) := by show _ = _; rw [(par_of hok).1, smL_len, hsz]
    have HLQ : Hid ((pQ l).length = s) := by show _ = _; rw [(par_of hok).2, smL_len, hsz]
    clear hok hsz
    go_wp2_with fail
    obtain ⟨G, hR, _⟩ := (unhide HO).arg
    refine (parity_any _ G _ _ l w4 hR (unhide HLEN)).mono ?_
    clear hR
    rintro e w5 ⟨v1, v2, rfl, hP, hQ, hk⟩
    replace HB := hide ((unhide HB).trans (hk.mono (unhide HB).size))
    replace HRAW := hide ((unhide HRAW).below hk)
    replace HO := hide ((unhide HO).below hk)
    obtain ⟨gpP, hApP, _⟩ := hP.arg (par_bs (unhide HBL)).1
    obtain ⟨apP, cpP, hvpP, _⟩ := hApP.ex
    rw [unhide HLP] at hvpP
    subst hvpP
    have HpP := hide hApP
    clear hApP
    obtain ⟨gpQ, hApQ, _⟩ := hQ.arg (par_bs (unhide HBL)).2
    obtain ⟨apQ, cpQ, hvpQ, _⟩ := hApQ.ex
    rw [unhide HLQ] at hvpQ
    subst hvpQ
    have HpQ := hide hApQ
    clear hApQ
    clear hP hQ hk
    go_wp2_with fail
    obtain ⟨G, hR, _⟩ := (unhide HO).arg
    refine (rparity_any _ G _ _ l w5 hR (unhide HLEN)).mono ?_
    clear hR
    rintro e w6 ⟨v1, v2, rfl, hP, hQ, hk⟩
    replace HB := hide ((unhide HB).trans (hk.mono (unhide HB).size))
    replace HRAW := hide ((unhide HRAW).below hk)
    replace HO := hide ((unhide HO).below hk)
    replace HpP := hide ((unhide HpP).below hk)
    replace HpQ := hide ((unhide HpQ).below hk)
    obtain ⟨gxP, hAxP, _⟩ := hP.arg (par_bs (unhide HBL)).1
    obtain ⟨axP, cxP, hvxP, _⟩ := hAxP.ex
    rw [unhide HLP] at hvxP
    subst hvxP
    have HxP := hide hAxP
    clear hAxP
    obtain ⟨gxQ, hAxQ, _⟩ := hQ.arg (par_bs (unhide HBL)).2
    obtain ⟨axQ, cxQ, hvxQ, _⟩ := hAxQ.ex
    rw [unhide HLQ] at hvxQ
    subst hvxQ
    have HxQ := hide hAxQ
    clear hAxQ
    clear hP hQ hk
    obtain ⟨lrp, hlrp⟩ : ∃ z, (pP raw).length = z := ⟨_, rfl⟩
    obtain ⟨lrq, hlrq⟩ : ∃ z, (pQ raw).length = z := ⟨_, rfl⟩
    have HLRP := hide hlrp
    have HLRQ := hide hlrq
    clear hlrp hlrq
    go_wp2_with fail
    refine (parity_any _ Gr Ar Cr raw w6 (unhide HRAW) (unhide HRL)).mono ?_
    rintro e w7 ⟨v1, v2, rfl, hP, hQ, hk⟩
    replace HB := hide ((unhide HB).trans (hk.mono (unhide HB).size))
    replace HRAW := hide ((unhide HRAW).below hk)
    replace HO := hide ((unhide HO).below hk)
    replace HpP := hide ((unhide HpP).below hk)
    replace HpQ := hide ((unhide HpQ).below hk)
    replace HxP := hide ((unhide HxP).below hk)
    replace HxQ := hide ((unhide HxQ).below hk)
    obtain ⟨gvP, hAvP, _⟩ := hP.arg (par_bs (unhide HBR)).1
    obtain ⟨avP, cvP, hvvP, _⟩ := hAvP.ex
    rw [unhide HLRP] at hvvP
    subst hvvP
    have HvP := hide hAvP
    clear hAvP
    obtain ⟨gvQ, hAvQ, _⟩ := hQ.arg (par_bs (unhide HBR)).2
    obtain ⟨avQ, cvQ, hvvQ, _⟩ := hAvQ.ex
    rw [unhide HLRQ] at hvvQ
    subst hvvQ
    have HvQ := hide hAvQ
    clear hAvQ
    clear hP hQ hk
    go_wp2_with fail
    refine (rparity_any _ Gr Ar Cr raw w7 (unhide HRAW) (unhide HRL)).mono ?_
    rintro e w8 ⟨v1, v2, rfl, hP, hQ, hk⟩
    replace HB := hide ((unhide HB).trans (hk.mono (unhide HB).size))
    replace HRAW := hide ((unhide HRAW).below hk)
    replace HO := hide ((unhide HO).below hk)
    replace HpP := hide ((unhide HpP).below hk)
    replace HpQ := hide ((unhide HpQ).below hk)
    replace HxP := hide ((unhide HxP).below hk)
    replace HxQ := hide ((unhide HxQ).below hk)
    replace HvP := hide ((unhide HvP).below hk)
    replace HvQ := hide ((unhide HvQ).below hk)
    obtain ⟨gsP, hAsP, _⟩ := hP.arg (par_bs (unhide HBR)).1
    obtain ⟨asP, csP, hvsP, _⟩ := hAsP.ex
    rw [unhide HLRP] at hvsP
    subst hvsP
    have HsP := hide hAsP
    clear hAsP
    obtain ⟨gsQ, hAsQ, _⟩ := hQ.arg (par_bs (unhide HBR)).2
    obtain ⟨asQ, csQ, hvsQ, _⟩ := hAsQ.ex
    rw [unhide HLRQ] at hvsQ
    subst hvsQ
    have HsQ := hide hAsQ
    clear hAsQ
    clear hP hQ hk
    have hcvpP := conv_arg (unhide HpP)
    have hcvpQ := conv_arg (unhide HpQ)
    have hcvxP := conv_arg (unhide HxP)
    have hcvxQ := conv_arg (unhide HxQ)
    have hcvvP := conv_arg (unhide HvP)
    have hcvvQ := conv_arg (unhide HvQ)
    have hcvsP := conv_arg (unhide HsP)
    have hcvsQ := conv_arg (unhide HsQ)
    obtain ⟨SP, hSP⟩ : ∃ z, strOf (ints (pP l)) = z := ⟨_, rfl⟩
    obtain ⟨SQ, hSQ⟩ : ∃ z, strOf (ints (pQ l)) = z := ⟨_, rfl⟩
    obtain ⟨SR, hSR⟩ : ∃ z, strOf (ints (pP raw)) = z := ⟨_, rfl⟩
    obtain ⟨ST, hST⟩ : ∃ z, strOf (ints (pQ raw)) = z := ⟨_, rfl⟩
    rw [hSP] at hcvpP hcvxP
    rw [hSQ] at hcvpQ hcvxQ
    rw [hSR] at hcvvP hcvsP
    rw [hST] at hcvvQ hcvsQ
    clear hSP hSQ hSR hST
    go_wp2_with fail
    refine (check_any _ Gr Ar Cr raw w8 (unhide HRAW) (unhide HRL)).mono ?_
    rintro e w9 ⟨rfl, hk⟩
    replace HB := hide ((unhide HB).trans (hk.mono (unhide HB).size))
    replace HRAW := hide ((unhide HRAW).below hk)
    replace HO := hide ((unhide HO).below hk)
    replace HxP := hide ((unhide HxP).below hk)
    replace HxQ := hide ((unhide HxQ).below hk)
    clear hk hcvpP hcvpQ hcvxP hcvxQ hcvvP hcvvQ hcvsP hcvsQ HpP HpQ HvP HvQ HsP HsQ
    go_wp2_with fail
    refine (rcheck_any _ Gr Ar Cr raw w9 (unhide HRAW) (unhide HRL)).mono ?_
    rintro e w5 ⟨rfl, hk⟩
    replace HB := hide ((unhide HB).trans (hk.mono (unhide HB).size))
    replace HO := hide ((unhide HO).below hk)
    replace HxP := hide ((unhide HxP).below hk)
    replace HxQ := hide ((unhide HxQ).below hk)
    obtain ⟨ck, hck⟩ : ∃ ck, chk raw = ck := ⟨_, rfl⟩
    rw [hck]
    have hckn : (ck != ck) = false := by simp
    have hzw5 := (unhide HB).size
    clear hk hck
    have HE : Hid (OwnR w5.heap.size (w5.alloc (.cells #[] 22)) (.slice (some ⟨w5.heap.size, 0, none⟩) 0 0) [] []) := own_empty w5
    have hke : Below w5.heap.size w5 (w5.alloc (.cells #[] 22)) := (Below.refl _ _).alloc (Nat.le_refl _) _
    have HOE := hide ((unhide HO).below hke)
    have HKE := hide hke
    clear hke
    go_wp2_with (at_builtin; refine wpList_append_vals _ rfl _ _ 23 rfl w5.heap.size 22 i0 Try.underlying23 (unhide HI) hz0 hz1 hz2 (.slice (some ⟨w5.heap.size, 0, none⟩) 0 0) 0 [] rfl (unhide HE).own (some ⟨g9, 0, none⟩) g9 n c9 (vals ps l) rfl (by rw [vals_len (unhide HOE).len]; exact unhide HL) (unhide HOE).src (vals_one _ _) (fun h => by cases h) (by omega) (by simp) ?_)
    intro v8 w6 ho hg
    have hkX : Below w5.heap.size w5 w6 := below_grown (unhide HKE) hg (by simp) (unhide HE).row
    have hOX : OwnR w5.heap.size w6 v8 ps l := (unhide HE).app (unhide HL) (unhide HO).len ho (fun i hi => by obtain ⟨g, h⟩ := (unhide HO).rows i hi; exact ⟨g, h.below hkX⟩)
    obtain ⟨gX, cX, rfl, hgX, hgXl, hcX, hcXm, _⟩ := hOX.some (unhide HL) (by omega)
    have hzX := hkX.size
    have HOX := hide hOX
    have HKX := hide hkX
    clear ho hg hkX HE HKE HOE hOX
    have hka : Below w6.heap.size w6 (w6.alloc (.cells #[.slice axP s cxP, .slice axQ s cxQ] 22)) := (Below.refl _ _).alloc (Nat.le_refl _) _
    have HSRC := hide (two_src w6 axP axQ s s cxP cxQ)
    have HO6 := hide ((unhide HOX).below hka)
    have HOW : Hid ((w6.alloc (.cells #[.slice axP s cxP, .slice axQ s cxQ] 22)).ownsRow w5.heap.size 22 1 (.slice (some ⟨gX, 0, none⟩) n cX) n (vals ps l)) := by
      have h := (unhide HO6).own
      rwa [unhide HL] at h
    have HKA := hide hka
    clear hka
    go_wp2_with (at_builtin; refine wpList_append_vals _ rfl _ _ 23 rfl w5.heap.size 22 i0 Try.underlying23 (unhide HI) hz0 hz1 hz2 (.slice (some ⟨gX, 0, none⟩) n cX) n (vals ps l) rfl (unhide HOW) (some ⟨w6.heap.size, 0, none⟩) w6.heap.size 2 2 [.slice axP s cxP, .slice axQ s cxQ] rfl rfl (unhide HSRC) (by simp [Value.oneCell']) (fun h => by cases h) (by omega) (by simp; omega) ?_)
    intro vB w7 ho hg
    have hkB : Below w5.heap.size w5 w7 := below_grown ((unhide HKX).trans ((unhide HKA).mono (unhide HKX).size)) hg (by simp; omega) (fun k hk => by have e2 : gX = k := Option.some.inj hk; omega)
    have hOB := (unhide HO6).snoc2 (r := (pP l)) (q := (pQ l)) (by rw [unhide HL]; exact ho) (fun i hi => by obtain ⟨g, h⟩ := (unhide HO).rows i hi; exact ⟨g, h.below hkB⟩) (unhide HLP) (unhide HLQ) ⟨_, (unhide HxP).below hkB⟩ ⟨_, (unhide HxQ).below hkB⟩
    have hlB : (l ++ [pP l] ++ [pQ l]).length = n + 2 := by simp [unhide HL]
    obtain ⟨gB, cB, rfl, hgB, hgBl, hcB, hcBm, _⟩ := hOB.some hlB (by omega)
    have hrB := fun j (hj : j < n + 2) => hOB.rows j (by rw [hlB]; exact hj)
    have HTN : Hid (Tn w7 gB (n + 2) (ps ++ [(axP, cxP)] ++ [(axQ, cxQ)]) (l ++ [pP l] ++ [pQ l])) := tn_of hOB hlB (fun j hj => by
      by_cases h1 : j < n
      · rw [getD_snoc (by simp [unhide HL]; omega), getD_snoc (by rw [unhide HL]; exact h1), (ps_snoc (by simp [(unhide HO).len, unhide HL]; omega)).1, (ps_snoc (by simp [(unhide HO).len, unhide HL]; omega)).2, (ps_snoc (by rw [(unhide HO).len, unhide HL]; exact h1)).1, (ps_snoc (by rw [(unhide HO).len, unhide HL]; exact h1)).2]
        obtain ⟨g, h⟩ := (unhide HO).rows j (by rw [unhide HL]; exact h1)
        exact ⟨g, h.below hkB, fun h0 => by have := h.lt h0; omega⟩
      · by_cases h2 : j = n
        · have e1 : j = l.length := by rw [unhide HL]; exact h2
          rw [e1, getD_snoc (by simp), getD_last, (ps_snoc (by simp [(unhide HO).len])).1, (ps_snoc (by simp [(unhide HO).len])).2, (ps_last (unhide HO).len.symm).1, (ps_last (unhide HO).len.symm).2, unhide HLP]
          exact ⟨gxP, (unhide HxP).below hkB, fun h0 => by have := (unhide HxP).lt h0; omega⟩
        · have e1 : j = (l ++ [pP l]).length := by simp [unhide HL]; omega
          have e2 : (l ++ [pP l]).length = (ps ++ [(axP, cxP)]).length := by simp [(unhide HO).len]
          rw [e1, getD_last, (ps_last e2).1, (ps_last e2).2, unhide HLQ]
          exact ⟨gxQ, (unhide HxQ).below hkB, fun h0 => by have := (unhide HxQ).lt h0; omega⟩)
    replace HB := hide ((unhide HB).trans (hkB.mono (unhide HB).size))
    have hgBw : w.heap.size ≤ gB := by have h1 := hzw5; omega
    obtain ⟨N, hN⟩ : ∃ N, n + 2 = N := ⟨_, rfl⟩
    rw [hN] at hcB HTN ⊢
    obtain ⟨pa, hpa⟩ : ∃ pa, ps ++ [(axP, cxP)] ++ [(axQ, cxQ)] = pa := ⟨_, rfl⟩
    obtain ⟨la, hla⟩ : ∃ la, l ++ [pP l] ++ [pQ l] = la := ⟨_, rfl⟩
    rw [hpa, hla] at HTN
    have HLA : Hid (la = withP l) := hla.symm
    have HNN := hide hN
    have hNb : 4 ≤ N ∧ N ≤ 16 := by omega
    obtain ⟨hN4, hN16⟩ := hNb
    clear hpa hla ho hg hkB hOB hlB HO6 HOW HSRC hN HOX HKX HKA hrB
    have HLAB : Hid ((∀ c, c < N → (la.getD c []).length = s) ∧ ∀ c, (la.getD c []).length ≤ 100000) := by
      obtain ⟨f1, _, _, _⟩ := withP_facts (unhide HL) hn2 hn3 (unhide HS) (unhide HBL)
      have h1 : ∀ c, c < N → (la.getD c []).length = s := fun c hc => by rw [unhide HLA]; exact f1 c (by have := unhide HNN; omega)
      exact ⟨h1, len_of (unhide HTN).tl h1 (by omega)⟩
    have HCA : Hid (chk la = true) := by
      obtain ⟨f1, f2, f3, f4⟩ := withP_facts (unhide HL) hn2 hn3 (unhide HS) (unhide HBL)
      have hwl : (withP l).length = n + 2 := by rw [withP_len, unhide HL]
      show _ = _
      rw [unhide HLA]
      exact chk_of (by rw [hwl]; omega) (by rw [hwl]; omega) (fun c hc => f1 c (by rw [← hwl]; exact hc)) (by rw [hwl]; exact f3) (by rw [hwl]; exact f4)
    go_wp2_with fail
    refine (check_any _ gB _ _ la w7 ((unhide HTN).arg hcB hcBm) (unhide HLAB).2).mono ?_
    rintro e w8 ⟨rfl, hk⟩
    rw [unhide HCA]
    replace HB := hide ((unhide HB).trans (hk.mono (unhide HB).size))
    replace HTN := hide ((unhide HTN).below hk)
    clear hk
    go_wp2_with fail
    refine (within_any at0 (N : Int) w8 (by omega) (by omega)).mono ?_
    rintro e w9 ⟨rfl, hw9⟩
    subst hw9
    obtain ⟨k, hii⟩ : ∃ k : Nat, at0 % (N : Int) = (k : Int) := ⟨(at0 % (N : Int)).toNat, by have := Int.emod_nonneg at0 (show (N : Int) ≠ 0 by omega); omega⟩
    have hkN : k < N := by have := Int.emod_lt_of_pos at0 (show (0 : Int) < (N : Int) by omega); omega
    rw [hii]
    clear hii
    have hkN' : (k : Int) < (N : Int) := by omega
    obtain ⟨hcT, hfT⟩ := (unhide HTN).cell hkN
    obtain ⟨gk, hAk, hgk⟩ := (unhide HTN).rows k hkN
    have hlk : (la.getD k []).length = s := (unhide HLAB).1 k hkN
    rw [hlk] at hcT hAk
    by_cases hs0 : s = 0
    · have e0 : ((s : Int) == 0) = true := by rw [hs0]; rfl
      clear hs0
      go_wp2_with fail
      go_ret
      exact ⟨rfl, unhide HB⟩
    have e0 : ((s : Int) == 0) = false := by rw [beq_eq_false_iff_ne]; omega
    by_cases hby : by8 = 0
    · have e1 : ((by8 : Int) == 0) = true := by rw [hby]; rfl
      clear hby
      go_wp2_with fail
      go_ret
      exact ⟨rfl, unhide HB⟩
    have e1 : ((by8 : Int) == 0) = false := by rw [beq_eq_false_iff_ne]; omega
    have hkE : Below w9.heap.size w9 (w9.alloc (.cells #[] 5)) := (Below.refl _ _).alloc (Nat.le_refl _) _
    have HE := hide (own_none w9 5)
    have hcTE := (hkE.cell (p := ⟨gB, k, none⟩) (block_lt_of_cell hcT)).trans hcT
    obtain ⟨⟨aK, cK, hvK, hsK, _, hnK, hrK⟩, _⟩ := hAk.below hkE
    rw [hlk] at hvK hsK
    have hpa : psA pa k = aK := by injection hvK
    have hpc : psC pa k = cK := by injection hvK
    rw [hpa, hpc] at hcT hcTE
    have HNK := hide hnK
    have HRK := hide hrK
    have HKE := hide hkE
    obtain ⟨rk, hrk⟩ : ∃ rk, la.getD k [] = rk := ⟨_, rfl⟩
    have HSK : Hid (rk.length = s) := by show _ = _; rw [← hrk]; exact hlk
    have HBK : Hid (Bs rk) := by show Bs _; rw [← hrk]; exact hAk.bs
    rw [hrk] at HRK
    have HRKE := hide hrk
    have hgB9 := (unhide HTN).lt
    clear hrk hkE hvK hnK hrK hAk hgk hlk hfT
    go_wp2_with (at_builtin; refine wpList_append_row _ rfl _ _ 22 rfl w9.heap.size 5 iB Try.underlying22 (unhide HIB) hzB0 hzB1 hzB2 (.slice (some ⟨w9.heap.size, 0, none⟩) 0 0) 0 [] rfl (unhide HE) aK gk s cK (ints rk) rfl (by rw [ints_len]; exact unhide HSK) (unhide HRK) (fun h => by have h0 := unhide HNK h; omega) (by omega) (by simp) ?_)
    intro v17 wb ho hg hnn
    have hkb := below_grown (unhide HKE) hg (by simp) (fun k hk => by have e2 : w9.heap.size = k := Option.some.inj hk; omega)
    obtain ⟨g17, c17, hv17, hg17, hg17l⟩ := owns_shape ho hnn
    subst hv17
    have hF17 := (owns_fr ho).2
    have HBK17 : Hid (Blk wb g17 rk) := by
      rcases hF17 with ⟨_, h⟩ | ⟨g', c', h1, _, _, h2, _⟩
      · cases h
      · cases h1; exact h2
    have HC17 : Hid (s ≤ c17 ∧ c17 ≤ maxLen) := by
      rcases ho.2 with ⟨h, _⟩ | ⟨g', cap, cur, h1, h2, h3, h4, h5, _⟩
      · cases h
      · cases h1; exact ⟨h4, h5⟩
    have HTNb := hide ((unhide HTN).below hkb)
    have HBb := hide ((unhide HB).trans (hkb.mono (unhide HB).size))
    have HKwb := hide hkb
    have hzwb := hkb.size
    clear ho hg hnn hkb hF17
    obtain ⟨hcb1, hfb1⟩ := (unhide HTNb).cell hkN
    have HCUR : Hid (∃ cur, (wb.setCell ⟨gB, k, none⟩ (.slice (some ⟨g17, 0, none⟩) s c17)).heap[gB]? = some (.cells cur 22 (0, 0)) ∧ cur[k]? = some (.slice (some ⟨g17, 0, none⟩) s c17) ∧ ∀ c, c < N → c ≠ k → cur[c]? = some (.slice (psA pa c) (la.getD c []).length (psC pa c))) := by
      obtain ⟨cur, h1, h2⟩ := (unhide HTNb).cells
      have hks : k < cur.size := (Array.getElem?_eq_some_iff.1 (h2 k hkN)).1
      exact ⟨_, heap_setCell_same wb gB k _ _ _ h1, by simp [hks], fun c hc hne => by rw [Array.getElem?_setIfInBounds, if_neg (fun e => hne e.symm)]; exact h2 c hc⟩
    have HKc : Hid (Kp [gB] wb (wb.setCell ⟨gB, k, none⟩ (.slice (some ⟨g17, 0, none⟩) s c17))) := (Kp.refl _ wb).setCell _ _ (.inl (by simp))
    have HBc : Hid (Blk (wb.setCell ⟨gB, k, none⟩ (.slice (some ⟨g17, 0, none⟩) s c17)) g17 rk) := (unhide HBK17).of ((unhide HKc).block g17 hg17l (by simp; omega))
    go_wp2_with fail
    generalize wb.setCell ⟨gB, k, none⟩ (.slice (some ⟨g17, 0, none⟩) s c17) = wc at HCUR HKc HBc ⊢
    have HCK : Hid (wc.cell? ⟨gB, k, none⟩ = some (.slice (some ⟨g17, 0, none⟩) s c17)) := by
      obtain ⟨cur, h1, h2, _⟩ := unhide HCUR
      show _ = _
      simp [World.cell?, h1, h2]
    go_wp2_with fail
    refine wp_region_noPanic ?_
    refine wp_region_held_drew (S := fun W => Kp [g17] wc W) (by kernel_rfl) ((Kp.refl _ _).drew) (fun hHeld => ?_)
    have HH := hide hHeld
    clear hHeld
    refine takeL (i := 0) (v := ?_) rfl (by kernel_rfl) (by kernel_rfl) (by kernel_rfl) (fun _ _ _ h => h) (Or.inl ⟨by rfl, ?_⟩) (unhide HH) ?_
    rotate_left 1
    · intro W hSW; go_simp; all_goals (with_reducible rfl)
    (try simp only [Act.put, List.setIfInBounds_toArray, List.set_cons_zero, List.set_cons_succ])
    refine takeL (i := 1) (v := ?_) rfl (by kernel_rfl) (by kernel_rfl) (by kernel_rfl) (fun _ _ _ h => h) (Or.inl ⟨by rfl, ?_⟩) (unhide HH) ?_
    rotate_left 1
    · intro W hSW; go_simp; all_goals (with_reducible rfl)
    (try simp only [Act.put, List.setIfInBounds_toArray, List.set_cons_zero, List.set_cons_succ])
    refine takeL (i := 2) (v := ?_) rfl (by kernel_rfl) (by kernel_rfl) (by kernel_rfl) (fun _ _ _ h => h) (Or.inl ⟨by rfl, ?_⟩) (unhide HH) ?_
    rotate_left 1
    · intro W hSW; go_simp; all_goals (with_reducible rfl)
    (try simp only [Act.put, List.setIfInBounds_toArray, List.set_cons_zero, List.set_cons_succ])
    refine takeL (i := 3) (v := ?_) rfl (by kernel_rfl) (by kernel_rfl) (by kernel_rfl) (fun _ _ _ h => h) (Or.inl ⟨by rfl, ?_⟩) (unhide HH) ?_
    rotate_left 1
    · intro W1 hSW; have hc := hSW.cell (unhide HCK) (by simp; omega); clear hSW; go_simp; all_goals (with_reducible rfl)
    (try simp only [Act.put, List.setIfInBounds_toArray, List.set_cons_zero, List.set_cons_succ])
    refine takeL (i := 4) (v := ?_) rfl (by kernel_rfl) (by kernel_rfl) (by kernel_rfl) (fun _ _ _ h => h) (Or.inl ⟨by rfl, ?_⟩) (unhide HH) ?_
    rotate_left 1
    · intro W hSW; go_simp; all_goals (with_reducible rfl)
    (try simp only [Act.put, List.setIfInBounds_toArray, List.set_cons_zero, List.set_cons_succ])
    refine takeL (i := 5) (v := ?_) rfl (by kernel_rfl) (by kernel_rfl) (by kernel_rfl) (fun _ _ _ h => h) (Or.inl ⟨by rfl, ?_⟩) (unhide HH) ?_
    rotate_left 1
    · intro W hSW; go_simp; all_goals (with_reducible rfl)
    (try simp only [Act.put, List.setIfInBounds_toArray, List.set_cons_zero, List.set_cons_succ])
    refine takeL (i := 6) (v := ?_) rfl (by kernel_rfl) (by kernel_rfl) (by kernel_rfl) (fun _ _ _ h => h) (Or.inl ⟨by rfl, ?_⟩) (unhide HH) ?_
    rotate_left 1
    · intro W hSW; go_simp; all_goals (with_reducible rfl)
    (try simp only [Act.put, List.setIfInBounds_toArray, List.set_cons_zero, List.set_cons_succ])
    refine takeL (i := 7) (v := ?_) rfl (by kernel_rfl) (by kernel_rfl) (by kernel_rfl) (fun _ _ _ h => h) (Or.inl ⟨by rfl, ?_⟩) (unhide HH) ?_
    rotate_left 1
    · intro W hSW; go_simp; all_goals (with_reducible rfl)
    (try simp only [Act.put, List.setIfInBounds_toArray, List.set_cons_zero, List.set_cons_succ])
    refine takeL (i := 8) (v := ?_) rfl (by kernel_rfl) (by kernel_rfl) (by kernel_rfl) (fun _ _ _ h => h) (Or.inl ⟨by rfl, ?_⟩) (unhide HH) ?_
    rotate_left 1
    · intro W hSW; go_simp; all_goals (with_reducible rfl)
    (try simp only [Act.put, List.setIfInBounds_toArray, List.set_cons_zero, List.set_cons_succ])
    refine takeL (i := 9) (v := ?_) rfl (by kernel_rfl) (by kernel_rfl) (by kernel_rfl) (fun _ _ _ h => h) (Or.inl ⟨by rfl, ?_⟩) (unhide HH) ?_
    rotate_left 1
    · intro W1 hSW; have hc := hSW.cell (unhide HCK) (by simp; omega); clear hSW; go_simp; all_goals (with_reducible rfl)
    (try simp only [Act.put, List.setIfInBounds_toArray, List.set_cons_zero, List.set_cons_succ])
    refine takeL (i := 10) (v := ?_) rfl (by kernel_rfl) (by kernel_rfl) (by kernel_rfl) (fun _ _ _ h => h) (Or.inl ⟨by rfl, ?_⟩) (unhide HH) ?_
    rotate_left 1
    · intro W hSW; go_simp; all_goals (with_reducible rfl)
    (try simp only [Act.put, List.setIfInBounds_toArray, List.set_cons_zero, List.set_cons_succ])
    refine takeL (i := 14) (v := ?_) rfl (by kernel_rfl) (by kernel_rfl) (by kernel_rfl) (fun _ _ _ h => h) (Or.inl ⟨by rfl, ?_⟩) (unhide HH) ?_
    rotate_left 1
    · intro W hSW; go_simp; all_goals (with_reducible rfl)
    (try simp only [Act.put, List.setIfInBounds_toArray, List.set_cons_zero, List.set_cons_succ])
    refine wpAnyH_ready (rs := [11]) (by kernel_rfl) (by simp) ?_
    refine consL rfl (fun K hK => ?_) AllReadyH.nil
    go_simp
    refine (within_any _ (s : Int) _ (by omega) (by omega)).mono ?_
    rintro e w20 ⟨he20, hw20⟩
    subst hw20
    generalize hzz : (_ : Int) % (s : Int) = zc at he20
    have hz0' : 0 ≤ zc := by rw [← hzz]; exact Int.emod_nonneg _ (show (s : Int) ≠ 0 by omega)
    have hz1' : zc < (s : Int) := by rw [← hzz]; exact Int.emod_lt_of_pos _ (by omega)
    clear hzz
    obtain ⟨cc, rfl⟩ := Int.eq_ofNat_of_zero_le hz0'
    subst he20
    have hcc : cc < s := by omega
    clear hz0'
    go_wp2_with fail
    refine hK.out _ _ (unhide HH) (fun hHeld => ?_)
    clear hK K HH
    have HH := hide hHeld
    clear hHeld
    (try simp only [Act.put, List.setIfInBounds_toArray, List.set_cons_zero, List.set_cons_succ])
    refine takeL (i := 12) (v := ?_) rfl (by kernel_rfl) (by kernel_rfl) (by kernel_rfl) (fun _ _ _ h => h) (Or.inl ⟨by rfl, ?_⟩) (unhide HH) ?_
    rotate_left 1
    · intro W hSW; go_simp; all_goals (with_reducible rfl)
    (try simp only [Act.put, List.setIfInBounds_toArray, List.set_cons_zero, List.set_cons_succ])
    refine wpAnyH_ready (rs := [13]) (by kernel_rfl) (by simp) ?_
    refine consL rfl (fun K hK => ?_) AllReadyH.nil
    have he : wc.cell? ⟨g17, cc, none⟩ = some (.int .u8 ((cf rk cc : Nat) : Int)) := (unhide HBc).cell (by rw [unhide HSK]; exact hcc)
    have hr8 : cf rk cc < 256 := unhide HBK cc
    have hxor := bits_xor_u8 hr8 hb8
    go_simp
    refine hK.out _ _ (unhide HH) (fun hHeld => ?_)
    clear hK K HH
    have HH := hide hHeld
    clear hHeld
    (try simp only [Act.put, List.setIfInBounds_toArray, List.set_cons_zero, List.set_cons_succ])
    clear he hxor
    refine takeL (i := 15) (v := ?_) rfl (by kernel_rfl) (by kernel_rfl) (by kernel_rfl) (fun _ _ _ h => h) (Or.inl ⟨by rfl, ?_⟩) (unhide HH) ?_
    rotate_left 1
    · intro W hSW; go_simp; all_goals (with_reducible rfl)
    (try simp only [Act.put, List.setIfInBounds_toArray, List.set_cons_zero, List.set_cons_succ])
    refine takeL (i := 16) (v := ?_) rfl (by kernel_rfl) (by kernel_rfl) (by kernel_rfl) (fun _ _ _ h => h) (Or.inl ⟨by rfl, ?_⟩) (unhide HH) ?_
    rotate_left 1
    · intro W hSW; go_simp; all_goals (with_reducible rfl)
    (try simp only [Act.put, List.setIfInBounds_toArray, List.set_cons_zero, List.set_cons_succ])
    refine wpAnyH_ready (rs := [17]) (by kernel_rfl) (by simp) ?_
    refine consL rfl (fun K hK => ?_) AllReadyH.nil
    have he : wc.cell? ⟨g17, cc, none⟩ = some (.int .u8 ((cf rk cc : Nat) : Int)) := (unhide HBc).cell (by rw [unhide HSK]; exact hcc)
    have hr8 : cf rk cc < 256 := unhide HBK cc
    have hxor := bits_xor_u8 hr8 hb8
    have hf4 : wc.frozen? ⟨g17, cc, none⟩ = false := (unhide HBc).free
    go_simp
    have HBW2 : Hid (Blk (wc.setCell ⟨g17, cc, none⟩ (.int .u8 ((cf rk cc ^^^ by8 : Nat) : Int))).drew g17 (rk.set cc (cf rk cc ^^^ by8))) := ((unhide HBc).set cc (cf rk cc ^^^ by8) (by rw [unhide HSK]; exact hcc)).of rfl
    have HKW2 : Hid (Kp [g17] wc (wc.setCell ⟨g17, cc, none⟩ (.int .u8 ((cf rk cc ^^^ by8 : Nat) : Int))).drew) := ((Kp.refl [g17] wc).setCell ⟨g17, cc, none⟩ (.int .u8 ((cf rk cc ^^^ by8 : Nat) : Int)) (.inl (by simp))).drew
    refine hK.out _ _ (unhide HKW2) (fun hHeld => ?_)
    clear hHeld hK K HH he hf4
    (try simp only [Act.put, List.setIfInBounds_toArray, List.set_cons_zero, List.set_cons_succ])
    refine wpAnyH_done (by kernel_rfl) ?_ _
    refine NoPanic.normal ?_
    generalize (wc.setCell ⟨g17, cc, none⟩ (.int .u8 ((cf rk cc ^^^ by8 : Nat) : Int))).drew = wd at HBW2 HKW2 ⊢
    have hu8 : cf rk cc ^^^ by8 < 256 := xor_lt hr8 hb8
    have hsl : (rk.set cc (cf rk cc ^^^ by8)).length = s := by rw [List.length_set]; exact unhide HSK
    have hbs : Bs (rk.set cc (cf rk cc ^^^ by8)) := fun x => by
      rw [cf_set _ _ _ _ (by rw [unhide HSK]; exact hcc)]
      split
      · exact hu8
      · exact unhide HBK x
    have hAd : Arg wd (.slice (some ⟨g17, 0, none⟩) s c17) g17 (rk.set cc (cf rk cc ^^^ by8)) := by
      have h := (unhide HBW2).arg (c := c17) hbs (by rw [hsl]; exact (unhide HC17).1) (unhide HC17).2
      rwa [hsl] at h
    have hpk := (unhide HTN).pl
    have htk := (unhide HTN).tl
    have HT2 : Hid (Tn wd gB N (pa.set k (some ⟨g17, 0, none⟩, c17)) (la.set k (rk.set cc (cf rk cc ^^^ by8)))) := by
      obtain ⟨cur, h1, h2, h3⟩ := unhide HCUR
      refine ⟨⟨cur, (unhide HKW2).heap h1 (by simp; omega), fun x hx => ?_⟩, by rw [List.length_set]; exact hpk, by rw [List.length_set]; exact htk, fun x hx => ?_⟩
      · rw [(ps_set (by rw [hpk]; exact hkN)).1, (ps_set (by rw [hpk]; exact hkN)).2, getD_set (by rw [htk]; exact hkN)]
        by_cases e : k = x
        · subst e; rw [if_pos rfl, if_pos rfl, if_pos rfl, hsl]; exact h2
        · rw [if_neg e, if_neg e, if_neg e]; exact h3 x hx (fun e2 => e e2.symm)
      · rw [(ps_set (by rw [hpk]; exact hkN)).1, (ps_set (by rw [hpk]; exact hkN)).2, getD_set (by rw [htk]; exact hkN)]
        by_cases e : k = x
        · rw [if_pos e, if_pos e, if_pos e, hsl]
          exact ⟨g17, hAd, fun _ => by omega⟩
        · rw [if_neg e, if_neg e, if_neg e]
          obtain ⟨g, h4, h5⟩ := (unhide HTN).rows x hx
          exact ⟨g, arg_kp (arg_kp (h4.below (unhide HKwb)) (unhide HKc) (fun h0 => by simpa using h5 h0)) (unhide HKW2) (fun h0 => by have := h4.lt h0; simp; omega), h5⟩
    have HBd : Hid (Below w.heap.size w wd) := below_kp (below_kp (unhide HBb) (unhide HKc) (by simp; exact hgBw) (unhide HBb).size) (unhide HKW2) (by simp; have h1 := (unhide HB).size; omega) (by have h1 := (unhide HBb).size; have h2 := (unhide HKc).size; omega)
    obtain ⟨t, ht⟩ : ∃ t, la.set k (rk.set cc (cf rk cc ^^^ by8)) = t := ⟨_, rfl⟩
    rw [ht] at HT2
    have HCT : Hid (chk t = false) := one_wrong (k := k) (c := cc) (u := cf rk cc ^^^ by8) (unhide HL) hn2 hn3 (unhide HS) (unhide HBL) (by have := unhide HNN; omega) hcc hu8 (by
      rw [← unhide HLA, unhide HRKE]
      intro e
      have h2 := congrArg (fun z => cf rk cc ^^^ z) e
      simp only [← Nat.xor_assoc, Nat.xor_self, Nat.zero_xor] at h2
      exact hby h2) (by rw [← ht, ← unhide HLA, unhide HRKE])
    have HTLEN : Hid (∀ c, (t.getD c []).length ≤ 100000) := fun c => by
      rw [← ht, getD_set (by rw [htk]; exact hkN)]
      split
      · rw [hsl]; omega
      · exact (unhide HLAB).2 c
    clear hAd hbs hsl ht hpk htk hu8 hr8 hxor
    go_wp2_with fail
    refine (check_any _ gB _ _ t wd ((unhide HT2).arg hcB hcBm) (unhide HTLEN)).mono ?_
    rintro e we ⟨rfl, hk⟩
    rw [unhide HCT]
    replace HBd := hide ((unhide HBd).trans (hk.mono (unhide HBd).size))
    clear hk
    go_wp2_with fail
    go_ret
    exact ⟨rfl, unhide HBd⟩

end Go.Proofs.Ytdlbkgehgbacmaa
