/-
  The second telling's values and least polynomials (ramekinref3.Eval, Minimal).
-/
import Derived.Test.YtahjcahmlangiaaRm
import Derived.Test.YtahjcahmlangiaaPn
namespace Go.Proofs.Ytahjcahmlangiaa
open Go.RowKit

set_option maxRecDepth 100000 in
set_option maxHeartbeats 4000000 in
theorem reval_any (v : Value) (g : Nat) (s : List Nat) (x : Nat) (w : World) (hA : Arg w v g s) (hs : s.length ≤ 100000) (hx : x < 256) :
    Calls Try.prog 19 #[v, .int .u8 x] w fun e w' => e = .returned (.int .u8 (ev s x : Nat)) ∧ Below w.heap.size w w' := by
  obtain ⟨⟨ao, c, rfl, hc1, hc2, hnil, hr⟩, hbs⟩ := hA
  have HR := hide hr
  clear hr hnil
  go_enter Try.func19, Try.ntmps19
  go_wp2_with fail
  go_loopw [5, 6] (fun p q wr => ∃ k : Nat, q = .int .i64 ((k : Int) - 1) ∧ k ≤ s.length ∧ p = .int .u8 (ev (s.drop k) x : Nat) ∧ Kp [] w wr) (fun _ q _ => (intOf q + 1).toNat)
  case atStart => exact ⟨s.length, by go_num, Nat.le_refl _, by rw [List.drop_length]; rfl, Kp.refl _ _⟩
  case round =>
    obtain ⟨k0, rfl, hk, rfl, hK⟩ := hrel
    have HK := hide hK
    clear hK
    by_cases hlt : 0 < k0
    · obtain ⟨k, rfl⟩ : ∃ k, k0 = k + 1 := ⟨k0 - 1, by omega⟩
      have hk1 : (k : Int) < (s.length : Int) := by omega
      obtain ⟨o, rfl⟩ := row_some (unhide HR) (by omega)
      have HC := hide ((unhide HK).cell (row_cell (unhide HR) (j := k) (by omega)) (by simp))
      have hu := hbs k
      obtain ⟨t, het⟩ : ∃ t, ev (s.drop (k + 1)) x = t := ⟨_, rfl⟩
      have ht : t < 256 := by rw [← het]; exact ev_lt (fun i => by rw [cf_drop]; exact hbs _)
      have HEV : Hid (ev (s.drop k) x = gmul t x ^^^ cf s k) := by show _ = _; rw [← het]; exact ev_drop (by omega)
      rw [het]
      clear het
      have hxor := bits_xor_u8 (gmul_lt (b := x) ht) hu
      have e1 : ((k + 1 : Nat) : Int) - 1 = (k : Int) := by omega
      rw [e1]
      clear e1
      go_wp2_with fail
      refine wp_region_noPanic ?_
      refine wp_region_held_drew (S := fun W' => Kp [] wr W') (by kernel_rfl) ((Kp.refl _ _).drew) (fun hHeld => ?_)
      have HH := hide hHeld
      clear hHeld
      refine takeL (i := 0) (v := ?_) rfl (by kernel_rfl) (by kernel_rfl) (by kernel_rfl) (fun _ _ _ h => h) (Or.inl ⟨by rfl, ?_⟩) (unhide HH) ?_
      rotate_left 1
      · intro W hSW; go_simp; all_goals (with_reducible rfl)
      (try simp only [Act.put, List.setIfInBounds_toArray, List.set_cons_zero, List.set_cons_succ])
      refine takeL (i := 1) (v := ?_) rfl (by kernel_rfl) (by kernel_rfl) (by kernel_rfl) (fun _ _ _ h => h) (Or.inl ⟨by rfl, ?_⟩) (unhide HH) ?_
      rotate_left 1
      · intro W hSW; go_simp; all_goals (with_reducible rfl)
      (try simp only [Act.put, List.setIfInBounds_toArray, List.set_cons_zero, List.set_cons_succ])
      refine takeL (i := 3) (v := ?_) rfl (by kernel_rfl) (by kernel_rfl) (by kernel_rfl) (fun _ _ _ h => h) (Or.inl ⟨by rfl, ?_⟩) (unhide HH) ?_
      rotate_left 1
      · intro W hSW; go_simp; all_goals (with_reducible rfl)
      (try simp only [Act.put, List.setIfInBounds_toArray, List.set_cons_zero, List.set_cons_succ])
      refine takeL (i := 4) (v := ?_) rfl (by kernel_rfl) (by kernel_rfl) (by kernel_rfl) (fun _ _ _ h => h) (Or.inl ⟨by rfl, ?_⟩) (unhide HH) ?_
      rotate_left 1
      · intro W hSW; go_simp; all_goals (with_reducible rfl)
      (try simp only [Act.put, List.setIfInBounds_toArray, List.set_cons_zero, List.set_cons_succ])
      refine takeL (i := 5) (v := ?_) rfl (by kernel_rfl) (by kernel_rfl) (by kernel_rfl) (fun _ _ _ h => h) (Or.inl ⟨by rfl, ?_⟩) (unhide HH) ?_
      rotate_left 1
      · intro W hSW; go_simp; all_goals (with_reducible rfl)
      (try simp only [Act.put, List.setIfInBounds_toArray, List.set_cons_zero, List.set_cons_succ])
      refine takeL (i := 6) (v := ?_) rfl (by kernel_rfl) (by kernel_rfl) (by kernel_rfl) (fun _ _ _ h => h) (Or.inl ⟨by rfl, ?_⟩) (unhide HH) ?_
      rotate_left 1
      · intro W1 hSW; have hc := hSW.cell (unhide HC) (by simp); clear hSW; go_simp; all_goals (with_reducible rfl)
      (try simp only [Act.put, List.setIfInBounds_toArray, List.set_cons_zero, List.set_cons_succ])
      refine wpAnyH_ready (rs := [2]) (by kernel_rfl) (by simp) ?_
      refine consL rfl (fun K hK => ?_) AllReadyH.nil
      go_simp
      refine (rmul_any t x ht hx _).mono ?_
      rintro e w5 ⟨rfl, hw5⟩
      rw [hw5]
      clear hw5
      go_wp2_with fail
      refine hK.out _ _ (unhide HH) (fun hHeld => ?_)
      clear hK K HH
      have HH := hide hHeld
      clear hHeld
      (try simp only [Act.put, List.setIfInBounds_toArray, List.set_cons_zero, List.set_cons_succ])
      refine takeL (i := 7) (v := ?_) rfl (by kernel_rfl) (by kernel_rfl) (by kernel_rfl) (fun _ _ _ h => h) (Or.inl ⟨by rfl, ?_⟩) (unhide HH) ?_
      rotate_left 1
      · intro W hSW; go_simp; all_goals (with_reducible rfl)
      (try simp only [Act.put, List.setIfInBounds_toArray, List.set_cons_zero, List.set_cons_succ])
      refine takeL (i := 8) (v := ?_) rfl (by kernel_rfl) (by kernel_rfl) (by kernel_rfl) (fun _ _ _ h => h) (Or.inl ⟨by rfl, ?_⟩) (unhide HH) ?_
      rotate_left 1
      · intro W hSW; go_simp; all_goals (with_reducible rfl)
      (try simp only [Act.put, List.setIfInBounds_toArray, List.set_cons_zero, List.set_cons_succ])
      refine wpAnyH_done (by kernel_rfl) ?_ _
      refine NoPanic.normal ?_
      clear HH
      go_wp2
      go_roundw
      case rel => exact ⟨k, by go_num, by omega, by rw [unhide HEV], (unhide HK).drew⟩
      case measure => simp [intOf]
    · have hk0 : k0 = 0 := by omega
      subst hk0
      go_wp2
      go_ret
      exact ⟨by rw [List.drop_zero]; rfl, (unhide HK).below⟩

theorem one_pmul {x : Nat} (hx : x < 256) : trim (pmul [1] [x, 1]) = [x, 1] := by
  have e : Eqv (pmul [1] [x, 1]) [x, 1] := fun i => by
    rw [cf_pmul_cons]
    match i with
    | 0 => simp [one_gmul hx]
    | 1 => simp [pmul, gmul_one]
    | i + 2 => simp [pmul, gmul_zero]
  rw [trim_congr e]
  exact trim_self (.inr (by simp))

/-- What is left of the round. -/
def leftM (st m : Nat) : List Nat := if m = st then [] else orbF 8 st m

set_option maxRecDepth 100000 in
set_option maxHeartbeats 8000000 in
theorem rminimal_any (n : Int) (w : World) :
    Calls Try.prog 31 #[.int .i64 n] w fun e w' => ∃ v', e = .returned v' ∧ Fr w.heap.size w' v' (minP (n % 255).toNat) ∧ Below w.heap.size w w' := by
  obtain ⟨st, hst⟩ : ∃ st : Nat, n % 255 = (st : Int) := ⟨(n % 255).toNat, by omega⟩
  have hst2 : st < 255 := by omega
  obtain ⟨h1, h2, h3, h4⟩ := tmod_emod n 255 (by omega)
  rw [hst] at h1 h2
  have HG : Hid ((n % 255).toNat = st) := by show _ = _; omega
  rw [unhide HG]
  have H1 := hide h1
  have H2 := hide h2
  clear hst h1 h2
  obtain ⟨X1, hX1⟩ : ∃ x, E st = x := ⟨_, rfl⟩
  have hXl : X1 < 256 := by rw [← hX1]; exact E_lt st
  have HX : Hid (X (st : Int) = X1) := by show _ = _; rw [X_nat]; exact hX1
  have HX1 := hide hX1
  clear hX1
  have htw : ((2 : Int) * (st : Int)).tmod 255 = ((2 * st % 255 : Nat) : Int) := twice_eq hst2
  obtain ⟨m1, hm1⟩ : ∃ m1, 2 * st % 255 = m1 := ⟨_, rfl⟩
  have hm1l : m1 < 255 := by omega
  rw [hm1] at htw
  have HM1 := hide hm1
  clear hm1
  by_cases hneg : n.tmod 255 < 0
  · have h5 : n.tmod 255 + 255 = (st : Int) := unhide H1 hneg
    go_enter Try.func31, Try.ntmps31
    go_wp2_with fail
    refine (rexp_any (st : Int) _).mono ?_
    rintro e w ⟨rfl, rfl⟩
    rw [unhide HX]
    have HV := hide (arg_two w hXl)
    have HB2 : Hid (Blk (w.alloc (.cells #[.int .u8 (X1 : Int), .int .u8 1] 5)) w.heap.size [X1, 1]) := ⟨_, World.alloc_heap_new w _, fun j hj => two_get j hj⟩
    have HW : Hid (Below w.heap.size w (w.alloc (.cells #[.int .u8 (X1 : Int), .int .u8 1] 5))) := (Below.refl _ w).alloc (Nat.le_refl _) _
    go_wp2_with fail
    go_loopw [3, 4] (fun p q wr => ∃ (m : Nat) (pl : List Nat), q = .int .i64 m ∧ m < 255 ∧ 1 ≤ pl.length ∧ pl.length ≤ 8 ∧ m = st * 2 ^ pl.length % 255 ∧ pl ++ (if m = st then [] else orbF (8 - pl.length) st m) = orb st ∧ Fr w.heap.size wr p (pl.foldl minF [1]) ∧ Below w.heap.size w wr) (fun _ q _ => (leftM st (intOf q).toNat).length)
    case atStart =>
      refine ⟨m1, [st], rfl, hm1l, by simp, by simp, ?_, ?_, ?_, unhide HW⟩
      · rw [← unhide HM1]; simp; omega
      · rw [← unhide HM1]; rfl
      · show Fr _ _ _ (trim (pmul [1] [E st, 1]))
        rw [unhide HX1, one_pmul hXl]
        exact .inr ⟨w.heap.size, 2, rfl, by simp, by unfold maxLen; omega, unhide HB2, Nat.le_refl _⟩
    case round =>
      obtain ⟨m, pl, rfl, hm, hpl1, hpl8, hmm, hp, hF, hW2⟩ := hrel
      have HMM := hide hmm
      have HP := hide hp
      have HW2 := hide hW2
      have hzr := hW2.size
      clear hmm hp hW2 HV HB2 HW
      by_cases he : m = st
      · have he' : ((m : Int) != (st : Int)) = false := by rw [he]; simp
        have HP2 := unhide HP
        rw [if_pos he, List.append_nil] at HP2
        rw [HP2] at hF
        have HF := hide hF
        obtain ⟨av, lv, cv, rfl⟩ := hF.shape
        clear HP2 hF
        go_wp2
        go_ret
        exact ⟨_, rfl, unhide HF, unhide HW2⟩
      · have he' : ((m : Int) != (st : Int)) = true := by rw [bne_iff_ne]; omega
        have HP2 := unhide HP
        rw [if_neg he] at HP2
        have HP3 := hide HP2
        clear HP2
        have hp7 : pl.length ≤ 7 := by
          have h := orb_facts ⟨st, hst2⟩ ⟨pl.length - 1, by omega⟩
          dsimp only at h
          rw [orb_next, show pl.length - 1 + 1 = pl.length from by omega, ← unhide HMM] at h
          have := (h.resolve_left he).1
          omega
        obtain ⟨m', hm'⟩ : ∃ m', 2 * m % 255 = m' := ⟨_, rfl⟩
        have hm'' : m' < 255 := by omega
        have htw2 : ((2 : Int) * (m : Int)).tmod 255 = (m' : Int) := by rw [twice_eq hm, hm']
        have HM' := hide hm'
        clear hm'
        have HME : Hid ((leftM st m').length < (leftM st m).length) := by
          show _ < _
          unfold leftM
          rw [if_neg he]
          by_cases e2 : m' = st
          · rw [if_pos e2]; simp [orbF]
          · rw [if_neg e2]
            have h := orb_facts ⟨st, hst2⟩ ⟨pl.length, by omega⟩
            dsimp only at h
            rw [← unhide HMM, unhide HM'] at h
            exact (h.resolve_left e2).2
        have HPN : Hid ((pl ++ [m]) ++ (if m' = st then [] else orbF (8 - (pl ++ [m]).length) st m') = orb st) := by
          show _ = _
          have h := unhide HP3
          obtain ⟨k, hk⟩ : ∃ k, 8 - pl.length = k + 1 := ⟨8 - pl.length - 1, by omega⟩
          rw [hk, orbF, unhide HM'] at h
          rw [← h, List.length_append, List.length_singleton, show 8 - (pl.length + 1) = k from by omega, List.append_assoc]
          rfl
        obtain ⟨p, hpp⟩ : ∃ p, pl.foldl minF [1] = p := ⟨_, rfl⟩
        have hplen : p.length ≤ 100 := by
          have := minF_len pl [1]
          rw [hpp] at this
          simp at this
          omega
        have hpb : Bs p := by rw [← hpp]; exact minF_bs _ (Bs.cons (by omega) Bs.nil)
        rw [hpp] at hF
        have HPP := hide hpp
        clear hpp
        obtain ⟨g, hA, hg⟩ := hF.arg hpb
        obtain ⟨⟨ao, c, rfl, ha1, ha2, ha3, ha4⟩, _⟩ := hA
        have HA : Hid (Arg wr (.slice ao p.length c) g p) := ⟨⟨ao, c, rfl, ha1, ha2, ha3, ha4⟩, hpb⟩
        clear ha1 ha2 ha3 ha4 hF
        obtain ⟨X2, hX2⟩ : ∃ x, E m = x := ⟨_, rfl⟩
        have hX2l : X2 < 256 := by rw [← hX2]; exact E_lt m
        have HX2 : Hid (X (m : Int) = X2) := by show _ = _; rw [X_nat]; exact hX2
        have HX3 := hide hX2
        clear hX2
        go_wp2_with fail
        refine (rexp_any (m : Int) _).mono ?_
        rintro e w5 ⟨rfl, rfl⟩
        rw [unhide HX2]
        have HV5 := hide (arg_two w5 hX2l)
        have HB5 : Hid (Below w5.heap.size w5 (w5.alloc (.cells #[.int .u8 (X2 : Int), .int .u8 1] 5))) := (Below.refl _ w5).alloc (Nat.le_refl _) _
        go_wp2_with fail
        refine (rpmul_any _ _ g w5.heap.size p [X2, 1] _ ((unhide HA).below (unhide HB5)) (unhide HV5) (by omega) (by simp)).mono ?_
        rintro e w6 ⟨v6, rfl, hF6, hk6⟩
        have HF6 : Hid (Fr w.heap.size w6 v6 ((pl ++ [m]).foldl minF [1])) := by
          rw [List.foldl_append, unhide HPP]
          show Fr _ _ _ (trim (pmul p [E m, 1]))
          rw [unhide HX3]
          rcases hF6 with h | ⟨g3, c3, k1, k2, k3, k4, k5⟩
          · exact .inl h
          · exact .inr ⟨g3, c3, k1, k2, k3, k4, by simp at k5; omega⟩
        have HB6 : Hid (Below w.heap.size w w6) := ((unhide HW2).trans ((unhide HB5).mono hzr)).trans (hk6.mono (by simp; omega))
        obtain ⟨av, lv, cv, rfl⟩ := hF6.shape
        clear hF6 hk6
        go_wp2
        go_roundw
        case rel =>
          refine ⟨m', pl ++ [m], rfl, hm'', by simp, by simp; omega, ?_, unhide HPN, unhide HF6, unhide HB6⟩
          rw [List.length_append, List.length_singleton, ← unhide HM', unhide HMM]
          exact orb_next _ _
        case measure => simp only [intOf, Int.toNat_natCast]; exact unhide HME
  · have h6 : (0 : Int) ≤ n.tmod 255 := by omega
    have h5 : n.tmod 255 = (st : Int) := unhide H2 h6
    go_enter Try.func31, Try.ntmps31
    go_wp2_with fail
    refine (rexp_any (st : Int) _).mono ?_
    rintro e w ⟨rfl, rfl⟩
    rw [unhide HX]
    have HV := hide (arg_two w hXl)
    have HB2 : Hid (Blk (w.alloc (.cells #[.int .u8 (X1 : Int), .int .u8 1] 5)) w.heap.size [X1, 1]) := ⟨_, World.alloc_heap_new w _, fun j hj => two_get j hj⟩
    have HW : Hid (Below w.heap.size w (w.alloc (.cells #[.int .u8 (X1 : Int), .int .u8 1] 5))) := (Below.refl _ w).alloc (Nat.le_refl _) _
    go_wp2_with fail
    go_loopw [3, 4] (fun p q wr => ∃ (m : Nat) (pl : List Nat), q = .int .i64 m ∧ m < 255 ∧ 1 ≤ pl.length ∧ pl.length ≤ 8 ∧ m = st * 2 ^ pl.length % 255 ∧ pl ++ (if m = st then [] else orbF (8 - pl.length) st m) = orb st ∧ Fr w.heap.size wr p (pl.foldl minF [1]) ∧ Below w.heap.size w wr) (fun _ q _ => (leftM st (intOf q).toNat).length)
    case atStart =>
      refine ⟨m1, [st], rfl, hm1l, by simp, by simp, ?_, ?_, ?_, unhide HW⟩
      · rw [← unhide HM1]; simp; omega
      · rw [← unhide HM1]; rfl
      · show Fr _ _ _ (trim (pmul [1] [E st, 1]))
        rw [unhide HX1, one_pmul hXl]
        exact .inr ⟨w.heap.size, 2, rfl, by simp, by unfold maxLen; omega, unhide HB2, Nat.le_refl _⟩
    case round =>
      obtain ⟨m, pl, rfl, hm, hpl1, hpl8, hmm, hp, hF, hW2⟩ := hrel
      have HMM := hide hmm
      have HP := hide hp
      have HW2 := hide hW2
      have hzr := hW2.size
      clear hmm hp hW2 HV HB2 HW
      by_cases he : m = st
      · have he' : ((m : Int) != (st : Int)) = false := by rw [he]; simp
        have HP2 := unhide HP
        rw [if_pos he, List.append_nil] at HP2
        rw [HP2] at hF
        have HF := hide hF
        obtain ⟨av, lv, cv, rfl⟩ := hF.shape
        clear HP2 hF
        go_wp2
        go_ret
        exact ⟨_, rfl, unhide HF, unhide HW2⟩
      · have he' : ((m : Int) != (st : Int)) = true := by rw [bne_iff_ne]; omega
        have HP2 := unhide HP
        rw [if_neg he] at HP2
        have HP3 := hide HP2
        clear HP2
        have hp7 : pl.length ≤ 7 := by
          have h := orb_facts ⟨st, hst2⟩ ⟨pl.length - 1, by omega⟩
          dsimp only at h
          rw [orb_next, show pl.length - 1 + 1 = pl.length from by omega, ← unhide HMM] at h
          have := (h.resolve_left he).1
          omega
        obtain ⟨m', hm'⟩ : ∃ m', 2 * m % 255 = m' := ⟨_, rfl⟩
        have hm'' : m' < 255 := by omega
        have htw2 : ((2 : Int) * (m : Int)).tmod 255 = (m' : Int) := by rw [twice_eq hm, hm']
        have HM' := hide hm'
        clear hm'
        have HME : Hid ((leftM st m').length < (leftM st m).length) := by
          show _ < _
          unfold leftM
          rw [if_neg he]
          by_cases e2 : m' = st
          · rw [if_pos e2]; simp [orbF]
          · rw [if_neg e2]
            have h := orb_facts ⟨st, hst2⟩ ⟨pl.length, by omega⟩
            dsimp only at h
            rw [← unhide HMM, unhide HM'] at h
            exact (h.resolve_left e2).2
        have HPN : Hid ((pl ++ [m]) ++ (if m' = st then [] else orbF (8 - (pl ++ [m]).length) st m') = orb st) := by
          show _ = _
          have h := unhide HP3
          obtain ⟨k, hk⟩ : ∃ k, 8 - pl.length = k + 1 := ⟨8 - pl.length - 1, by omega⟩
          rw [hk, orbF, unhide HM'] at h
          rw [← h, List.length_append, List.length_singleton, show 8 - (pl.length + 1) = k from by omega, List.append_assoc]
          rfl
        obtain ⟨p, hpp⟩ : ∃ p, pl.foldl minF [1] = p := ⟨_, rfl⟩
        have hplen : p.length ≤ 100 := by
          have := minF_len pl [1]
          rw [hpp] at this
          simp at this
          omega
        have hpb : Bs p := by rw [← hpp]; exact minF_bs _ (Bs.cons (by omega) Bs.nil)
        rw [hpp] at hF
        have HPP := hide hpp
        clear hpp
        obtain ⟨g, hA, hg⟩ := hF.arg hpb
        obtain ⟨⟨ao, c, rfl, ha1, ha2, ha3, ha4⟩, _⟩ := hA
        have HA : Hid (Arg wr (.slice ao p.length c) g p) := ⟨⟨ao, c, rfl, ha1, ha2, ha3, ha4⟩, hpb⟩
        clear ha1 ha2 ha3 ha4 hF
        obtain ⟨X2, hX2⟩ : ∃ x, E m = x := ⟨_, rfl⟩
        have hX2l : X2 < 256 := by rw [← hX2]; exact E_lt m
        have HX2 : Hid (X (m : Int) = X2) := by show _ = _; rw [X_nat]; exact hX2
        have HX3 := hide hX2
        clear hX2
        go_wp2_with fail
        refine (rexp_any (m : Int) _).mono ?_
        rintro e w5 ⟨rfl, rfl⟩
        rw [unhide HX2]
        have HV5 := hide (arg_two w5 hX2l)
        have HB5 : Hid (Below w5.heap.size w5 (w5.alloc (.cells #[.int .u8 (X2 : Int), .int .u8 1] 5))) := (Below.refl _ w5).alloc (Nat.le_refl _) _
        go_wp2_with fail
        refine (rpmul_any _ _ g w5.heap.size p [X2, 1] _ ((unhide HA).below (unhide HB5)) (unhide HV5) (by omega) (by simp)).mono ?_
        rintro e w6 ⟨v6, rfl, hF6, hk6⟩
        have HF6 : Hid (Fr w.heap.size w6 v6 ((pl ++ [m]).foldl minF [1])) := by
          rw [List.foldl_append, unhide HPP]
          show Fr _ _ _ (trim (pmul p [E m, 1]))
          rw [unhide HX3]
          rcases hF6 with h | ⟨g3, c3, k1, k2, k3, k4, k5⟩
          · exact .inl h
          · exact .inr ⟨g3, c3, k1, k2, k3, k4, by simp at k5; omega⟩
        have HB6 : Hid (Below w.heap.size w w6) := ((unhide HW2).trans ((unhide HB5).mono hzr)).trans (hk6.mono (by simp; omega))
        obtain ⟨av, lv, cv, rfl⟩ := hF6.shape
        clear hF6 hk6
        go_wp2
        go_roundw
        case rel =>
          refine ⟨m', pl ++ [m], rfl, hm'', by simp, by simp; omega, ?_, unhide HPN, unhide HF6, unhide HB6⟩
          rw [List.length_append, List.length_singleton, ← unhide HM', unhide HMM]
          exact orb_next _ _
        case measure => simp only [intOf, Int.toNat_natCast]; exact unhide HME

end Go.Proofs.Ytahjcahmlangiaa
