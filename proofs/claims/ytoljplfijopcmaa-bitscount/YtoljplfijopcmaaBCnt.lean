/-
  The walk of BitsCount.
-/
import Derived.Test.YtoljplfijopcmaaH6k
import Derived.Test.YtoljplfijopcmaaH6p
import Derived.Test.YtoljplfijopcmaaB6f
import Derived.Test.YtoljplfijopcmaaB6e
import Derived.Test.YtoljplfijopcmaaM6
import Derived.Test.YtoljplfijopcmaaN6e
namespace Go.Proofs.Ytoljplfijopcmaa
open Go.RowKit Go.Shelf

set_option maxRecDepth 100000 in
set_option maxHeartbeats 8000000 in
theorem count_walk (u : Value) (ga : Nat) (b : List Nat) (lo : Option Addr) (gl len cap : Nat) (zs : List Int) (w : World) (hA : Arg w u ga b) (hz : zs.length = len) (hr : IRow w lo gl zs) (hcap : len ≤ cap) (hm : cap ≤ maxLen) (hbd : ∀ z ∈ zs, -9223372036854775808 ≤ z ∧ z ≤ 9223372036854775807) :
    Calls Try.prog 6 #[u, .slice lo len cap] w fun e w' => e = .returned (.bool true) ∧ Below w.heap.size w w' := by
  have HA := hide hA
  obtain ⟨⟨ao, ca, rfl, hc1, hc2, _, _⟩, hbb⟩ := hA
  obtain ⟨N, hN⟩ : ∃ n, b.length = n := ⟨_, rfl⟩
  have HL := hide hN
  rw [hN] at HA hc1 ⊢
  clear hN
  have ha1 : (N : Int) ≤ 9223372036854775807 := by unfold maxLen at hc2; omega
  have HR := hide hr
  have HZ := hide hz
  have HBD := hide hbd
  clear hr hz hbd
  have HT : Hid (Below w.heap.size w w) := Below.refl _ _
  by_cases h0 : N = 0
  · subst h0
    go_enter Try.func6, Try.ntmps6
    go_wp2_with fail
    refine (known_any _).mono ?_
    rintro e w1 ⟨rfl, hk⟩
    replace HA := hide ((unhide HA).below hk)
    replace HT := hide ((unhide HT).trans (hk.mono (unhide HT).size))
    clear hk
    go_wp2_with fail
    go_ret
    exact ⟨rfl, unhide HT⟩
  have h0' : ((N : Int) == 0) = false := by rw [beq_eq_false_iff_ne]; omega
  by_cases h60 : 60 < N
  · have h60' : (60 : Int) < (N : Int) := by omega
    go_enter Try.func6, Try.ntmps6
    go_wp2_with fail
    refine (known_any _).mono ?_
    rintro e w1 ⟨rfl, hk⟩
    replace HA := hide ((unhide HA).below hk)
    replace HT := hide ((unhide HT).trans (hk.mono (unhide HT).size))
    clear hk
    go_wp2_with fail
    go_ret
    exact ⟨rfl, unhide HT⟩
  have h60' : (N : Int) ≤ 60 := by omega
  go_enter Try.func6, Try.ntmps6
  go_wp2_with fail
  refine (known_any _).mono ?_
  rintro e w1 ⟨rfl, hk⟩
  replace HA := hide ((unhide HA).below hk)
  replace HR := hide (IRow.below hk (unhide HR))
  replace HT := hide ((unhide HT).trans (hk.mono (unhide HT).size))
  clear hk
  go_wp2_with fail
  have hpl := places_any lo gl len cap zs (unhide HZ) (unhide HR) hcap hm (unhide HBD) (8 * N) 20 (by omega) (by omega) (by omega)
  rw [show ((8 * N : Nat) : Int) = 8 * (N : Int) from by omega] at hpl
  refine hpl.mono ?_
  rintro e w2 ⟨v2, ps, rfl, hnd, hps, hpl2, hO, hk⟩
  clear hpl HR HZ HBD
  replace HA := hide ((unhide HA).below hk)
  replace HT := hide ((unhide HT).trans (hk.mono (unhide HT).size))
  have hO2 := hO
  obtain ⟨ao2, c2, g2, rfl, hZ⟩ := hO.za (fun k h => by have := hps k h; omega)
  have HZ2 := hide hZ
  clear hZ hO
  clear hk
  have HPS : Hid (∀ k ∈ ps, k < 8 * b.length) := fun k h => by rw [unhide HL]; exact hps k h
  have HND := hide hnd
  have HO := hide hO2
  clear hps hnd hO2
  have HOC : Hid (∀ i, i < ps.length → (oc (flipZ b (ints (ps.take (i + 1)))) : Int) = (oc (flipZ b (ints (ps.take i))) : Int) + (if bf (cf b) (cf ps i) = 1 then -1 else 1)) := fun i hi => oc_step (unhide HND) (unhide HPS) hi
  have HOL : Hid (∀ l, oc (flipZ b l) ≤ 8 * N) := fun l => by have := oc_le (flipZ b l); rw [flipZ_len, unhide HL] at this; exact this
  have hob : oc b ≤ 8 * N := by have := oc_le b; rw [unhide HL] at this; exact this
  obtain ⟨ob, hobe⟩ : ∃ x, oc b = x := ⟨_, rfl⟩
  have HOB := hide hobe
  rw [hobe] at hob
  clear hobe
  go_wp2_with fail
  go_loopw [6, 7] (fun q p wr => ∃ i : Nat, p = .int .i64 i ∧ i ≤ ps.length ∧ q = .int .i64 ((oc (flipZ b (ints (ps.take i))) : Int) - (ob : Int)) ∧ Below w2.heap.size w2 wr) (fun _ p _ => ps.length - (intOf p).toNat)
  case atStart => exact ⟨0, rfl, by omega, by rw [show oc (flipZ b (ints (ps.take 0))) = ob from unhide HOB]; simp, Below.refl _ _⟩
  case round =>
    obtain ⟨i, rfl, hi, rfl, hK⟩ := hrel
    have HK := hide hK
    have hol := unhide HOL (ints (ps.take i))
    clear hK
    by_cases hlt : i < ps.length
    · have hi1 : (i : Int) < (ps.length : Int) := by omega
      have HST := hide (unhide HOC i hlt)
      have hol2 := unhide HOL (ints (ps.take (i + 1)))
      have hk8 : cf ps i < 8 * N := by have := unhide HPS _ (cf_memb hlt); rw [unhide HL] at this; exact this
      obtain ⟨⟨ao', c', e1, _, _, _, hri⟩, _⟩ := (unhide HZ2).below (unhide HK)
      injection e1 with e1 _ e3
      subst e1
      obtain ⟨o2, rfl⟩ := irow_some hri (by omega)
      have hcp := irow_cell hri (j := i) hlt
      obtain ⟨⟨ao', c', e1, _, _, _, hrb⟩, _⟩ := (unhide HA).below (unhide HK)
      injection e1 with e1 _ e3
      subst e1
      obtain ⟨o3, rfl⟩ := row_some hrb (by rw [unhide HL]; omega)
      have hcb := row_cell hrb (j := cf ps i / 8) (by rw [unhide HL]; omega)
      clear hri hrb
      obtain ⟨k, hk⟩ : ∃ k, cf ps i = k := ⟨_, rfl⟩
      rw [hk] at hcp hcb hk8 HST
      clear hk
      obtain ⟨j, hj⟩ : ∃ j, k / 8 = j := ⟨_, rfl⟩
      obtain ⟨m, hm'⟩ : ∃ m, k % 8 = m := ⟨_, rfl⟩
      have hjN : j < N := by omega
      have hj1 : (j : Int) < (N : Int) := by omega
      have hm8 : m < 8 := by omega
      have q0 : (k : Int) / 8 = (j : Int) := by omega
      have q1 : (k : Int).tdiv 8 = (j : Int) := by rw [Int.tdiv_eq_ediv_of_nonneg (by omega)]; omega
      have q1' : IntKind.i64.wrap (j : Int) = (j : Int) := by rw [IntWalk.i64_in _ ⟨by omega, by omega⟩]
      have q2 : (k : Int).tmod 8 = (m : Int) := by rw [Int.tmod_eq_emod_of_nonneg (by omega)]; omega
      have q2' : (k : Int) % 8 = (m : Int) := by omega
      have q3 : IntKind.u64.wrap (m : Int) = (m : Int) := IntWalk.u64_in _ ⟨by omega, by omega⟩
      have hbf : bf (cf b) k = bt (cf b j) m := by unfold bf; rw [hj, hm']
      rw [hbf] at HST
      rw [hj] at hcb
      have q5 := bit_u8 m (hbb j)
      have hle := bt_le (cf b j) m
      clear hj hm' hbf
      by_cases h1 : bt (cf b j) m = 1
      · rw [h1] at q5
        have q5' : bits .and .u8 (((cf b j : Nat) : Int) / 2 ^ m) 1 = 1 := q5
        rw [if_pos h1] at HST
        clear q5 h1 hle
        go_wp2_with fail
        go_quiet (fail)
        have hk : Below wr.heap.size wr (wr.drewN nq) := below_drewN wr nq
        generalize wr.drewN nq = wq at hk ⊢
        have HK2 := hide ((unhide HK).trans (hk.mono (unhide HK).size))
        clear hk
        go_wp2_with fail
        go_roundw
        case rel => exact ⟨i + 1, by go_num, by omega, by rw [unhide HST]; go_num, unhide HK2⟩
        case measure => simp [intOf]; omega
      · have h0b : bt (cf b j) m = 0 := by omega
        rw [h0b] at q5
        have q5' : bits .and .u8 (((cf b j : Nat) : Int) / 2 ^ m) 1 = 0 := q5
        rw [if_neg h1] at HST
        clear q5 h1 hle h0b
        go_wp2_with fail
        go_quiet (fail)
        have hk : Below wr.heap.size wr (wr.drewN nq) := below_drewN wr nq
        generalize wr.drewN nq = wq at hk ⊢
        have HK2 := hide ((unhide HK).trans (hk.mono (unhide HK).size))
        clear hk
        go_wp2_with fail
        go_roundw
        case rel => exact ⟨i + 1, by go_num, by omega, by rw [unhide HST]; go_num, unhide HK2⟩
        case measure => simp [intOf]; omega
    · have hi2 : i = ps.length := by omega
      subst hi2
      rw [List.take_length] at hol ⊢
      replace HT := hide ((unhide HT).trans ((unhide HK).mono (unhide HT).size))
      replace HA := hide ((unhide HA).below (unhide HK))
      replace HZ2 := hide ((unhide HZ2).below (unhide HK))
      clear HK HOC HOL
      obtain ⟨F, hF0⟩ : ∃ F, flipZ b (ints ps) = F := ⟨_, rfl⟩
      have HFL : Hid (F.length = N) := by show _ = _; rw [← hF0, flipZ_len]; exact unhide HL
      have hfb : Bs F := by rw [← hF0]; exact flipZ_bs hbb _
      have HAF : Hid ((apL b F).length = ps.length) := by show _ = _; rw [← hF0]; exact ap_flip (unhide HND) (unhide HPS)
      have HAZ : Hid ((apL (List.replicate N 0) b).length = ob) := by show _ = _; rw [← unhide HOB, ← ap_zeros, unhide HL]
      have HF0 := hide hF0
      rw [hF0] at hol ⊢
      clear hF0
      obtain ⟨of, hof⟩ : ∃ x, oc F = x := ⟨_, rfl⟩
      have HOF := hide hof
      rw [hof] at hol ⊢
      clear hof
      have hsum : (IntKind.i64.wrap ((ob : Int) + ((of : Int) - (ob : Int)))) = (of : Int) := by rw [IntWalk.i64_in _ ⟨by omega, by omega⟩]; omega
      have hsum2 : (ob : Int) + ((of : Int) - (ob : Int)) = (of : Int) := by omega
      clear HO HND HPS
      have hmkN : ∀ w : World, (Instr.makeSlice 22 (.int .i64 N) (.int .i64 N)).run Try.prog w = .ok (.slice (some ⟨w.heap.size, 0, none⟩) N N) (w.alloc (.cells (List.replicate N (Value.int .u8 0)).toArray 5)) := run_zeros N (by omega)
      have HZN := hide (fun W : World => zeros_arg N (by omega) W)

      obtain ⟨zN, hzN⟩ : ∃ z, (List.replicate N (Value.int .u8 0)).toArray = z := ⟨_, rfl⟩
      rw [hzN] at HZN
      simp only [hzN] at hmkN
      clear hzN
      go_wp2_with fail
      refine (flip6_any _ _ _ _ (b) (ints ps) _ (unhide HA) (unhide HZ2) (by rw [unhide HL]; omega)).mono ?_
      rintro e w11 ⟨v11, rfl, hF, hk⟩
      rw [unhide HF0] at hF
      replace HA := hide ((unhide HA).below hk)
      replace HZ2 := hide ((unhide HZ2).below hk)
      replace HT := hide ((unhide HT).trans (hk.mono (unhide HT).size))
      obtain ⟨g11, hA, hge⟩ := hF.arg hfb
      obtain ⟨⟨ao11, c11, rfl, h1, h2, h3, h4⟩, _⟩ := hA
      have HA11 : Hid (Arg w11 (.slice ao11 N c11) g11 (F)) := ⟨⟨ao11, c11, by rw [(unhide HFL)], h1, h2, h3, h4⟩, hfb⟩
      rw [show (F).length = N from (unhide HFL)]
      clear h1 h2 h3 h4 hF hge
      clear hk
      go_wp2_with fail
      refine (ones6_any _ _ (F) _ (unhide HA11) (by rw [unhide HFL]; omega)).mono ?_
      rintro e w12 ⟨rfl, hk⟩
      replace HA := hide ((unhide HA).below hk)
      replace HZ2 := hide ((unhide HZ2).below hk)
      replace HA11 := hide ((unhide HA11).below hk)
      replace HT := hide ((unhide HT).trans (hk.mono (unhide HT).size))
      clear hk
      rw [show (onF (cf F) F.length).length = of from unhide HOF]
      go_wp2_with fail
      refine (ones6_any _ _ (b) _ (unhide HA) (by rw [unhide HL]; omega)).mono ?_
      rintro e w13 ⟨rfl, hk⟩
      replace HA := hide ((unhide HA).below hk)
      replace HZ2 := hide ((unhide HZ2).below hk)
      replace HA11 := hide ((unhide HA11).below hk)
      replace HT := hide ((unhide HT).trans (hk.mono (unhide HT).size))
      clear hk
      rw [show (onF (cf b) b.length).length = ob from unhide HOB]
      go_wp2_with fail
      refine (apart_any _ _ _ _ (b) (F) _ (unhide HA) (unhide HA11) (fun _ => by rw [unhide HL]; omega)).mono ?_
      rintro e w14 ⟨v14, rfl, hO, hk⟩
      replace HA := hide ((unhide HA).below hk)
      replace HZ2 := hide ((unhide HZ2).below hk)
      replace HA11 := hide ((unhide HA11).below hk)
      replace HT := hide ((unhide HT).trans (hk.mono (unhide HT).size))
      obtain ⟨ao14, c14, g14, rfl, hZ⟩ := hO.za (fun k h => by have := ap_lt h; have := unhide HL; omega)
      rw [show (apL (b) (F)).length = ps.length from unhide HAF] at hZ ⊢
      have HZ14 := hide hZ
      clear hZ hO
      clear hk
      go_wp2_with fail
      have hk : Below w14.heap.size w14 (w14.alloc (.cells zN 5)) := (Below.refl _ _).alloc (Nat.le_refl _) _
      have hA := unhide HZN w14
      generalize w14.alloc (.cells zN 5) = w15 at hk hA  ⊢
      replace HA := hide ((unhide HA).below hk)
      replace HZ2 := hide ((unhide HZ2).below hk)
      replace HA11 := hide ((unhide HA11).below hk)
      replace HZ14 := hide ((unhide HZ14).below hk)
      replace HT := hide ((unhide HT).trans (hk.mono (unhide HT).size))
      have HA15 := hide hA
      clear hA
      clear hk
      refine (apart_any _ _ _ _ (List.replicate N 0) (b) _ (unhide HA15) (unhide HA) (fun _ => by rw [List.length_replicate]; omega)).mono ?_
      rintro e w16 ⟨v16, rfl, hO, hk⟩
      replace HA := hide ((unhide HA).below hk)
      replace HZ2 := hide ((unhide HZ2).below hk)
      replace HA11 := hide ((unhide HA11).below hk)
      replace HZ14 := hide ((unhide HZ14).below hk)
      replace HA15 := hide ((unhide HA15).below hk)
      replace HT := hide ((unhide HT).trans (hk.mono (unhide HT).size))
      obtain ⟨ao16, c16, g16, rfl, hZ⟩ := hO.za (fun k h => by have := ap_lt h; rw [List.length_replicate] at this; omega)
      rw [show (apL (List.replicate N 0) (b)).length = ob from unhide HAZ] at hZ ⊢
      have HZ16 := hide hZ
      clear hZ hO
      clear hk
      go_wp2_with fail
      refine (ones6_any _ _ (b) _ (unhide HA) (by rw [unhide HL]; omega)).mono ?_
      rintro e w17 ⟨rfl, hk⟩
      replace HA := hide ((unhide HA).below hk)
      replace HZ2 := hide ((unhide HZ2).below hk)
      replace HA11 := hide ((unhide HA11).below hk)
      replace HZ14 := hide ((unhide HZ14).below hk)
      replace HA15 := hide ((unhide HA15).below hk)
      replace HZ16 := hide ((unhide HZ16).below hk)
      replace HT := hide ((unhide HT).trans (hk.mono (unhide HT).size))
      clear hk
      rw [show (onF (cf b) b.length).length = ob from unhide HOB]
      go_wp2
      go_ret
      exact ⟨rfl, unhide HT⟩

end Go.Proofs.Ytoljplfijopcmaa
