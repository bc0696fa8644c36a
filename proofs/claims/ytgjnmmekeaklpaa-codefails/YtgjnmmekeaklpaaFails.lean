/-
  The walk of CodeFails.
-/
import Derived.Test.YtgjnmmekeaklpaaRead
namespace Go.Proofs.Ytgjnmmekeaklpaa
open Go.RowKit

theorem was_val (zs : List Int) : (if (0 : Int) = 0 ∧ zs ≠ [] then (4 : Int) else 0) = if zs = [] then 0 else 4 := by
  by_cases h : zs = [] <;> simp [h]

set_option maxHeartbeats 1000000 in
theorem fails_walk (a : Option Addr) (g len cap : Nat) (zs : List Int) (e f : Int) (w : World) (hl : zs.length = len) (hr : Row w a g zs) (hb : Byt zs) :
    Calls Try.prog 6 #[.slice a len cap, .int .i64 e, .int .i64 f] w fun x w' => x = .returned (.bool true) ∧ Below w.heap.size w w' := by
  have HR := hide hr
  have HL := hide hl
  have HB := hide hb
  have hz : len = 0 → zs = [] := fun h => List.eq_nil_of_length_eq_zero (by omega)
  have HZ := hide hz
  clear hr hl hb hz
  have he0 := Int.emod_nonneg e (show (12 : Int) ≠ 0 by omega)
  have he1 := Int.emod_lt_of_pos e (show (0 : Int) < 12 by omega)
  have hf0 := Int.emod_nonneg f (show (12 : Int) ≠ 0 by omega)
  have hf1 := Int.emod_lt_of_pos f (show (0 : Int) < 12 by omega)
  by_cases h50 : 50 < len
  · go_enter Try.func6, Try.ntmps6
    go_wp2_with fail
    refine (known_any w).mono ?_
    rintro x w1 ⟨rfl, hk1⟩
    have HK1 := hide hk1
    clear hk1
    go_wp2
    go_ret
    exact ⟨rfl, (unhide HK1).below⟩
  · go_enter Try.func6, Try.ntmps6
    go_wp2_with fail
    refine (known_any w).mono ?_
    rintro x w1 ⟨rfl, hk1⟩
    have HR1 := hide ((unhide HR).keep hk1 (by simp))
    have HK1 := hide hk1
    clear hk1
    go_wp2_with fail
    refine (within_any e 12 w1 (by omega) (by omega)).mono ?_
    rintro x w1 ⟨rfl, rfl⟩
    go_wp2_with fail
    refine (within_any f 12 _ (by omega) (by omega)).mono ?_
    rintro x w1 ⟨rfl, rfl⟩
    go_wp2_with fail
    refine (new_any a g len cap zs _ (by omega) (unhide HL) (unhide HR1)).mono ?_
    rintro x w2 ⟨R, q, rfl, hR, hq, hr2, hk2⟩
    have HR2 := hide ((unhide HR1).keep hk2 (by simp))
    have HK2 := hide ((unhide HK1).trans hk2 (by simp))
    have HD2 := hide hr2
    clear hr2 hk2 
    go_wp2_with fail
    refine (fail_keep R q zs 0 0 _ (unhide HD2) (.inr rfl)).mono ?_
    rintro x w1 ⟨rfl, rfl⟩
    go_wp2_with fail
    refine (fail_set R q zs (1 + e % 12) _ (unhide HD2) (by omega)).mono ?_
    rintro x w3 ⟨rfl, hr3, hk3⟩
    have hw2 := (unhide HK1).size
    have hgr : g ≠ R ∨ zs = [] := by
      rcases unhide HR1 with h | ⟨o, rfl, hc⟩
      · exact .inr h
      · cases zs with
        | nil => exact .inr rfl
        | cons z r => exact .inl (by have : g < _ := block_lt_of_cell (hc 0 (by simp)); omega)
    have HR3 := hide (show Row w3 a g zs from by
      rcases hgr with h | h
      · exact (unhide HR2).keep hk3 (by simpa using h)
      · exact .inl h)
    have HK3 := hide ((unhide HK2).trans hk3 (by intro x hx; simp at hx; omega))
    have HD3 := hide hr3
    clear hr3 hk3
    go_wp2_with fail
    refine (fail_keep R q [] (1 + e % 12) (1 + f % 12) _ (unhide HD3) (.inl (by omega))).mono ?_
    rintro x w4 ⟨rfl, rfl⟩
    go_wp2_with fail
    refine (new_any a g len cap zs _ (by omega) (unhide HL) (unhide HR3)).mono ?_
    rintro x w5 ⟨R2, q2, rfl, hR2, hq2, hr5, hk5⟩
    have HK5 := hide ((unhide HK3).trans hk5 (by simp))
    have HD5 := hide ((unhide HD3).keep hk5 (by simp) (by simp))
    have HX5 := hide hr5
    clear hr5 hk5
    go_wp2_with fail
    refine (fail_keep R2 q2 zs 0 0 _ (unhide HX5) (.inr rfl)).mono ?_
    rintro x w6 ⟨rfl, rfl⟩
    go_wp2_with fail
    refine (end_any R2 q2 zs 0 _ (unhide HX5)).mono ?_
    rintro x w6 ⟨rfl, rfl⟩
    rw [was_val]
    have hE : ¬ (1 + e % 12 = 0) := by omega
    by_cases h0 : len = 0
    · rw [if_pos (unhide HZ h0)]
      have HE := hide hE
      clear hE
      have h0' : ((len : Int) == 0) = true := by rw [beq_iff_eq]; omega
      go_wp2_with fail
      refine (rint_any R q [] (1 + e % 12) _ (by simp [Byt]) (unhide HD5)).mono ?_
      rintro x w7 ⟨rfl, hr7, hk7⟩
      simp only [rdV, rdZ, rdE, List.length_nil, show ¬ (8 ≤ 0) from by omega, if_false, unhide HE] at hr7 ⊢
      have HK7 := hide ((unhide HK5).trans hk7 (by intro x hx; simp at hx; omega))
      have HD7 := hide hr7
      clear hr7 hk7
      go_wp2_with fail
      refine (rbyte_any R q [] (1 + e % 12) _ (by simp [Byt]) (unhide HD7)).mono ?_
      rintro x w8 ⟨rfl, hr8, hk8⟩
      simp only [rdV, rdZ, rdE, List.length_nil, show ¬ (1 ≤ 0) from by omega, if_false, unhide HE] at hr8 ⊢
      have HK8 := hide ((unhide HK7).trans hk8 (by intro x hx; simp at hx; omega))
      have HD8 := hide hr8
      clear hr8 hk8
      go_wp2_with fail
      refine (end_any R q [] (1 + e % 12) _ (unhide HD8)).mono ?_
      rintro x w9 ⟨rfl, rfl⟩
      rw [if_neg (by simp)]
      go_wp2
      go_ret
      exact ⟨rfl, (unhide HK8).below⟩
    · rw [if_neg (fun hh => h0 (by rw [← unhide HL, hh]; rfl))]
      have HE := hide hE
      clear hE
      have h0' : ((len : Int) == 0) = false := by rw [beq_eq_false_iff_ne]; omega
      have h1' : (0 : Int) < (len : Int) := by omega
      go_wp2_with fail
      refine (rint_any R q [] (1 + e % 12) _ (by simp [Byt]) (unhide HD5)).mono ?_
      rintro x w7 ⟨rfl, hr7, hk7⟩
      simp only [rdV, rdZ, rdE, List.length_nil, show ¬ (8 ≤ 0) from by omega, if_false, unhide HE] at hr7 ⊢
      have HK7 := hide ((unhide HK5).trans hk7 (by intro x hx; simp at hx; omega))
      have HD7 := hide hr7
      clear hr7 hk7
      go_wp2_with fail
      refine (rbyte_any R q [] (1 + e % 12) _ (by simp [Byt]) (unhide HD7)).mono ?_
      rintro x w8 ⟨rfl, hr8, hk8⟩
      simp only [rdV, rdZ, rdE, List.length_nil, show ¬ (1 ≤ 0) from by omega, if_false, unhide HE] at hr8 ⊢
      have HK8 := hide ((unhide HK7).trans hk8 (by intro x hx; simp at hx; omega))
      have HD8 := hide hr8
      clear hr8 hk8
      go_wp2_with fail
      refine (end_any R q [] (1 + e % 12) _ (unhide HD8)).mono ?_
      rintro x w9 ⟨rfl, rfl⟩
      rw [if_neg (by simp)]
      go_wp2
      go_ret
      exact ⟨rfl, (unhide HK8).below⟩

end Go.Proofs.Ytgjnmmekeaklpaa
