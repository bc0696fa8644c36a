/-
  ramekinref5.Fix: the whole.
-/
import Derived.Test.YtjdikhelabibnaaGreatQ5l1
import Derived.Test.YtjdikhelabibnaaGreatQ5l2
import Derived.Test.YtjdikhelabibnaaGreatQ5l3
import Derived.Test.YtjdikhelabibnaaGreatQ5l4
import Derived.Test.YtjdikhelabibnaaGreatQ5l5
namespace Go.Proofs.YtjdikhelabibnaaGreat
open Go.RowKit

theorem zarg_row5 {W : World} {ao : Option Addr} {n c g : Nat} {zs : List Int} (h : ZArg W (.slice ao n c) g zs) : IRow W ao g zs := by
  obtain ⟨ao', c', h1, h2, h3, h4, h5⟩ := h.ex
  cases h1
  exact h5
theorem rarg_row {W : World} {ao : Option Addr} {N c G : Nat} {A : Nat → Option Addr} {C : Nat → Nat} {l : List (List Nat)} (h : RArg W (.slice ao N c) G A C l) (hl : l.length = N) : VRow W ao G A (fun i => (l.getD i []).length) C N := by
  obtain ⟨ao', c', h1, h2, h3, h4, h5⟩ := h.ex
  cases h1
  exact h5

set_option maxRecDepth 1000000 in
set_option maxHeartbeats 16000000 in
theorem rfix_any (v : Value) (G : Nat) (A : Nat → Option Addr) (C : Nat → Nat) (l : List (List Nat)) (vz : Value) (gz : Nat) (zs : List Int) (w : World) (hA : RArg w v G A C l) (hZ : ZArg w vz gz zs) (hlen : ∀ i, (l.getD i []).length ≤ 100000) :
    Calls Tryz.prog 39 #[v, vz] w fun e w' => Below w.heap.size w w' ∧ ((fixOk l zs = true ∧ ∃ v' G' A' C' out n, e = .returned (.tuple #[v', .bool true]) ∧ RArg w' v' G' A' C' out ∧ IsFix l zs out n) ∨ (fixOk l zs = false ∧ e = .returned (.tuple #[.slice none 0 0, .bool false]))) := by
  obtain ⟨ao, c, hv, hc1, hc2, hnil, hrow⟩ := hA.ex
  obtain ⟨za, zc, hvz, _, hzc2, _, hzr⟩ := hZ.ex
  have HA := hide hA
  have HZ := hide hZ
  have HLEN := hide hlen
  clear hrow hlen hA hnil hZ
  subst hv
  subst hvz
  obtain ⟨N, hN⟩ : ∃ N, l.length = N := ⟨_, rfl⟩
  obtain ⟨zl, hzl⟩ : ∃ zl, zs.length = zl := ⟨_, rfl⟩
  rw [hN] at hc1 HA ⊢
  rw [hzl] at HZ ⊢
  have HN := hide hN
  have HZL := hide hzl
  clear hN hzl hzc2
  have hNm : (N : Int) ≤ 9223372036854775807 := by unfold maxLen at hc2; omega
  clear hc1 hc2
  have HOKe : Hid (fixOk l zs = (pk zs N && decide (4 ≤ N) && decide (N ≤ 16) && evK l zs)) := by show _ = _; unfold fixOk; rw [unhide HN]
  by_cases hN4 : 4 ≤ N
  rotate_left 1
  · have hN4' : (N : Int) < 4 := by omega
    have hq1 : decide ((N : Int) < 4) = true := decide_eq_true hN4'
    clear hzr
    go_enter Tryz.func39, Tryz.ntmps39
    have HNO : Hid (fixOk l zs = false) := by show _ = _; rw [unhide HOKe]; simp [hN4]
    go_wp2_with fail
    refine wp_region_noPanic ?_
    refine wp_region_held_drew (S := fun W => Kp [] w W) (by kernel_rfl) ((Kp.refl _ _).drew) (fun hHeld => ?_)
    have HH := hide hHeld
    clear hHeld
    refine takeL (i := 0) (v := ?_) rfl (by kernel_rfl) (by kernel_rfl) (by kernel_rfl) (fun _ _ _ h => h) (Or.inl ⟨by rfl, ?_⟩) (unhide HH) ?_
    rotate_left 1
    · intro W hSW; go_simp; all_goals (with_reducible rfl)
    (try simp only [Act.put, List.setIfInBounds_toArray, List.set_cons_zero, List.set_cons_succ])
    refine takeL (i := 1) (v := ?_) rfl (by kernel_rfl) (by kernel_rfl) (by kernel_rfl) (fun _ _ _ h => h) (Or.inl ⟨by rfl, ?_⟩) (unhide HH) ?_
    rotate_left 1
    · intro W hSW; go_simp; all_goals (with_reducible rfl)
    (try simp only [Act.put, List.setIfInBounds_toArray, List.set_cons_zero, List.set_cons_succ])
    refine takeL (i := 2) (v := ?_) rfl (by kernel_rfl) (by kernel_rfl) (by kernel_rfl) (fun _ _ _ h => h) (Or.inl ⟨by rfl, ?_⟩) (unhide HH) ?_
    rotate_left 1
    · intro W hSW; go_simp; all_goals (with_reducible rfl)
    (try simp only [Act.put, List.setIfInBounds_toArray, List.set_cons_zero, List.set_cons_succ])
    refine takeL (i := 3) (v := ?_) rfl (by kernel_rfl) (by kernel_rfl) (by kernel_rfl) (fun _ _ _ h => h) (Or.inl ⟨by rfl, ?_⟩) (unhide HH) ?_
    rotate_left 1
    · intro W hSW; go_simp; all_goals (with_reducible rfl)
    (try simp only [Act.put, List.setIfInBounds_toArray, List.set_cons_zero, List.set_cons_succ])
    refine takeL (i := 4) (v := undef) rfl (by kernel_rfl) (by kernel_rfl) (by kernel_rfl) (fun _ _ _ h => h) (Or.inr ⟨by rfl, rfl⟩) (unhide HH) ?_
    (try simp only [Act.put, List.setIfInBounds_toArray, List.set_cons_zero, List.set_cons_succ])
    refine takeL (i := 5) (v := undef) rfl (by kernel_rfl) (by kernel_rfl) (by kernel_rfl) (fun _ _ _ h => h) (Or.inr ⟨by rfl, rfl⟩) (unhide HH) ?_
    (try simp only [Act.put, List.setIfInBounds_toArray, List.set_cons_zero, List.set_cons_succ])
    refine takeL (i := 6) (v := undef) rfl (by kernel_rfl) (by kernel_rfl) (by kernel_rfl) (fun _ _ _ h => h) (Or.inr ⟨by rfl, rfl⟩) (unhide HH) ?_
    (try simp only [Act.put, List.setIfInBounds_toArray, List.set_cons_zero, List.set_cons_succ])
    refine takeL (i := 7) (v := ?_) rfl (by kernel_rfl) (by kernel_rfl) (by kernel_rfl) (fun _ _ _ h => h) (Or.inl ⟨by rfl, ?_⟩) (unhide HH) ?_
    rotate_left 1
    · intro W hSW; go_simp; all_goals (with_reducible rfl)
    (try simp only [Act.put, List.setIfInBounds_toArray, List.set_cons_zero, List.set_cons_succ])
    refine takeL (i := 8) (v := ?_) rfl (by kernel_rfl) (by kernel_rfl) (by kernel_rfl) (fun _ _ _ h => h) (Or.inl ⟨by rfl, ?_⟩) (unhide HH) ?_
    rotate_left 1
    · intro W hSW; go_simp; all_goals (with_reducible rfl)
    (try simp only [Act.put, List.setIfInBounds_toArray, List.set_cons_zero, List.set_cons_succ])
    refine takeL (i := 9) (v := undef) rfl (by kernel_rfl) (by kernel_rfl) (by kernel_rfl) (fun _ _ _ h => h) (Or.inr ⟨by rfl, rfl⟩) (unhide HH) ?_
    (try simp only [Act.put, List.setIfInBounds_toArray, List.set_cons_zero, List.set_cons_succ])
    refine takeL (i := 10) (v := undef) rfl (by kernel_rfl) (by kernel_rfl) (by kernel_rfl) (fun _ _ _ h => h) (Or.inr ⟨by rfl, rfl⟩) (unhide HH) ?_
    (try simp only [Act.put, List.setIfInBounds_toArray, List.set_cons_zero, List.set_cons_succ])
    refine takeL (i := 11) (v := undef) rfl (by kernel_rfl) (by kernel_rfl) (by kernel_rfl) (fun _ _ _ h => h) (Or.inr ⟨by rfl, rfl⟩) (unhide HH) ?_
    (try simp only [Act.put, List.setIfInBounds_toArray, List.set_cons_zero, List.set_cons_succ])
    refine takeL (i := 12) (v := ?_) rfl (by kernel_rfl) (by kernel_rfl) (by kernel_rfl) (fun _ _ _ h => h) (Or.inl ⟨by rfl, ?_⟩) (unhide HH) ?_
    rotate_left 1
    · intro W hSW; go_simp; all_goals (with_reducible rfl)
    (try simp only [Act.put, List.setIfInBounds_toArray, List.set_cons_zero, List.set_cons_succ])
    refine takeL (i := 13) (v := ?_) rfl (by kernel_rfl) (by kernel_rfl) (by kernel_rfl) (fun _ _ _ h => h) (Or.inl ⟨by rfl, ?_⟩) (unhide HH) ?_
    rotate_left 1
    · intro W hSW; go_simp; all_goals (with_reducible rfl)
    (try simp only [Act.put, List.setIfInBounds_toArray, List.set_cons_zero, List.set_cons_succ])
    refine takeL (i := 14) (v := undef) rfl (by kernel_rfl) (by kernel_rfl) (by kernel_rfl) (fun _ _ _ h => h) (Or.inr ⟨by rfl, rfl⟩) (unhide HH) ?_
    (try simp only [Act.put, List.setIfInBounds_toArray, List.set_cons_zero, List.set_cons_succ])
    refine takeL (i := 15) (v := undef) rfl (by kernel_rfl) (by kernel_rfl) (by kernel_rfl) (fun _ _ _ h => h) (Or.inr ⟨by rfl, rfl⟩) (unhide HH) ?_
    (try simp only [Act.put, List.setIfInBounds_toArray, List.set_cons_zero, List.set_cons_succ])
    refine takeL (i := 16) (v := undef) rfl (by kernel_rfl) (by kernel_rfl) (by kernel_rfl) (fun _ _ _ h => h) (Or.inr ⟨by rfl, rfl⟩) (unhide HH) ?_
    (try simp only [Act.put, List.setIfInBounds_toArray, List.set_cons_zero, List.set_cons_succ])
    refine takeL (i := 17) (v := undef) rfl (by kernel_rfl) (by kernel_rfl) (by kernel_rfl) (fun _ _ _ h => h) (Or.inr ⟨by rfl, rfl⟩) (unhide HH) ?_
    (try simp only [Act.put, List.setIfInBounds_toArray, List.set_cons_zero, List.set_cons_succ])
    refine takeL (i := 18) (v := undef) rfl (by kernel_rfl) (by kernel_rfl) (by kernel_rfl) (fun _ _ _ h => h) (Or.inr ⟨by rfl, rfl⟩) (unhide HH) ?_
    (try simp only [Act.put, List.setIfInBounds_toArray, List.set_cons_zero, List.set_cons_succ])
    refine takeL (i := 19) (v := undef) rfl (by kernel_rfl) (by kernel_rfl) (by kernel_rfl) (fun _ _ _ h => h) (Or.inr ⟨by rfl, rfl⟩) (unhide HH) ?_
    (try simp only [Act.put, List.setIfInBounds_toArray, List.set_cons_zero, List.set_cons_succ])
    refine takeL (i := 20) (v := undef) rfl (by kernel_rfl) (by kernel_rfl) (by kernel_rfl) (fun _ _ _ h => h) (Or.inr ⟨by rfl, rfl⟩) (unhide HH) ?_
    (try simp only [Act.put, List.setIfInBounds_toArray, List.set_cons_zero, List.set_cons_succ])
    refine takeL (i := 21) (v := undef) rfl (by kernel_rfl) (by kernel_rfl) (by kernel_rfl) (fun _ _ _ h => h) (Or.inr ⟨by rfl, rfl⟩) (unhide HH) ?_
    (try simp only [Act.put, List.setIfInBounds_toArray, List.set_cons_zero, List.set_cons_succ])
    refine takeL (i := 22) (v := undef) rfl (by kernel_rfl) (by kernel_rfl) (by kernel_rfl) (fun _ _ _ h => h) (Or.inr ⟨by rfl, rfl⟩) (unhide HH) ?_
    (try simp only [Act.put, List.setIfInBounds_toArray, List.set_cons_zero, List.set_cons_succ])
    refine takeL (i := 23) (v := undef) rfl (by kernel_rfl) (by kernel_rfl) (by kernel_rfl) (fun _ _ _ h => h) (Or.inr ⟨by rfl, rfl⟩) (unhide HH) ?_
    (try simp only [Act.put, List.setIfInBounds_toArray, List.set_cons_zero, List.set_cons_succ])
    refine takeL (i := 24) (v := undef) rfl (by kernel_rfl) (by kernel_rfl) (by kernel_rfl) (fun _ _ _ h => h) (Or.inr ⟨by rfl, rfl⟩) (unhide HH) ?_
    (try simp only [Act.put, List.setIfInBounds_toArray, List.set_cons_zero, List.set_cons_succ])
    refine takeL (i := 25) (v := undef) rfl (by kernel_rfl) (by kernel_rfl) (by kernel_rfl) (fun _ _ _ h => h) (Or.inr ⟨by rfl, rfl⟩) (unhide HH) ?_
    (try simp only [Act.put, List.setIfInBounds_toArray, List.set_cons_zero, List.set_cons_succ])
    refine takeL (i := 26) (v := ?_) rfl (by kernel_rfl) (by kernel_rfl) (by kernel_rfl) (fun _ _ _ h => h) (Or.inl ⟨by rfl, ?_⟩) (unhide HH) ?_
    rotate_left 1
    · intro W hSW; go_simp; all_goals (with_reducible rfl)
    (try simp only [Act.put, List.setIfInBounds_toArray, List.set_cons_zero, List.set_cons_succ])
    refine wpAnyH_done (by kernel_rfl) ?_ _
    refine NoPanic.normal ?_
    go_wp2_with fail
    go_returns
    exact ⟨(⟨rfl, rfl, rfl, Nat.le_refl _, fun _ _ => rfl⟩ : Below w.heap.size w w.drew), .inr ⟨unhide HNO, rfl⟩⟩
  have hN4' : (4 : Int) ≤ (N : Int) := by omega
  have hq1 : decide ((N : Int) < 4) = false := decide_eq_false (by omega)
  by_cases hN16 : N ≤ 16
  rotate_left 1
  · have hN16' : (16 : Int) < (N : Int) := by omega
    have hq2 : decide ((16 : Int) < (N : Int)) = true := decide_eq_true hN16'
    clear hzr
    go_enter Tryz.func39, Tryz.ntmps39
    have HNO : Hid (fixOk l zs = false) := by show _ = _; rw [unhide HOKe]; simp [hN16]
    go_wp2_with fail
    refine wp_region_noPanic ?_
    refine wp_region_held_drew (S := fun W => Kp [] w W) (by kernel_rfl) ((Kp.refl _ _).drew) (fun hHeld => ?_)
    have HH := hide hHeld
    clear hHeld
    refine takeL (i := 0) (v := ?_) rfl (by kernel_rfl) (by kernel_rfl) (by kernel_rfl) (fun _ _ _ h => h) (Or.inl ⟨by rfl, ?_⟩) (unhide HH) ?_
    rotate_left 1
    · intro W hSW; go_simp; all_goals (with_reducible rfl)
    (try simp only [Act.put, List.setIfInBounds_toArray, List.set_cons_zero, List.set_cons_succ])
    refine takeL (i := 1) (v := ?_) rfl (by kernel_rfl) (by kernel_rfl) (by kernel_rfl) (fun _ _ _ h => h) (Or.inl ⟨by rfl, ?_⟩) (unhide HH) ?_
    rotate_left 1
    · intro W hSW; go_simp; all_goals (with_reducible rfl)
    (try simp only [Act.put, List.setIfInBounds_toArray, List.set_cons_zero, List.set_cons_succ])
    refine takeL (i := 2) (v := ?_) rfl (by kernel_rfl) (by kernel_rfl) (by kernel_rfl) (fun _ _ _ h => h) (Or.inl ⟨by rfl, ?_⟩) (unhide HH) ?_
    rotate_left 1
    · intro W hSW; go_simp; all_goals (with_reducible rfl)
    (try simp only [Act.put, List.setIfInBounds_toArray, List.set_cons_zero, List.set_cons_succ])
    refine takeL (i := 3) (v := ?_) rfl (by kernel_rfl) (by kernel_rfl) (by kernel_rfl) (fun _ _ _ h => h) (Or.inl ⟨by rfl, ?_⟩) (unhide HH) ?_
    rotate_left 1
    · intro W hSW; go_simp; all_goals (with_reducible rfl)
    (try simp only [Act.put, List.setIfInBounds_toArray, List.set_cons_zero, List.set_cons_succ])
    refine takeL (i := 4) (v := ?_) rfl (by kernel_rfl) (by kernel_rfl) (by kernel_rfl) (fun _ _ _ h => h) (Or.inl ⟨by rfl, ?_⟩) (unhide HH) ?_
    rotate_left 1
    · intro W hSW; go_simp; all_goals (with_reducible rfl)
    (try simp only [Act.put, List.setIfInBounds_toArray, List.set_cons_zero, List.set_cons_succ])
    refine takeL (i := 5) (v := ?_) rfl (by kernel_rfl) (by kernel_rfl) (by kernel_rfl) (fun _ _ _ h => h) (Or.inl ⟨by rfl, ?_⟩) (unhide HH) ?_
    rotate_left 1
    · intro W hSW; go_simp; all_goals (with_reducible rfl)
    (try simp only [Act.put, List.setIfInBounds_toArray, List.set_cons_zero, List.set_cons_succ])
    refine takeL (i := 6) (v := ?_) rfl (by kernel_rfl) (by kernel_rfl) (by kernel_rfl) (fun _ _ _ h => h) (Or.inl ⟨by rfl, ?_⟩) (unhide HH) ?_
    rotate_left 1
    · intro W hSW; go_simp; all_goals (with_reducible rfl)
    (try simp only [Act.put, List.setIfInBounds_toArray, List.set_cons_zero, List.set_cons_succ])
    refine takeL (i := 7) (v := ?_) rfl (by kernel_rfl) (by kernel_rfl) (by kernel_rfl) (fun _ _ _ h => h) (Or.inl ⟨by rfl, ?_⟩) (unhide HH) ?_
    rotate_left 1
    · intro W hSW; go_simp; all_goals (with_reducible rfl)
    (try simp only [Act.put, List.setIfInBounds_toArray, List.set_cons_zero, List.set_cons_succ])
    refine takeL (i := 8) (v := ?_) rfl (by kernel_rfl) (by kernel_rfl) (by kernel_rfl) (fun _ _ _ h => h) (Or.inl ⟨by rfl, ?_⟩) (unhide HH) ?_
    rotate_left 1
    · intro W hSW; go_simp; all_goals (with_reducible rfl)
    (try simp only [Act.put, List.setIfInBounds_toArray, List.set_cons_zero, List.set_cons_succ])
    refine takeL (i := 9) (v := undef) rfl (by kernel_rfl) (by kernel_rfl) (by kernel_rfl) (fun _ _ _ h => h) (Or.inr ⟨by rfl, rfl⟩) (unhide HH) ?_
    (try simp only [Act.put, List.setIfInBounds_toArray, List.set_cons_zero, List.set_cons_succ])
    refine takeL (i := 10) (v := undef) rfl (by kernel_rfl) (by kernel_rfl) (by kernel_rfl) (fun _ _ _ h => h) (Or.inr ⟨by rfl, rfl⟩) (unhide HH) ?_
    (try simp only [Act.put, List.setIfInBounds_toArray, List.set_cons_zero, List.set_cons_succ])
    refine takeL (i := 11) (v := undef) rfl (by kernel_rfl) (by kernel_rfl) (by kernel_rfl) (fun _ _ _ h => h) (Or.inr ⟨by rfl, rfl⟩) (unhide HH) ?_
    (try simp only [Act.put, List.setIfInBounds_toArray, List.set_cons_zero, List.set_cons_succ])
    refine takeL (i := 12) (v := ?_) rfl (by kernel_rfl) (by kernel_rfl) (by kernel_rfl) (fun _ _ _ h => h) (Or.inl ⟨by rfl, ?_⟩) (unhide HH) ?_
    rotate_left 1
    · intro W hSW; go_simp; all_goals (with_reducible rfl)
    (try simp only [Act.put, List.setIfInBounds_toArray, List.set_cons_zero, List.set_cons_succ])
    refine takeL (i := 13) (v := ?_) rfl (by kernel_rfl) (by kernel_rfl) (by kernel_rfl) (fun _ _ _ h => h) (Or.inl ⟨by rfl, ?_⟩) (unhide HH) ?_
    rotate_left 1
    · intro W hSW; go_simp; all_goals (with_reducible rfl)
    (try simp only [Act.put, List.setIfInBounds_toArray, List.set_cons_zero, List.set_cons_succ])
    refine takeL (i := 14) (v := undef) rfl (by kernel_rfl) (by kernel_rfl) (by kernel_rfl) (fun _ _ _ h => h) (Or.inr ⟨by rfl, rfl⟩) (unhide HH) ?_
    (try simp only [Act.put, List.setIfInBounds_toArray, List.set_cons_zero, List.set_cons_succ])
    refine takeL (i := 15) (v := undef) rfl (by kernel_rfl) (by kernel_rfl) (by kernel_rfl) (fun _ _ _ h => h) (Or.inr ⟨by rfl, rfl⟩) (unhide HH) ?_
    (try simp only [Act.put, List.setIfInBounds_toArray, List.set_cons_zero, List.set_cons_succ])
    refine takeL (i := 16) (v := undef) rfl (by kernel_rfl) (by kernel_rfl) (by kernel_rfl) (fun _ _ _ h => h) (Or.inr ⟨by rfl, rfl⟩) (unhide HH) ?_
    (try simp only [Act.put, List.setIfInBounds_toArray, List.set_cons_zero, List.set_cons_succ])
    refine takeL (i := 17) (v := undef) rfl (by kernel_rfl) (by kernel_rfl) (by kernel_rfl) (fun _ _ _ h => h) (Or.inr ⟨by rfl, rfl⟩) (unhide HH) ?_
    (try simp only [Act.put, List.setIfInBounds_toArray, List.set_cons_zero, List.set_cons_succ])
    refine takeL (i := 18) (v := undef) rfl (by kernel_rfl) (by kernel_rfl) (by kernel_rfl) (fun _ _ _ h => h) (Or.inr ⟨by rfl, rfl⟩) (unhide HH) ?_
    (try simp only [Act.put, List.setIfInBounds_toArray, List.set_cons_zero, List.set_cons_succ])
    refine takeL (i := 19) (v := undef) rfl (by kernel_rfl) (by kernel_rfl) (by kernel_rfl) (fun _ _ _ h => h) (Or.inr ⟨by rfl, rfl⟩) (unhide HH) ?_
    (try simp only [Act.put, List.setIfInBounds_toArray, List.set_cons_zero, List.set_cons_succ])
    refine takeL (i := 20) (v := undef) rfl (by kernel_rfl) (by kernel_rfl) (by kernel_rfl) (fun _ _ _ h => h) (Or.inr ⟨by rfl, rfl⟩) (unhide HH) ?_
    (try simp only [Act.put, List.setIfInBounds_toArray, List.set_cons_zero, List.set_cons_succ])
    refine takeL (i := 21) (v := undef) rfl (by kernel_rfl) (by kernel_rfl) (by kernel_rfl) (fun _ _ _ h => h) (Or.inr ⟨by rfl, rfl⟩) (unhide HH) ?_
    (try simp only [Act.put, List.setIfInBounds_toArray, List.set_cons_zero, List.set_cons_succ])
    refine takeL (i := 22) (v := undef) rfl (by kernel_rfl) (by kernel_rfl) (by kernel_rfl) (fun _ _ _ h => h) (Or.inr ⟨by rfl, rfl⟩) (unhide HH) ?_
    (try simp only [Act.put, List.setIfInBounds_toArray, List.set_cons_zero, List.set_cons_succ])
    refine takeL (i := 23) (v := undef) rfl (by kernel_rfl) (by kernel_rfl) (by kernel_rfl) (fun _ _ _ h => h) (Or.inr ⟨by rfl, rfl⟩) (unhide HH) ?_
    (try simp only [Act.put, List.setIfInBounds_toArray, List.set_cons_zero, List.set_cons_succ])
    refine takeL (i := 24) (v := undef) rfl (by kernel_rfl) (by kernel_rfl) (by kernel_rfl) (fun _ _ _ h => h) (Or.inr ⟨by rfl, rfl⟩) (unhide HH) ?_
    (try simp only [Act.put, List.setIfInBounds_toArray, List.set_cons_zero, List.set_cons_succ])
    refine takeL (i := 25) (v := undef) rfl (by kernel_rfl) (by kernel_rfl) (by kernel_rfl) (fun _ _ _ h => h) (Or.inr ⟨by rfl, rfl⟩) (unhide HH) ?_
    (try simp only [Act.put, List.setIfInBounds_toArray, List.set_cons_zero, List.set_cons_succ])
    refine takeL (i := 26) (v := ?_) rfl (by kernel_rfl) (by kernel_rfl) (by kernel_rfl) (fun _ _ _ h => h) (Or.inl ⟨by rfl, ?_⟩) (unhide HH) ?_
    rotate_left 1
    · intro W hSW; go_simp; all_goals (with_reducible rfl)
    (try simp only [Act.put, List.setIfInBounds_toArray, List.set_cons_zero, List.set_cons_succ])
    refine wpAnyH_done (by kernel_rfl) ?_ _
    refine NoPanic.normal ?_
    go_wp2_with fail
    go_returns
    exact ⟨(⟨rfl, rfl, rfl, Nat.le_refl _, fun _ _ => rfl⟩ : Below w.heap.size w w.drew), .inr ⟨unhide HNO, rfl⟩⟩
  have hN16' : (N : Int) ≤ 16 := by omega
  have hq2 : decide ((16 : Int) < (N : Int)) = false := decide_eq_false (by omega)
  by_cases hz2 : zl ≤ 2
  rotate_left 1
  · have hz2' : (2 : Int) < (zl : Int) := by omega
    have hq3 : decide ((2 : Int) < (zl : Int)) = true := decide_eq_true hz2'
    clear hzr
    go_enter Tryz.func39, Tryz.ntmps39
    have HNO : Hid (fixOk l zs = false) := by show _ = _; rw [unhide HOKe]; rw [pk_not (fun h => hz2 (by rw [← unhide HZL]; exact h.1))]; rfl
    go_wp2_with fail
    refine wp_region_noPanic ?_
    refine wp_region_held_drew (S := fun W => Kp [] w W) (by kernel_rfl) ((Kp.refl _ _).drew) (fun hHeld => ?_)
    have HH := hide hHeld
    clear hHeld
    refine takeL (i := 0) (v := ?_) rfl (by kernel_rfl) (by kernel_rfl) (by kernel_rfl) (fun _ _ _ h => h) (Or.inl ⟨by rfl, ?_⟩) (unhide HH) ?_
    rotate_left 1
    · intro W hSW; go_simp; all_goals (with_reducible rfl)
    (try simp only [Act.put, List.setIfInBounds_toArray, List.set_cons_zero, List.set_cons_succ])
    refine takeL (i := 1) (v := ?_) rfl (by kernel_rfl) (by kernel_rfl) (by kernel_rfl) (fun _ _ _ h => h) (Or.inl ⟨by rfl, ?_⟩) (unhide HH) ?_
    rotate_left 1
    · intro W hSW; go_simp; all_goals (with_reducible rfl)
    (try simp only [Act.put, List.setIfInBounds_toArray, List.set_cons_zero, List.set_cons_succ])
    refine takeL (i := 2) (v := ?_) rfl (by kernel_rfl) (by kernel_rfl) (by kernel_rfl) (fun _ _ _ h => h) (Or.inl ⟨by rfl, ?_⟩) (unhide HH) ?_
    rotate_left 1
    · intro W hSW; go_simp; all_goals (with_reducible rfl)
    (try simp only [Act.put, List.setIfInBounds_toArray, List.set_cons_zero, List.set_cons_succ])
    refine takeL (i := 3) (v := ?_) rfl (by kernel_rfl) (by kernel_rfl) (by kernel_rfl) (fun _ _ _ h => h) (Or.inl ⟨by rfl, ?_⟩) (unhide HH) ?_
    rotate_left 1
    · intro W hSW; go_simp; all_goals (with_reducible rfl)
    (try simp only [Act.put, List.setIfInBounds_toArray, List.set_cons_zero, List.set_cons_succ])
    refine takeL (i := 4) (v := ?_) rfl (by kernel_rfl) (by kernel_rfl) (by kernel_rfl) (fun _ _ _ h => h) (Or.inl ⟨by rfl, ?_⟩) (unhide HH) ?_
    rotate_left 1
    · intro W hSW; go_simp; all_goals (with_reducible rfl)
    (try simp only [Act.put, List.setIfInBounds_toArray, List.set_cons_zero, List.set_cons_succ])
    refine takeL (i := 5) (v := ?_) rfl (by kernel_rfl) (by kernel_rfl) (by kernel_rfl) (fun _ _ _ h => h) (Or.inl ⟨by rfl, ?_⟩) (unhide HH) ?_
    rotate_left 1
    · intro W hSW; go_simp; all_goals (with_reducible rfl)
    (try simp only [Act.put, List.setIfInBounds_toArray, List.set_cons_zero, List.set_cons_succ])
    refine takeL (i := 6) (v := ?_) rfl (by kernel_rfl) (by kernel_rfl) (by kernel_rfl) (fun _ _ _ h => h) (Or.inl ⟨by rfl, ?_⟩) (unhide HH) ?_
    rotate_left 1
    · intro W hSW; go_simp; all_goals (with_reducible rfl)
    (try simp only [Act.put, List.setIfInBounds_toArray, List.set_cons_zero, List.set_cons_succ])
    refine takeL (i := 7) (v := ?_) rfl (by kernel_rfl) (by kernel_rfl) (by kernel_rfl) (fun _ _ _ h => h) (Or.inl ⟨by rfl, ?_⟩) (unhide HH) ?_
    rotate_left 1
    · intro W hSW; go_simp; all_goals (with_reducible rfl)
    (try simp only [Act.put, List.setIfInBounds_toArray, List.set_cons_zero, List.set_cons_succ])
    refine takeL (i := 8) (v := ?_) rfl (by kernel_rfl) (by kernel_rfl) (by kernel_rfl) (fun _ _ _ h => h) (Or.inl ⟨by rfl, ?_⟩) (unhide HH) ?_
    rotate_left 1
    · intro W hSW; go_simp; all_goals (with_reducible rfl)
    (try simp only [Act.put, List.setIfInBounds_toArray, List.set_cons_zero, List.set_cons_succ])
    refine takeL (i := 9) (v := ?_) rfl (by kernel_rfl) (by kernel_rfl) (by kernel_rfl) (fun _ _ _ h => h) (Or.inl ⟨by rfl, ?_⟩) (unhide HH) ?_
    rotate_left 1
    · intro W hSW; go_simp; all_goals (with_reducible rfl)
    (try simp only [Act.put, List.setIfInBounds_toArray, List.set_cons_zero, List.set_cons_succ])
    refine takeL (i := 10) (v := ?_) rfl (by kernel_rfl) (by kernel_rfl) (by kernel_rfl) (fun _ _ _ h => h) (Or.inl ⟨by rfl, ?_⟩) (unhide HH) ?_
    rotate_left 1
    · intro W hSW; go_simp; all_goals (with_reducible rfl)
    (try simp only [Act.put, List.setIfInBounds_toArray, List.set_cons_zero, List.set_cons_succ])
    refine takeL (i := 11) (v := ?_) rfl (by kernel_rfl) (by kernel_rfl) (by kernel_rfl) (fun _ _ _ h => h) (Or.inl ⟨by rfl, ?_⟩) (unhide HH) ?_
    rotate_left 1
    · intro W hSW; go_simp; all_goals (with_reducible rfl)
    (try simp only [Act.put, List.setIfInBounds_toArray, List.set_cons_zero, List.set_cons_succ])
    refine takeL (i := 12) (v := ?_) rfl (by kernel_rfl) (by kernel_rfl) (by kernel_rfl) (fun _ _ _ h => h) (Or.inl ⟨by rfl, ?_⟩) (unhide HH) ?_
    rotate_left 1
    · intro W hSW; go_simp; all_goals (with_reducible rfl)
    (try simp only [Act.put, List.setIfInBounds_toArray, List.set_cons_zero, List.set_cons_succ])
    refine takeL (i := 13) (v := ?_) rfl (by kernel_rfl) (by kernel_rfl) (by kernel_rfl) (fun _ _ _ h => h) (Or.inl ⟨by rfl, ?_⟩) (unhide HH) ?_
    rotate_left 1
    · intro W hSW; go_simp; all_goals (with_reducible rfl)
    (try simp only [Act.put, List.setIfInBounds_toArray, List.set_cons_zero, List.set_cons_succ])
    refine takeL (i := 14) (v := undef) rfl (by kernel_rfl) (by kernel_rfl) (by kernel_rfl) (fun _ _ _ h => h) (Or.inr ⟨by rfl, rfl⟩) (unhide HH) ?_
    (try simp only [Act.put, List.setIfInBounds_toArray, List.set_cons_zero, List.set_cons_succ])
    refine takeL (i := 15) (v := undef) rfl (by kernel_rfl) (by kernel_rfl) (by kernel_rfl) (fun _ _ _ h => h) (Or.inr ⟨by rfl, rfl⟩) (unhide HH) ?_
    (try simp only [Act.put, List.setIfInBounds_toArray, List.set_cons_zero, List.set_cons_succ])
    refine takeL (i := 16) (v := undef) rfl (by kernel_rfl) (by kernel_rfl) (by kernel_rfl) (fun _ _ _ h => h) (Or.inr ⟨by rfl, rfl⟩) (unhide HH) ?_
    (try simp only [Act.put, List.setIfInBounds_toArray, List.set_cons_zero, List.set_cons_succ])
    refine takeL (i := 17) (v := undef) rfl (by kernel_rfl) (by kernel_rfl) (by kernel_rfl) (fun _ _ _ h => h) (Or.inr ⟨by rfl, rfl⟩) (unhide HH) ?_
    (try simp only [Act.put, List.setIfInBounds_toArray, List.set_cons_zero, List.set_cons_succ])
    refine takeL (i := 18) (v := undef) rfl (by kernel_rfl) (by kernel_rfl) (by kernel_rfl) (fun _ _ _ h => h) (Or.inr ⟨by rfl, rfl⟩) (unhide HH) ?_
    (try simp only [Act.put, List.setIfInBounds_toArray, List.set_cons_zero, List.set_cons_succ])
    refine takeL (i := 19) (v := undef) rfl (by kernel_rfl) (by kernel_rfl) (by kernel_rfl) (fun _ _ _ h => h) (Or.inr ⟨by rfl, rfl⟩) (unhide HH) ?_
    (try simp only [Act.put, List.setIfInBounds_toArray, List.set_cons_zero, List.set_cons_succ])
    refine takeL (i := 20) (v := undef) rfl (by kernel_rfl) (by kernel_rfl) (by kernel_rfl) (fun _ _ _ h => h) (Or.inr ⟨by rfl, rfl⟩) (unhide HH) ?_
    (try simp only [Act.put, List.setIfInBounds_toArray, List.set_cons_zero, List.set_cons_succ])
    refine takeL (i := 21) (v := undef) rfl (by kernel_rfl) (by kernel_rfl) (by kernel_rfl) (fun _ _ _ h => h) (Or.inr ⟨by rfl, rfl⟩) (unhide HH) ?_
    (try simp only [Act.put, List.setIfInBounds_toArray, List.set_cons_zero, List.set_cons_succ])
    refine takeL (i := 22) (v := undef) rfl (by kernel_rfl) (by kernel_rfl) (by kernel_rfl) (fun _ _ _ h => h) (Or.inr ⟨by rfl, rfl⟩) (unhide HH) ?_
    (try simp only [Act.put, List.setIfInBounds_toArray, List.set_cons_zero, List.set_cons_succ])
    refine takeL (i := 23) (v := undef) rfl (by kernel_rfl) (by kernel_rfl) (by kernel_rfl) (fun _ _ _ h => h) (Or.inr ⟨by rfl, rfl⟩) (unhide HH) ?_
    (try simp only [Act.put, List.setIfInBounds_toArray, List.set_cons_zero, List.set_cons_succ])
    refine takeL (i := 24) (v := undef) rfl (by kernel_rfl) (by kernel_rfl) (by kernel_rfl) (fun _ _ _ h => h) (Or.inr ⟨by rfl, rfl⟩) (unhide HH) ?_
    (try simp only [Act.put, List.setIfInBounds_toArray, List.set_cons_zero, List.set_cons_succ])
    refine takeL (i := 25) (v := undef) rfl (by kernel_rfl) (by kernel_rfl) (by kernel_rfl) (fun _ _ _ h => h) (Or.inr ⟨by rfl, rfl⟩) (unhide HH) ?_
    (try simp only [Act.put, List.setIfInBounds_toArray, List.set_cons_zero, List.set_cons_succ])
    refine takeL (i := 26) (v := ?_) rfl (by kernel_rfl) (by kernel_rfl) (by kernel_rfl) (fun _ _ _ h => h) (Or.inl ⟨by rfl, ?_⟩) (unhide HH) ?_
    rotate_left 1
    · intro W hSW; go_simp; all_goals (with_reducible rfl)
    (try simp only [Act.put, List.setIfInBounds_toArray, List.set_cons_zero, List.set_cons_succ])
    refine wpAnyH_done (by kernel_rfl) ?_ _
    refine NoPanic.normal ?_
    go_wp2_with fail
    go_returns
    exact ⟨(⟨rfl, rfl, rfl, Nat.le_refl _, fun _ _ => rfl⟩ : Below w.heap.size w w.drew), .inr ⟨unhide HNO, rfl⟩⟩
  have hz2' : (zl : Int) ≤ 2 := by omega
  have hq3 : decide ((2 : Int) < (zl : Int)) = false := decide_eq_false (by omega)
  obtain ⟨d, hdN⟩ : ∃ d, d + 2 = N := ⟨N - 2, by omega⟩
  obtain ⟨e, he0⟩ : ∃ e, d + 1 = e := ⟨_, rfl⟩
  have hdi : (N : Int) - 2 = (d : Int) := by omega
  have hde : (d : Int) + 1 = (e : Int) := by omega
  have hwe : IntKind.i64.wrap (e : Int) = (e : Int) := IntWalk.i64_in _ ⟨by omega, by omega⟩
  have HE0 := hide he0
  have hdN1 : d < N := by omega
  have heN1 : e < N := by omega
  have hdN2 : (d : Int) < (N : Int) := by omega
  have heN2 : (e : Int) < (N : Int) := by omega
  have hd14 : d ≤ 14 := by omega
  have hd2 : 2 ≤ d := by omega
  clear he0
  by_cases hzz2 : zl = 2
  · subst hzz2
    obtain ⟨o, hza, hcz⟩ := irow_some' hzr (by rw [unhide HZL]; omega)
    subst hza
    have hcz0 := hcz 0 (by rw [unhide HZL]; omega)
    have hcz1 := hcz 1 (by rw [unhide HZL]; omega)
    have hL2 := unhide HZL
    match zs, hL2 with
    | [z0, z1], _ =>
      replace hcz0 : w.cell? ⟨gz, o, none⟩ = some (.int .i64 z0) := hcz0
      replace hcz1 : w.cell? ⟨gz, o + 1, none⟩ = some (.int .i64 z1) := hcz1
      have HC0 := hide hcz0
      have HC1 := hide hcz1
      clear hcz hzr hL2 hcz0 hcz1
      by_cases hzq : z0 = z1
      · have hzq' : (z0 == z1) = true := by rw [hzq]; exact beq_self_eq_true _
        have HZQ := hide hzq
        clear hzq
        go_enter Tryz.func39, Tryz.ntmps39
        have HNO : Hid (fixOk l [z0, z1] = false) := by show _ = _; rw [unhide HOKe]; rw [pk_not (fun h => by have := h.2.2; simp at this; exact this (unhide HZQ))]; rfl
        go_wp2_with fail
        refine wp_region_noPanic ?_
        refine wp_region_held_drew (S := fun W => Kp [] w W) (by kernel_rfl) ((Kp.refl _ _).drew) (fun hHeld => ?_)
        have HH := hide hHeld
        clear hHeld
        refine takeL (i := 0) (v := ?_) rfl (by kernel_rfl) (by kernel_rfl) (by kernel_rfl) (fun _ _ _ h => h) (Or.inl ⟨by rfl, ?_⟩) (unhide HH) ?_
        rotate_left 1
        · intro W hSW; go_simp; all_goals (with_reducible rfl)
        (try simp only [Act.put, List.setIfInBounds_toArray, List.set_cons_zero, List.set_cons_succ])
        refine takeL (i := 1) (v := ?_) rfl (by kernel_rfl) (by kernel_rfl) (by kernel_rfl) (fun _ _ _ h => h) (Or.inl ⟨by rfl, ?_⟩) (unhide HH) ?_
        rotate_left 1
        · intro W hSW; go_simp; all_goals (with_reducible rfl)
        (try simp only [Act.put, List.setIfInBounds_toArray, List.set_cons_zero, List.set_cons_succ])
        refine takeL (i := 2) (v := ?_) rfl (by kernel_rfl) (by kernel_rfl) (by kernel_rfl) (fun _ _ _ h => h) (Or.inl ⟨by rfl, ?_⟩) (unhide HH) ?_
        rotate_left 1
        · intro W hSW; go_simp; all_goals (with_reducible rfl)
        (try simp only [Act.put, List.setIfInBounds_toArray, List.set_cons_zero, List.set_cons_succ])
        refine takeL (i := 3) (v := ?_) rfl (by kernel_rfl) (by kernel_rfl) (by kernel_rfl) (fun _ _ _ h => h) (Or.inl ⟨by rfl, ?_⟩) (unhide HH) ?_
        rotate_left 1
        · intro W hSW; go_simp; all_goals (with_reducible rfl)
        (try simp only [Act.put, List.setIfInBounds_toArray, List.set_cons_zero, List.set_cons_succ])
        refine takeL (i := 4) (v := ?_) rfl (by kernel_rfl) (by kernel_rfl) (by kernel_rfl) (fun _ _ _ h => h) (Or.inl ⟨by rfl, ?_⟩) (unhide HH) ?_
        rotate_left 1
        · intro W hSW; go_simp; all_goals (with_reducible rfl)
        (try simp only [Act.put, List.setIfInBounds_toArray, List.set_cons_zero, List.set_cons_succ])
        refine takeL (i := 5) (v := ?_) rfl (by kernel_rfl) (by kernel_rfl) (by kernel_rfl) (fun _ _ _ h => h) (Or.inl ⟨by rfl, ?_⟩) (unhide HH) ?_
        rotate_left 1
        · intro W hSW; go_simp; all_goals (with_reducible rfl)
        (try simp only [Act.put, List.setIfInBounds_toArray, List.set_cons_zero, List.set_cons_succ])
        refine takeL (i := 6) (v := ?_) rfl (by kernel_rfl) (by kernel_rfl) (by kernel_rfl) (fun _ _ _ h => h) (Or.inl ⟨by rfl, ?_⟩) (unhide HH) ?_
        rotate_left 1
        · intro W hSW; go_simp; all_goals (with_reducible rfl)
        (try simp only [Act.put, List.setIfInBounds_toArray, List.set_cons_zero, List.set_cons_succ])
        refine takeL (i := 7) (v := ?_) rfl (by kernel_rfl) (by kernel_rfl) (by kernel_rfl) (fun _ _ _ h => h) (Or.inl ⟨by rfl, ?_⟩) (unhide HH) ?_
        rotate_left 1
        · intro W hSW; go_simp; all_goals (with_reducible rfl)
        (try simp only [Act.put, List.setIfInBounds_toArray, List.set_cons_zero, List.set_cons_succ])
        refine takeL (i := 8) (v := ?_) rfl (by kernel_rfl) (by kernel_rfl) (by kernel_rfl) (fun _ _ _ h => h) (Or.inl ⟨by rfl, ?_⟩) (unhide HH) ?_
        rotate_left 1
        · intro W hSW; go_simp; all_goals (with_reducible rfl)
        (try simp only [Act.put, List.setIfInBounds_toArray, List.set_cons_zero, List.set_cons_succ])
        refine takeL (i := 9) (v := ?_) rfl (by kernel_rfl) (by kernel_rfl) (by kernel_rfl) (fun _ _ _ h => h) (Or.inl ⟨by rfl, ?_⟩) (unhide HH) ?_
        rotate_left 1
        · intro W hSW; go_simp; all_goals (with_reducible rfl)
        (try simp only [Act.put, List.setIfInBounds_toArray, List.set_cons_zero, List.set_cons_succ])
        refine takeL (i := 10) (v := ?_) rfl (by kernel_rfl) (by kernel_rfl) (by kernel_rfl) (fun _ _ _ h => h) (Or.inl ⟨by rfl, ?_⟩) (unhide HH) ?_
        rotate_left 1
        · intro W hSW; go_simp; all_goals (with_reducible rfl)
        (try simp only [Act.put, List.setIfInBounds_toArray, List.set_cons_zero, List.set_cons_succ])
        refine takeL (i := 11) (v := ?_) rfl (by kernel_rfl) (by kernel_rfl) (by kernel_rfl) (fun _ _ _ h => h) (Or.inl ⟨by rfl, ?_⟩) (unhide HH) ?_
        rotate_left 1
        · intro W hSW; go_simp; all_goals (with_reducible rfl)
        (try simp only [Act.put, List.setIfInBounds_toArray, List.set_cons_zero, List.set_cons_succ])
        refine takeL (i := 12) (v := ?_) rfl (by kernel_rfl) (by kernel_rfl) (by kernel_rfl) (fun _ _ _ h => h) (Or.inl ⟨by rfl, ?_⟩) (unhide HH) ?_
        rotate_left 1
        · intro W hSW; go_simp; all_goals (with_reducible rfl)
        (try simp only [Act.put, List.setIfInBounds_toArray, List.set_cons_zero, List.set_cons_succ])
        refine takeL (i := 13) (v := ?_) rfl (by kernel_rfl) (by kernel_rfl) (by kernel_rfl) (fun _ _ _ h => h) (Or.inl ⟨by rfl, ?_⟩) (unhide HH) ?_
        rotate_left 1
        · intro W hSW; go_simp; all_goals (with_reducible rfl)
        (try simp only [Act.put, List.setIfInBounds_toArray, List.set_cons_zero, List.set_cons_succ])
        refine takeL (i := 14) (v := ?_) rfl (by kernel_rfl) (by kernel_rfl) (by kernel_rfl) (fun _ _ _ h => h) (Or.inl ⟨by rfl, ?_⟩) (unhide HH) ?_
        rotate_left 1
        · intro W hSW; go_simp; all_goals (with_reducible rfl)
        (try simp only [Act.put, List.setIfInBounds_toArray, List.set_cons_zero, List.set_cons_succ])
        refine takeL (i := 15) (v := ?_) rfl (by kernel_rfl) (by kernel_rfl) (by kernel_rfl) (fun _ _ _ h => h) (Or.inl ⟨by rfl, ?_⟩) (unhide HH) ?_
        rotate_left 1
        · intro W hSW; go_simp; all_goals (with_reducible rfl)
        (try simp only [Act.put, List.setIfInBounds_toArray, List.set_cons_zero, List.set_cons_succ])
        refine takeL (i := 16) (v := ?_) rfl (by kernel_rfl) (by kernel_rfl) (by kernel_rfl) (fun _ _ _ h => h) (Or.inl ⟨by rfl, ?_⟩) (unhide HH) ?_
        rotate_left 1
        · intro W hSW; go_simp; all_goals (with_reducible rfl)
        (try simp only [Act.put, List.setIfInBounds_toArray, List.set_cons_zero, List.set_cons_succ])
        refine takeL (i := 17) (v := ?_) rfl (by kernel_rfl) (by kernel_rfl) (by kernel_rfl) (fun _ _ _ h => h) (Or.inl ⟨by rfl, ?_⟩) (unhide HH) ?_
        rotate_left 1
        · intro W hSW; go_simp; all_goals (with_reducible rfl)
        (try simp only [Act.put, List.setIfInBounds_toArray, List.set_cons_zero, List.set_cons_succ])
        refine takeL (i := 18) (v := ?_) rfl (by kernel_rfl) (by kernel_rfl) (by kernel_rfl) (fun _ _ _ h => h) (Or.inl ⟨by rfl, ?_⟩) (unhide HH) ?_
        rotate_left 1
        · intro W hSW; go_simp; all_goals (with_reducible rfl)
        (try simp only [Act.put, List.setIfInBounds_toArray, List.set_cons_zero, List.set_cons_succ])
        refine takeL (i := 19) (v := ?_) rfl (by kernel_rfl) (by kernel_rfl) (by kernel_rfl) (fun _ _ _ h => h) (Or.inl ⟨by rfl, ?_⟩) (unhide HH) ?_
        rotate_left 1
        · intro W hSW; go_simp; all_goals (with_reducible rfl)
        (try simp only [Act.put, List.setIfInBounds_toArray, List.set_cons_zero, List.set_cons_succ])
        refine takeL (i := 20) (v := ?_) rfl (by kernel_rfl) (by kernel_rfl) (by kernel_rfl) (fun _ _ _ h => h) (Or.inl ⟨by rfl, ?_⟩) (unhide HH) ?_
        rotate_left 1
        · intro W1 hSW; have hc := hSW.cell (unhide HC0) (by simp); clear hSW; go_simp; all_goals (with_reducible rfl)
        (try simp only [Act.put, List.setIfInBounds_toArray, List.set_cons_zero, List.set_cons_succ])
        refine takeL (i := 21) (v := ?_) rfl (by kernel_rfl) (by kernel_rfl) (by kernel_rfl) (fun _ _ _ h => h) (Or.inl ⟨by rfl, ?_⟩) (unhide HH) ?_
        rotate_left 1
        · intro W hSW; go_simp; all_goals (with_reducible rfl)
        (try simp only [Act.put, List.setIfInBounds_toArray, List.set_cons_zero, List.set_cons_succ])
        refine takeL (i := 22) (v := ?_) rfl (by kernel_rfl) (by kernel_rfl) (by kernel_rfl) (fun _ _ _ h => h) (Or.inl ⟨by rfl, ?_⟩) (unhide HH) ?_
        rotate_left 1
        · intro W hSW; go_simp; all_goals (with_reducible rfl)
        (try simp only [Act.put, List.setIfInBounds_toArray, List.set_cons_zero, List.set_cons_succ])
        refine takeL (i := 23) (v := ?_) rfl (by kernel_rfl) (by kernel_rfl) (by kernel_rfl) (fun _ _ _ h => h) (Or.inl ⟨by rfl, ?_⟩) (unhide HH) ?_
        rotate_left 1
        · intro W1 hSW; have hc := hSW.cell (unhide HC1) (by simp); clear hSW; go_simp; all_goals (with_reducible rfl)
        (try simp only [Act.put, List.setIfInBounds_toArray, List.set_cons_zero, List.set_cons_succ])
        refine takeL (i := 24) (v := ?_) rfl (by kernel_rfl) (by kernel_rfl) (by kernel_rfl) (fun _ _ _ h => h) (Or.inl ⟨by rfl, ?_⟩) (unhide HH) ?_
        rotate_left 1
        · intro W hSW; go_simp; all_goals (with_reducible rfl)
        (try simp only [Act.put, List.setIfInBounds_toArray, List.set_cons_zero, List.set_cons_succ])
        refine takeL (i := 25) (v := ?_) rfl (by kernel_rfl) (by kernel_rfl) (by kernel_rfl) (fun _ _ _ h => h) (Or.inl ⟨by rfl, ?_⟩) (unhide HH) ?_
        rotate_left 1
        · intro W hSW; go_simp; all_goals (with_reducible rfl)
        (try simp only [Act.put, List.setIfInBounds_toArray, List.set_cons_zero, List.set_cons_succ])
        refine takeL (i := 26) (v := ?_) rfl (by kernel_rfl) (by kernel_rfl) (by kernel_rfl) (fun _ _ _ h => h) (Or.inl ⟨by rfl, ?_⟩) (unhide HH) ?_
        rotate_left 1
        · intro W hSW; go_simp; all_goals (with_reducible rfl)
        (try simp only [Act.put, List.setIfInBounds_toArray, List.set_cons_zero, List.set_cons_succ])
        refine wpAnyH_done (by kernel_rfl) ?_ _
        refine NoPanic.normal ?_
        go_wp2_with fail
        go_returns
        exact ⟨(⟨rfl, rfl, rfl, Nat.le_refl _, fun _ _ => rfl⟩ : Below w.heap.size w w.drew), .inr ⟨unhide HNO, rfl⟩⟩
      · have hzq' : (z0 == z1) = false := by rw [beq_eq_false_iff_ne]; exact hzq
        have HND : Hid ([z0, z1].Nodup) := by
          show List.Nodup _
          simpa using hzq
        clear hzq
        obtain ⟨zs, hzs⟩ : ∃ q, [z0, z1] = q := ⟨_, rfl⟩
        rw [hzs] at HND HZ HOKe HZL ⊢
        clear hzs
        go_enter Tryz.func39, Tryz.ntmps39
        have hmk := run_nots N (by omega)
        obtain ⟨zz, hzz⟩ : ∃ z, (List.replicate N (Value.bool false)).toArray = z := ⟨_, rfl⟩
        have HBN : Hid (∀ W : World, BBlk (W.alloc (.cells zz 4)) W.heap.size N (fun _ => false)) := by
          show ∀ _, _
          rw [← hzz]
          exact fun W => bblk_nots N W
        rw [hzz] at hmk
        clear hzz
        go_wp2_with fail
        refine wp_region_noPanic ?_
        refine wp_region_held_drew (S := fun W => Kp [] w W) (by kernel_rfl) ((Kp.refl _ _).drew) (fun hHeld => ?_)
        have HH := hide hHeld
        clear hHeld
        refine takeL (i := 0) (v := ?_) rfl (by kernel_rfl) (by kernel_rfl) (by kernel_rfl) (fun _ _ _ h => h) (Or.inl ⟨by rfl, ?_⟩) (unhide HH) ?_
        rotate_left 1
        · intro W hSW; go_simp; all_goals (with_reducible rfl)
        (try simp only [Act.put, List.setIfInBounds_toArray, List.set_cons_zero, List.set_cons_succ])
        refine takeL (i := 1) (v := ?_) rfl (by kernel_rfl) (by kernel_rfl) (by kernel_rfl) (fun _ _ _ h => h) (Or.inl ⟨by rfl, ?_⟩) (unhide HH) ?_
        rotate_left 1
        · intro W hSW; go_simp; all_goals (with_reducible rfl)
        (try simp only [Act.put, List.setIfInBounds_toArray, List.set_cons_zero, List.set_cons_succ])
        refine takeL (i := 2) (v := ?_) rfl (by kernel_rfl) (by kernel_rfl) (by kernel_rfl) (fun _ _ _ h => h) (Or.inl ⟨by rfl, ?_⟩) (unhide HH) ?_
        rotate_left 1
        · intro W hSW; go_simp; all_goals (with_reducible rfl)
        (try simp only [Act.put, List.setIfInBounds_toArray, List.set_cons_zero, List.set_cons_succ])
        refine takeL (i := 3) (v := ?_) rfl (by kernel_rfl) (by kernel_rfl) (by kernel_rfl) (fun _ _ _ h => h) (Or.inl ⟨by rfl, ?_⟩) (unhide HH) ?_
        rotate_left 1
        · intro W hSW; go_simp; all_goals (with_reducible rfl)
        (try simp only [Act.put, List.setIfInBounds_toArray, List.set_cons_zero, List.set_cons_succ])
        refine takeL (i := 4) (v := ?_) rfl (by kernel_rfl) (by kernel_rfl) (by kernel_rfl) (fun _ _ _ h => h) (Or.inl ⟨by rfl, ?_⟩) (unhide HH) ?_
        rotate_left 1
        · intro W hSW; go_simp; all_goals (with_reducible rfl)
        (try simp only [Act.put, List.setIfInBounds_toArray, List.set_cons_zero, List.set_cons_succ])
        refine takeL (i := 5) (v := ?_) rfl (by kernel_rfl) (by kernel_rfl) (by kernel_rfl) (fun _ _ _ h => h) (Or.inl ⟨by rfl, ?_⟩) (unhide HH) ?_
        rotate_left 1
        · intro W hSW; go_simp; all_goals (with_reducible rfl)
        (try simp only [Act.put, List.setIfInBounds_toArray, List.set_cons_zero, List.set_cons_succ])
        refine takeL (i := 6) (v := ?_) rfl (by kernel_rfl) (by kernel_rfl) (by kernel_rfl) (fun _ _ _ h => h) (Or.inl ⟨by rfl, ?_⟩) (unhide HH) ?_
        rotate_left 1
        · intro W hSW; go_simp; all_goals (with_reducible rfl)
        (try simp only [Act.put, List.setIfInBounds_toArray, List.set_cons_zero, List.set_cons_succ])
        refine takeL (i := 7) (v := ?_) rfl (by kernel_rfl) (by kernel_rfl) (by kernel_rfl) (fun _ _ _ h => h) (Or.inl ⟨by rfl, ?_⟩) (unhide HH) ?_
        rotate_left 1
        · intro W hSW; go_simp; all_goals (with_reducible rfl)
        (try simp only [Act.put, List.setIfInBounds_toArray, List.set_cons_zero, List.set_cons_succ])
        refine takeL (i := 8) (v := ?_) rfl (by kernel_rfl) (by kernel_rfl) (by kernel_rfl) (fun _ _ _ h => h) (Or.inl ⟨by rfl, ?_⟩) (unhide HH) ?_
        rotate_left 1
        · intro W hSW; go_simp; all_goals (with_reducible rfl)
        (try simp only [Act.put, List.setIfInBounds_toArray, List.set_cons_zero, List.set_cons_succ])
        refine takeL (i := 9) (v := ?_) rfl (by kernel_rfl) (by kernel_rfl) (by kernel_rfl) (fun _ _ _ h => h) (Or.inl ⟨by rfl, ?_⟩) (unhide HH) ?_
        rotate_left 1
        · intro W hSW; go_simp; all_goals (with_reducible rfl)
        (try simp only [Act.put, List.setIfInBounds_toArray, List.set_cons_zero, List.set_cons_succ])
        refine takeL (i := 10) (v := ?_) rfl (by kernel_rfl) (by kernel_rfl) (by kernel_rfl) (fun _ _ _ h => h) (Or.inl ⟨by rfl, ?_⟩) (unhide HH) ?_
        rotate_left 1
        · intro W hSW; go_simp; all_goals (with_reducible rfl)
        (try simp only [Act.put, List.setIfInBounds_toArray, List.set_cons_zero, List.set_cons_succ])
        refine takeL (i := 11) (v := ?_) rfl (by kernel_rfl) (by kernel_rfl) (by kernel_rfl) (fun _ _ _ h => h) (Or.inl ⟨by rfl, ?_⟩) (unhide HH) ?_
        rotate_left 1
        · intro W hSW; go_simp; all_goals (with_reducible rfl)
        (try simp only [Act.put, List.setIfInBounds_toArray, List.set_cons_zero, List.set_cons_succ])
        refine takeL (i := 12) (v := ?_) rfl (by kernel_rfl) (by kernel_rfl) (by kernel_rfl) (fun _ _ _ h => h) (Or.inl ⟨by rfl, ?_⟩) (unhide HH) ?_
        rotate_left 1
        · intro W hSW; go_simp; all_goals (with_reducible rfl)
        (try simp only [Act.put, List.setIfInBounds_toArray, List.set_cons_zero, List.set_cons_succ])
        refine takeL (i := 13) (v := ?_) rfl (by kernel_rfl) (by kernel_rfl) (by kernel_rfl) (fun _ _ _ h => h) (Or.inl ⟨by rfl, ?_⟩) (unhide HH) ?_
        rotate_left 1
        · intro W hSW; go_simp; all_goals (with_reducible rfl)
        (try simp only [Act.put, List.setIfInBounds_toArray, List.set_cons_zero, List.set_cons_succ])
        refine takeL (i := 14) (v := ?_) rfl (by kernel_rfl) (by kernel_rfl) (by kernel_rfl) (fun _ _ _ h => h) (Or.inl ⟨by rfl, ?_⟩) (unhide HH) ?_
        rotate_left 1
        · intro W hSW; go_simp; all_goals (with_reducible rfl)
        (try simp only [Act.put, List.setIfInBounds_toArray, List.set_cons_zero, List.set_cons_succ])
        refine takeL (i := 15) (v := ?_) rfl (by kernel_rfl) (by kernel_rfl) (by kernel_rfl) (fun _ _ _ h => h) (Or.inl ⟨by rfl, ?_⟩) (unhide HH) ?_
        rotate_left 1
        · intro W hSW; go_simp; all_goals (with_reducible rfl)
        (try simp only [Act.put, List.setIfInBounds_toArray, List.set_cons_zero, List.set_cons_succ])
        refine takeL (i := 16) (v := ?_) rfl (by kernel_rfl) (by kernel_rfl) (by kernel_rfl) (fun _ _ _ h => h) (Or.inl ⟨by rfl, ?_⟩) (unhide HH) ?_
        rotate_left 1
        · intro W hSW; go_simp; all_goals (with_reducible rfl)
        (try simp only [Act.put, List.setIfInBounds_toArray, List.set_cons_zero, List.set_cons_succ])
        refine takeL (i := 17) (v := ?_) rfl (by kernel_rfl) (by kernel_rfl) (by kernel_rfl) (fun _ _ _ h => h) (Or.inl ⟨by rfl, ?_⟩) (unhide HH) ?_
        rotate_left 1
        · intro W hSW; go_simp; all_goals (with_reducible rfl)
        (try simp only [Act.put, List.setIfInBounds_toArray, List.set_cons_zero, List.set_cons_succ])
        refine takeL (i := 18) (v := ?_) rfl (by kernel_rfl) (by kernel_rfl) (by kernel_rfl) (fun _ _ _ h => h) (Or.inl ⟨by rfl, ?_⟩) (unhide HH) ?_
        rotate_left 1
        · intro W hSW; go_simp; all_goals (with_reducible rfl)
        (try simp only [Act.put, List.setIfInBounds_toArray, List.set_cons_zero, List.set_cons_succ])
        refine takeL (i := 19) (v := ?_) rfl (by kernel_rfl) (by kernel_rfl) (by kernel_rfl) (fun _ _ _ h => h) (Or.inl ⟨by rfl, ?_⟩) (unhide HH) ?_
        rotate_left 1
        · intro W hSW; go_simp; all_goals (with_reducible rfl)
        (try simp only [Act.put, List.setIfInBounds_toArray, List.set_cons_zero, List.set_cons_succ])
        refine takeL (i := 20) (v := ?_) rfl (by kernel_rfl) (by kernel_rfl) (by kernel_rfl) (fun _ _ _ h => h) (Or.inl ⟨by rfl, ?_⟩) (unhide HH) ?_
        rotate_left 1
        · intro W1 hSW; have hc := hSW.cell (unhide HC0) (by simp); clear hSW; go_simp; all_goals (with_reducible rfl)
        (try simp only [Act.put, List.setIfInBounds_toArray, List.set_cons_zero, List.set_cons_succ])
        refine takeL (i := 21) (v := ?_) rfl (by kernel_rfl) (by kernel_rfl) (by kernel_rfl) (fun _ _ _ h => h) (Or.inl ⟨by rfl, ?_⟩) (unhide HH) ?_
        rotate_left 1
        · intro W hSW; go_simp; all_goals (with_reducible rfl)
        (try simp only [Act.put, List.setIfInBounds_toArray, List.set_cons_zero, List.set_cons_succ])
        refine takeL (i := 22) (v := ?_) rfl (by kernel_rfl) (by kernel_rfl) (by kernel_rfl) (fun _ _ _ h => h) (Or.inl ⟨by rfl, ?_⟩) (unhide HH) ?_
        rotate_left 1
        · intro W hSW; go_simp; all_goals (with_reducible rfl)
        (try simp only [Act.put, List.setIfInBounds_toArray, List.set_cons_zero, List.set_cons_succ])
        refine takeL (i := 23) (v := ?_) rfl (by kernel_rfl) (by kernel_rfl) (by kernel_rfl) (fun _ _ _ h => h) (Or.inl ⟨by rfl, ?_⟩) (unhide HH) ?_
        rotate_left 1
        · intro W1 hSW; have hc := hSW.cell (unhide HC1) (by simp); clear hSW; go_simp; all_goals (with_reducible rfl)
        (try simp only [Act.put, List.setIfInBounds_toArray, List.set_cons_zero, List.set_cons_succ])
        refine takeL (i := 24) (v := ?_) rfl (by kernel_rfl) (by kernel_rfl) (by kernel_rfl) (fun _ _ _ h => h) (Or.inl ⟨by rfl, ?_⟩) (unhide HH) ?_
        rotate_left 1
        · intro W hSW; go_simp; all_goals (with_reducible rfl)
        (try simp only [Act.put, List.setIfInBounds_toArray, List.set_cons_zero, List.set_cons_succ])
        refine takeL (i := 25) (v := ?_) rfl (by kernel_rfl) (by kernel_rfl) (by kernel_rfl) (fun _ _ _ h => h) (Or.inl ⟨by rfl, ?_⟩) (unhide HH) ?_
        rotate_left 1
        · intro W hSW; go_simp; all_goals (with_reducible rfl)
        (try simp only [Act.put, List.setIfInBounds_toArray, List.set_cons_zero, List.set_cons_succ])
        refine takeL (i := 26) (v := ?_) rfl (by kernel_rfl) (by kernel_rfl) (by kernel_rfl) (fun _ _ _ h => h) (Or.inl ⟨by rfl, ?_⟩) (unhide HH) ?_
        rotate_left 1
        · intro W hSW; go_simp; all_goals (with_reducible rfl)
        (try simp only [Act.put, List.setIfInBounds_toArray, List.set_cons_zero, List.set_cons_succ])
        refine wpAnyH_done (by kernel_rfl) ?_ _
        refine NoPanic.normal ?_
        have hBW : Below w.heap.size w w.drew := ⟨rfl, rfl, rfl, Nat.le_refl _, fun _ _ => rfl⟩
        replace HA := hide ((unhide HA).below hBW)
        replace HZ := hide ((unhide HZ).below hBW)
        have HB := hide hBW
        clear hBW
        generalize w.drew = wA at HA HZ HB ⊢
        go_wp2_with fail
        have HG := hide (unhide HBN wA)
        have hka : Below wA.heap.size wA (wA.alloc (.cells zz 4)) := (Below.refl _ _).alloc (Nat.le_refl _) _
        have HZ1 := hide (zarg_row5 ((unhide HZ).below hka))
        have HK1 := hide hka
        have HGZ : Hid (zs ≠ [] → gz ≠ wA.heap.size) := fun h => by have := (unhide HZ).lt h; omega
        clear hka hmk HBN
        generalize wA.alloc (.cells zz 4) = w1 at HG HZ1 HK1 ⊢
        refine fixL1 (gz := gz) (zs := zs) (unhide HZL) (by omega) (unhide HZ1) (unhide HZ).bd (unhide HG) (unhide HGZ) ?_ ?_
        rotate_left 1
        · intro u7 u54 u55 u56 u57 u58 u59 u60 u61 u62 u63 u64 u65 u66 u67 u68 u69 u70 u71 u72 u73 u74 u75 u76 u77 u78 u79 w2 hbad hk2
          have HB2 := hide ((unhide HB).trans ((below_kp (unhide HK1) hk2 (by simp) (unhide HK1).size).mono (unhide HB).size))
          have HNO : Hid (fixOk l zs = false) := by
            show _ = _
            rw [unhide HOKe, pk_not (fun h => by obtain ⟨z, h1, h2⟩ := hbad; exact h2 (h.2.1 z h1))]
            rfl
          clear hbad hk2
          go_wp2_with fail
          go_returns
          exact ⟨unhide HB2, .inr ⟨unhide HNO, rfl⟩⟩
        intro u4 u5 u7 u54 u55 u56 u57 u58 u59 u60 u61 u62 u63 u64 u65 u66 u67 u68 u69 u70 u71 u72 u73 u74 u75 u76 u77 u78 u79 w2 hall hB2 hk2
        have HK2 := hide (below_kp (unhide HK1) hk2 (by simp) (unhide HK1).size)
        have HG2 := hide hB2
        have HPK : Hid (pk zs N = true) := pk_of ⟨by rw [unhide HZL]; omega, hall, unhide HND⟩
        have HA2 := hide ((unhide HA).below (unhide HK2))
        have HEX : Hid (∃ i, i < N ∧ keep zs i = true) := some_kept (by rw [unhide HZL]; omega) hN4
        clear hall hB2 hk2 HG HZ1 HK1
        go_wp2_with fail
        refine fixL2 (G := G) (A := A) (C := C) (l := l) (zs := zs) hN16 (rarg_row (unhide HA2) (unhide HN)) (unhide HLEN) (unhide HG2) (unhide HEX) ?_ ?_
        rotate_left 1
        · intro u8 u9 u80 u81 u82 u83 u84 u85 u86 u87 u88 u89 u90 u91 u92 u93 u94 u95 u96 u97 u98 u99 u100 u101 u102 u103 u104 u105 u106 u107 u108 u109 u110 u111 u112 u113 w3 hw3 hbad
          subst hw3
          have HB2 := hide ((unhide HB).trans ((unhide HK2).mono (unhide HB).size))
          have HNO : Hid (fixOk l zs = false) := by
            show _ = _
            obtain ⟨i, j, hi, hj, hki, hkj, hne⟩ := hbad
            have h : evK l zs = false := by
              unfold evK
              rw [decide_eq_false_iff_not]
              exact fun h => hne (h i (by rw [unhide HN]; exact hi) j (by rw [unhide HN]; exact hj) hki hkj)
            rw [unhide HOKe, h]
            simp
          clear hbad
          go_wp2_with fail
          go_returns
          exact ⟨unhide HB2, .inr ⟨unhide HNO, rfl⟩⟩
        intro u4 u5 u9 u80 u81 u82 u83 u84 u85 u86 u87 u88 u89 u90 u91 u92 u93 u94 u95 u96 u97 u98 u99 u100 u101 u102 u103 u104 u105 u106 u107 u108 u109 u110 u111 u112 u113 w3 n hw3 hn5 hsz
        subst hw3
        have HSZ := hide hsz
        have HYES : Hid (fixOk l zs = true) := by
          show _ = _
          have h : evK l zs = true := by
            unfold evK
            rw [decide_eq_true_eq]
            intro i hi j hj h1 h2
            rw [unhide HN] at hi hj
            rw [unhide HSZ i hi h1, unhide HSZ j hj h2]
          rw [unhide HOKe, unhide HPK, h]
          simp
          omega
        clear hsz
        go_wp2_with fail
        refine fixL3 (G := G) (A := A) (C := C) (l := l) (zs := zs) hN16 (unhide HN) hn5 (unhide HA2) (unhide HSZ) (unhide HG2) ?_
        intro u11 u114 u115 u116 u117 u118 u119 u120 u121 u122 u123 u124 u125 u126 u127 u128 u129 u130 u131 u132 u133 u134 u135 u136 u137 w4 v4 ps hM hk3
        obtain ⟨gO, cO, hv4, hcN, hcM, hO⟩ := hM.out (by omega)
        subst hv4
        have HO := hide hO
        have hgl := (unhide HG2).lt
        have HG3 := hide ((unhide HG2).of (hk3.block _ hgl))
        have hz2 := (unhide HK2).size
        have HK3 := hide ((unhide HK2).trans (hk3.mono hz2))
        have hz3 := hk3.size
        have hob := hO.ob
        clear hM hk3 hO
        go_wp2_with fail
        refine fixL4 (d := d) (zs := zs) hN16 (by omega) (unhide HG3) ?_
        intro u14 u141 u142 u143 u144 u145 u146 u147 u148 u149 u150 u151 u152 u153 w6 v5 hZF hk4
        have HZF := hide hZF
        have HO5 := hide ((unhide HO).below hk4)
        have HG5 := hide ((unhide HG3).of (hk4.block _ (unhide HG3).lt))
        have HK5 := hide ((unhide HK3).trans (hk4.mono (Nat.le_trans hz2 hz3)))
        have hz4 := hk4.size
        clear hZF hk4 HO HG3 HK3
        go_wp2_with fail
        refine fixL5 (zs := zs) hN4 hN16 hdN hn5 (by rw [unhide HZL]; omega) (unhide HO5) (unhide HG5) (unhide HZF) ?_
        intro u15 u16 u17 u18 u19 u20 u21 u154 u155 u156 u157 u158 u159 u160 u161 u162 u163 u164 u165 u166 u167 u168 u169 u170 u171 u172 u173 u174 u175 u176 u177 u178 u179 u180 u181 u182 u183 u184 u185 u186 u187 u188 u189 u190 u191 u192 u193 u194 u195 u196 u197 u198 u199 u200 u201 u202 u203 u204 u205 u206 u207 u208 u209 u210 u211 u212 u213 u214 u215 u216 u217 u218 u219 u220 u221 u222 u223 u224 u225 u226 u227 u228 u229 u230 u231 u232 u233 u234 u235 u236 u237 u238 u239 u240 u241 u242 u243 u244 u245 u246 u247 u248 u249 u250 u251 u252 u253 u254 u255 u256 u257 u258 u259 u260 u261 u262 u263 u264 u265 u266 u267 u268 u269 u270 u271 u272 u273 u274 u275 u276 u277 u278 u279 u280 u281 u282 u283 u284 u285 u286 u287 u288 u289 wr4 o2 hO4 hG4 hkp4 hb4 hgd4
        have HO4 := hide hO4
        have HG4 := hide hG4
        have HKP4 : Hid (∀ j, j < N → keep zs j = true → o2.getD j [] = l.getD j []) := fun j hj hk => by rw [hkp4 j hj hk, madeL_get hj hk]
        have HGD4 := hide hgd4
        have HB4 := hide ((unhide HB).trans (((unhide HK5).trans (hb4.mono hz2)).mono (unhide HB).size))
        have hzA := (unhide HB).size
        clear hO4 hG4 hkp4 hb4 hgd4 HO5 HG5 HK5 HZF
        have hfr := (unhide HO4).front (d := d) (c := cO) (by omega) hcN hcM
        have hrl := (unhide HO4).rl
        go_wp2_with fail
        refine (rparity_any _ gO _ _ (o2.take d) wr4 hfr (fun i => by
          by_cases hi : i < d
          · rw [getD_take hi, hrl i (by omega)]; exact hn5
          · rw [List.getD_eq_getElem?_getD, List.getElem?_eq_none (by simp; omega)]; simp)).mono ?_
        clear hfr hrl
        rintro e9 w5 ⟨v1, v2, rfl, hP, hQ, hk5⟩
        obtain ⟨HFIX0, hlP, hlQ⟩ := fix_fin (l := l) (o := o2) (zs := zs) (d := d) (n := n) (by rw [unhide HN]; exact hdN.symm) hd2 hd14 (by rw [hdN]; exact unhide HPK) (by rw [hdN]; exact unhide HSZ) (by rw [hdN]; exact (unhide HO4).len) (by rw [hdN]; exact (unhide HO4).rl) (unhide HO4).bs (by rw [hdN]; exact unhide HKP4) (unhide HGD4)
        have HFIX := hide HFIX0
        clear HFIX0
        obtain ⟨bP, bQ⟩ := par_bs (l := o2.take d) (fun i => by
          by_cases hi : i < d
          · rw [getD_take hi]; exact (unhide HO4).bs i
          · rw [List.getD_eq_getElem?_getD, List.getElem?_eq_none (by simp; omega)]; exact Bs.nil)
        obtain ⟨g1, hA1, hg1⟩ := hP.arg bP
        obtain ⟨g2, hA2, hg2⟩ := hQ.arg bQ
        obtain ⟨p1, c1, hv1, _⟩ := hA1.ex
        obtain ⟨p2, c2, hv2, _⟩ := hA2.ex
        rw [hlP] at hv1
        rw [hlQ] at hv2
        subst hv1
        subst hv2
        have hgOl := (unhide HO4).lt
        have HT5 := hide ((unhide HO4).tn.below hk5)
        have HB5 := hide ((unhide HB4).trans (hk5.mono (unhide HB4).size))
        have HG5 := hide ((unhide HG4).of (hk5.block _ (unhide HG4).lt))
        have hz5 := hk5.size
        obtain ⟨P1, hP1⟩ : ∃ q, pP (o2.take d) = q := ⟨_, rfl⟩
        obtain ⟨Q1, hQ1⟩ : ∃ q, pQ (o2.take d) = q := ⟨_, rfl⟩
        rw [hP1, hQ1] at HFIX
        rw [hP1] at hA1 hlP
        rw [hQ1] at hA2 hlQ
        have HA1 := hide hA1
        have HA2 := hide hA2
        have HLP := hide hlP
        have HLQ := hide hlQ
        obtain ⟨pz, hpz⟩ : ∃ q, (List.range N).map (fun i => (some (⟨gOf ps i, 0, none⟩ : Addr), psC ps i)) = q := ⟨_, rfl⟩
        rw [hpz] at HT5
        clear hP hQ hk5 bP bQ hA1 hA2 hlP hlQ hP1 hQ1 HO4 HKP4 HGD4 HB4 HG4 hpz
        cases hkd : keep zs d with
        | true =>
          have hbd : w5.cell? ⟨wA.heap.size, d, none⟩ = some (.bool false) := by
            have h := (unhide HG5).cell hdN1
            rwa [show (!keep zs d) = false by rw [hkd]; rfl] at h
          have HKD := hide hkd
          clear hkd
          cases hke : keep zs e with
          | true =>
            have hbe : w5.cell? ⟨wA.heap.size, e, none⟩ = some (.bool false) := by
              have h := (unhide HG5).cell heN1
              rwa [show (!keep zs e) = false by rw [hke]; rfl] at h
            have HKE := hide hke
            clear hke
            have HF := hide (unhide HFIX)
            have HFE : Hid (fin o2 zs d P1 Q1 = o2) := by
              show _ = _
              unfold fin
              rw [unhide HE0, unhide HKD, unhide HKE]
              simp
            rw [unhide HFE] at HF
            have HR := hide ((unhide HT5).arg hcN hcM)
            go_wp2_with fail
            go_returns
            exact ⟨unhide HB5, .inl ⟨unhide HYES, _, _, _, _, _, n, rfl, unhide HR, unhide HF⟩⟩
          | false =>
            have hbe : w5.cell? ⟨wA.heap.size, e, none⟩ = some (.bool true) := by
              have h := (unhide HG5).cell heN1
              rwa [show (!keep zs e) = true by rw [hke]; rfl] at h
            have HKE := hide hke
            clear hke
            obtain ⟨hce, hfe⟩ := (unhide HT5).cell heN1
            have HT7 := hide ((unhide HT5).set (a := p2) (c := c2) (g := g2) (r := Q1) heN1 (by rw [unhide HLQ]; exact unhide HA2) (fun _ => by omega))
            rw [unhide HLQ] at HT7
            have HB7 := hide (below_kp (unhide HB5) ((Kp.refl [gO] _).setCell ⟨gO, e, none⟩ (.slice p2 n c2) (.inl (by simp))) (by simp; omega) (unhide HB5).size)
            have HF := hide (unhide HFIX)
            have HFE : Hid (fin o2 zs d P1 Q1 = (o2).set e Q1) := by
              show _ = _
              unfold fin
              rw [unhide HE0, unhide HKD, unhide HKE]
              simp
            rw [unhide HFE] at HF
            have HR := hide ((unhide HT7).arg hcN hcM)
            go_wp2_with fail
            go_returns
            exact ⟨unhide HB7, .inl ⟨unhide HYES, _, _, _, _, _, n, rfl, unhide HR, unhide HF⟩⟩
        | false =>
          have hbd : w5.cell? ⟨wA.heap.size, d, none⟩ = some (.bool true) := by
            have h := (unhide HG5).cell hdN1
            rwa [show (!keep zs d) = true by rw [hkd]; rfl] at h
          have HKD := hide hkd
          clear hkd
          obtain ⟨hcd, hfd⟩ := (unhide HT5).cell hdN1
          have HT6 := hide ((unhide HT5).set (a := p1) (c := c1) (g := g1) (r := P1) hdN1 (by rw [unhide HLP]; exact unhide HA1) (fun _ => by omega))
          rw [unhide HLP] at HT6
          have hkw : Kp [gO] w5 (w5.setCell ⟨gO, d, none⟩ (.slice p1 n c1)) := (Kp.refl _ _).setCell _ _ (.inl (by simp))
          have HB6 := hide (below_kp (unhide HB5) hkw (by simp; omega) (unhide HB5).size)
          have HA26 := hide (arg_kp (unhide HA2) hkw (fun _ => by simp; omega))
          have HG6 := hide ((unhide HG5).kp hkw (by simp; omega))
          clear hkw
          cases hke : keep zs e with
          | true =>
            have hbe : (w5.setCell ⟨gO, d, none⟩ (.slice p1 n c1)).cell? ⟨wA.heap.size, e, none⟩ = some (.bool false) := by
              have h := (unhide HG6).cell heN1
              rwa [show (!keep zs e) = false by rw [hke]; rfl] at h
            have HKE := hide hke
            clear hke
            have HF := hide (unhide HFIX)
            have HFE : Hid (fin o2 zs d P1 Q1 = o2.set d P1) := by
              show _ = _
              unfold fin
              rw [unhide HE0, unhide HKD, unhide HKE]
              simp
            rw [unhide HFE] at HF
            have HR := hide ((unhide HT6).arg hcN hcM)
            go_wp2_with fail
            go_returns
            exact ⟨unhide HB6, .inl ⟨unhide HYES, _, _, _, _, _, n, rfl, unhide HR, unhide HF⟩⟩
          | false =>
            have hbe : (w5.setCell ⟨gO, d, none⟩ (.slice p1 n c1)).cell? ⟨wA.heap.size, e, none⟩ = some (.bool true) := by
              have h := (unhide HG6).cell heN1
              rwa [show (!keep zs e) = true by rw [hke]; rfl] at h
            have HKE := hide hke
            clear hke
            obtain ⟨hce, hfe⟩ := (unhide HT6).cell heN1
            have HT7 := hide ((unhide HT6).set (a := p2) (c := c2) (g := g2) (r := Q1) heN1 (by rw [unhide HLQ]; exact unhide HA26) (fun _ => by omega))
            rw [unhide HLQ] at HT7
            have HB7 := hide (below_kp (unhide HB6) ((Kp.refl [gO] _).setCell ⟨gO, e, none⟩ (.slice p2 n c2) (.inl (by simp))) (by simp; omega) (unhide HB6).size)
            have HF := hide (unhide HFIX)
            have HFE : Hid (fin o2 zs d P1 Q1 = (o2.set d P1).set e Q1) := by
              show _ = _
              unfold fin
              rw [unhide HE0, unhide HKD, unhide HKE]
              simp
            rw [unhide HFE] at HF
            have HR := hide ((unhide HT7).arg hcN hcM)
            go_wp2_with fail
            go_returns
            exact ⟨unhide HB7, .inl ⟨unhide HYES, _, _, _, _, _, n, rfl, unhide HR, unhide HF⟩⟩
  · have HND : Hid (zs.Nodup) := by
      show List.Nodup zs
      have hL2 := unhide HZL
      match zs, hL2 with
      | [], _ => exact List.nodup_nil
      | [_], _ => simp
      | _ :: _ :: _, h => simp at h; omega
    have hzz3 : ((zl : Int) == 2) = false := by rw [beq_eq_false_iff_ne]; omega
    have hzl1 : zl ≤ 1 := by omega
    clear hzr hzz2
    go_enter Tryz.func39, Tryz.ntmps39
    have hmk := run_nots N (by omega)
    obtain ⟨zz, hzz⟩ : ∃ z, (List.replicate N (Value.bool false)).toArray = z := ⟨_, rfl⟩
    have HBN : Hid (∀ W : World, BBlk (W.alloc (.cells zz 4)) W.heap.size N (fun _ => false)) := by
      show ∀ _, _
      rw [← hzz]
      exact fun W => bblk_nots N W
    rw [hzz] at hmk
    clear hzz
    go_wp2_with fail
    refine wp_region_noPanic ?_
    refine wp_region_held_drew (S := fun W => Kp [] w W) (by kernel_rfl) ((Kp.refl _ _).drew) (fun hHeld => ?_)
    have HH := hide hHeld
    clear hHeld
    refine takeL (i := 0) (v := ?_) rfl (by kernel_rfl) (by kernel_rfl) (by kernel_rfl) (fun _ _ _ h => h) (Or.inl ⟨by rfl, ?_⟩) (unhide HH) ?_
    rotate_left 1
    · intro W hSW; go_simp; all_goals (with_reducible rfl)
    (try simp only [Act.put, List.setIfInBounds_toArray, List.set_cons_zero, List.set_cons_succ])
    refine takeL (i := 1) (v := ?_) rfl (by kernel_rfl) (by kernel_rfl) (by kernel_rfl) (fun _ _ _ h => h) (Or.inl ⟨by rfl, ?_⟩) (unhide HH) ?_
    rotate_left 1
    · intro W hSW; go_simp; all_goals (with_reducible rfl)
    (try simp only [Act.put, List.setIfInBounds_toArray, List.set_cons_zero, List.set_cons_succ])
    refine takeL (i := 2) (v := ?_) rfl (by kernel_rfl) (by kernel_rfl) (by kernel_rfl) (fun _ _ _ h => h) (Or.inl ⟨by rfl, ?_⟩) (unhide HH) ?_
    rotate_left 1
    · intro W hSW; go_simp; all_goals (with_reducible rfl)
    (try simp only [Act.put, List.setIfInBounds_toArray, List.set_cons_zero, List.set_cons_succ])
    refine takeL (i := 3) (v := ?_) rfl (by kernel_rfl) (by kernel_rfl) (by kernel_rfl) (fun _ _ _ h => h) (Or.inl ⟨by rfl, ?_⟩) (unhide HH) ?_
    rotate_left 1
    · intro W hSW; go_simp; all_goals (with_reducible rfl)
    (try simp only [Act.put, List.setIfInBounds_toArray, List.set_cons_zero, List.set_cons_succ])
    refine takeL (i := 4) (v := ?_) rfl (by kernel_rfl) (by kernel_rfl) (by kernel_rfl) (fun _ _ _ h => h) (Or.inl ⟨by rfl, ?_⟩) (unhide HH) ?_
    rotate_left 1
    · intro W hSW; go_simp; all_goals (with_reducible rfl)
    (try simp only [Act.put, List.setIfInBounds_toArray, List.set_cons_zero, List.set_cons_succ])
    refine takeL (i := 5) (v := ?_) rfl (by kernel_rfl) (by kernel_rfl) (by kernel_rfl) (fun _ _ _ h => h) (Or.inl ⟨by rfl, ?_⟩) (unhide HH) ?_
    rotate_left 1
    · intro W hSW; go_simp; all_goals (with_reducible rfl)
    (try simp only [Act.put, List.setIfInBounds_toArray, List.set_cons_zero, List.set_cons_succ])
    refine takeL (i := 6) (v := ?_) rfl (by kernel_rfl) (by kernel_rfl) (by kernel_rfl) (fun _ _ _ h => h) (Or.inl ⟨by rfl, ?_⟩) (unhide HH) ?_
    rotate_left 1
    · intro W hSW; go_simp; all_goals (with_reducible rfl)
    (try simp only [Act.put, List.setIfInBounds_toArray, List.set_cons_zero, List.set_cons_succ])
    refine takeL (i := 7) (v := ?_) rfl (by kernel_rfl) (by kernel_rfl) (by kernel_rfl) (fun _ _ _ h => h) (Or.inl ⟨by rfl, ?_⟩) (unhide HH) ?_
    rotate_left 1
    · intro W hSW; go_simp; all_goals (with_reducible rfl)
    (try simp only [Act.put, List.setIfInBounds_toArray, List.set_cons_zero, List.set_cons_succ])
    refine takeL (i := 8) (v := ?_) rfl (by kernel_rfl) (by kernel_rfl) (by kernel_rfl) (fun _ _ _ h => h) (Or.inl ⟨by rfl, ?_⟩) (unhide HH) ?_
    rotate_left 1
    · intro W hSW; go_simp; all_goals (with_reducible rfl)
    (try simp only [Act.put, List.setIfInBounds_toArray, List.set_cons_zero, List.set_cons_succ])
    refine takeL (i := 9) (v := ?_) rfl (by kernel_rfl) (by kernel_rfl) (by kernel_rfl) (fun _ _ _ h => h) (Or.inl ⟨by rfl, ?_⟩) (unhide HH) ?_
    rotate_left 1
    · intro W hSW; go_simp; all_goals (with_reducible rfl)
    (try simp only [Act.put, List.setIfInBounds_toArray, List.set_cons_zero, List.set_cons_succ])
    refine takeL (i := 10) (v := ?_) rfl (by kernel_rfl) (by kernel_rfl) (by kernel_rfl) (fun _ _ _ h => h) (Or.inl ⟨by rfl, ?_⟩) (unhide HH) ?_
    rotate_left 1
    · intro W hSW; go_simp; all_goals (with_reducible rfl)
    (try simp only [Act.put, List.setIfInBounds_toArray, List.set_cons_zero, List.set_cons_succ])
    refine takeL (i := 11) (v := ?_) rfl (by kernel_rfl) (by kernel_rfl) (by kernel_rfl) (fun _ _ _ h => h) (Or.inl ⟨by rfl, ?_⟩) (unhide HH) ?_
    rotate_left 1
    · intro W hSW; go_simp; all_goals (with_reducible rfl)
    (try simp only [Act.put, List.setIfInBounds_toArray, List.set_cons_zero, List.set_cons_succ])
    refine takeL (i := 12) (v := ?_) rfl (by kernel_rfl) (by kernel_rfl) (by kernel_rfl) (fun _ _ _ h => h) (Or.inl ⟨by rfl, ?_⟩) (unhide HH) ?_
    rotate_left 1
    · intro W hSW; go_simp; all_goals (with_reducible rfl)
    (try simp only [Act.put, List.setIfInBounds_toArray, List.set_cons_zero, List.set_cons_succ])
    refine takeL (i := 13) (v := ?_) rfl (by kernel_rfl) (by kernel_rfl) (by kernel_rfl) (fun _ _ _ h => h) (Or.inl ⟨by rfl, ?_⟩) (unhide HH) ?_
    rotate_left 1
    · intro W hSW; go_simp; all_goals (with_reducible rfl)
    (try simp only [Act.put, List.setIfInBounds_toArray, List.set_cons_zero, List.set_cons_succ])
    refine takeL (i := 14) (v := ?_) rfl (by kernel_rfl) (by kernel_rfl) (by kernel_rfl) (fun _ _ _ h => h) (Or.inl ⟨by rfl, ?_⟩) (unhide HH) ?_
    rotate_left 1
    · intro W hSW; go_simp; all_goals (with_reducible rfl)
    (try simp only [Act.put, List.setIfInBounds_toArray, List.set_cons_zero, List.set_cons_succ])
    refine takeL (i := 15) (v := ?_) rfl (by kernel_rfl) (by kernel_rfl) (by kernel_rfl) (fun _ _ _ h => h) (Or.inl ⟨by rfl, ?_⟩) (unhide HH) ?_
    rotate_left 1
    · intro W hSW; go_simp; all_goals (with_reducible rfl)
    (try simp only [Act.put, List.setIfInBounds_toArray, List.set_cons_zero, List.set_cons_succ])
    refine takeL (i := 16) (v := ?_) rfl (by kernel_rfl) (by kernel_rfl) (by kernel_rfl) (fun _ _ _ h => h) (Or.inl ⟨by rfl, ?_⟩) (unhide HH) ?_
    rotate_left 1
    · intro W hSW; go_simp; all_goals (with_reducible rfl)
    (try simp only [Act.put, List.setIfInBounds_toArray, List.set_cons_zero, List.set_cons_succ])
    refine takeL (i := 17) (v := ?_) rfl (by kernel_rfl) (by kernel_rfl) (by kernel_rfl) (fun _ _ _ h => h) (Or.inl ⟨by rfl, ?_⟩) (unhide HH) ?_
    rotate_left 1
    · intro W hSW; go_simp; all_goals (with_reducible rfl)
    (try simp only [Act.put, List.setIfInBounds_toArray, List.set_cons_zero, List.set_cons_succ])
    refine takeL (i := 18) (v := undef) rfl (by kernel_rfl) (by kernel_rfl) (by kernel_rfl) (fun _ _ _ h => h) (Or.inr ⟨by rfl, rfl⟩) (unhide HH) ?_
    (try simp only [Act.put, List.setIfInBounds_toArray, List.set_cons_zero, List.set_cons_succ])
    refine takeL (i := 19) (v := undef) rfl (by kernel_rfl) (by kernel_rfl) (by kernel_rfl) (fun _ _ _ h => h) (Or.inr ⟨by rfl, rfl⟩) (unhide HH) ?_
    (try simp only [Act.put, List.setIfInBounds_toArray, List.set_cons_zero, List.set_cons_succ])
    refine takeL (i := 20) (v := undef) rfl (by kernel_rfl) (by kernel_rfl) (by kernel_rfl) (fun _ _ _ h => h) (Or.inr ⟨by rfl, rfl⟩) (unhide HH) ?_
    (try simp only [Act.put, List.setIfInBounds_toArray, List.set_cons_zero, List.set_cons_succ])
    refine takeL (i := 21) (v := undef) rfl (by kernel_rfl) (by kernel_rfl) (by kernel_rfl) (fun _ _ _ h => h) (Or.inr ⟨by rfl, rfl⟩) (unhide HH) ?_
    (try simp only [Act.put, List.setIfInBounds_toArray, List.set_cons_zero, List.set_cons_succ])
    refine takeL (i := 22) (v := undef) rfl (by kernel_rfl) (by kernel_rfl) (by kernel_rfl) (fun _ _ _ h => h) (Or.inr ⟨by rfl, rfl⟩) (unhide HH) ?_
    (try simp only [Act.put, List.setIfInBounds_toArray, List.set_cons_zero, List.set_cons_succ])
    refine takeL (i := 23) (v := undef) rfl (by kernel_rfl) (by kernel_rfl) (by kernel_rfl) (fun _ _ _ h => h) (Or.inr ⟨by rfl, rfl⟩) (unhide HH) ?_
    (try simp only [Act.put, List.setIfInBounds_toArray, List.set_cons_zero, List.set_cons_succ])
    refine takeL (i := 24) (v := undef) rfl (by kernel_rfl) (by kernel_rfl) (by kernel_rfl) (fun _ _ _ h => h) (Or.inr ⟨by rfl, rfl⟩) (unhide HH) ?_
    (try simp only [Act.put, List.setIfInBounds_toArray, List.set_cons_zero, List.set_cons_succ])
    refine takeL (i := 25) (v := ?_) rfl (by kernel_rfl) (by kernel_rfl) (by kernel_rfl) (fun _ _ _ h => h) (Or.inl ⟨by rfl, ?_⟩) (unhide HH) ?_
    rotate_left 1
    · intro W hSW; go_simp; all_goals (with_reducible rfl)
    (try simp only [Act.put, List.setIfInBounds_toArray, List.set_cons_zero, List.set_cons_succ])
    refine takeL (i := 26) (v := ?_) rfl (by kernel_rfl) (by kernel_rfl) (by kernel_rfl) (fun _ _ _ h => h) (Or.inl ⟨by rfl, ?_⟩) (unhide HH) ?_
    rotate_left 1
    · intro W hSW; go_simp; all_goals (with_reducible rfl)
    (try simp only [Act.put, List.setIfInBounds_toArray, List.set_cons_zero, List.set_cons_succ])
    refine wpAnyH_done (by kernel_rfl) ?_ _
    refine NoPanic.normal ?_
    have hBW : Below w.heap.size w w.drew := ⟨rfl, rfl, rfl, Nat.le_refl _, fun _ _ => rfl⟩
    replace HA := hide ((unhide HA).below hBW)
    replace HZ := hide ((unhide HZ).below hBW)
    have HB := hide hBW
    clear hBW
    generalize w.drew = wA at HA HZ HB ⊢
    go_wp2_with fail
    have HG := hide (unhide HBN wA)
    have hka : Below wA.heap.size wA (wA.alloc (.cells zz 4)) := (Below.refl _ _).alloc (Nat.le_refl _) _
    have HZ1 := hide (zarg_row5 ((unhide HZ).below hka))
    have HK1 := hide hka
    have HGZ : Hid (zs ≠ [] → gz ≠ wA.heap.size) := fun h => by have := (unhide HZ).lt h; omega
    clear hka hmk HBN
    generalize wA.alloc (.cells zz 4) = w1 at HG HZ1 HK1 ⊢
    refine fixL1 (gz := gz) (zs := zs) (unhide HZL) (by omega) (unhide HZ1) (unhide HZ).bd (unhide HG) (unhide HGZ) ?_ ?_
    rotate_left 1
    · intro u7 u54 u55 u56 u57 u58 u59 u60 u61 u62 u63 u64 u65 u66 u67 u68 u69 u70 u71 u72 u73 u74 u75 u76 u77 u78 u79 w2 hbad hk2
      have HB2 := hide ((unhide HB).trans ((below_kp (unhide HK1) hk2 (by simp) (unhide HK1).size).mono (unhide HB).size))
      have HNO : Hid (fixOk l zs = false) := by
        show _ = _
        rw [unhide HOKe, pk_not (fun h => by obtain ⟨z, h1, h2⟩ := hbad; exact h2 (h.2.1 z h1))]
        rfl
      clear hbad hk2
      go_wp2_with fail
      go_returns
      exact ⟨unhide HB2, .inr ⟨unhide HNO, rfl⟩⟩
    intro u4 u5 u7 u54 u55 u56 u57 u58 u59 u60 u61 u62 u63 u64 u65 u66 u67 u68 u69 u70 u71 u72 u73 u74 u75 u76 u77 u78 u79 w2 hall hB2 hk2
    have HK2 := hide (below_kp (unhide HK1) hk2 (by simp) (unhide HK1).size)
    have HG2 := hide hB2
    have HPK : Hid (pk zs N = true) := pk_of ⟨by rw [unhide HZL]; omega, hall, unhide HND⟩
    have HA2 := hide ((unhide HA).below (unhide HK2))
    have HEX : Hid (∃ i, i < N ∧ keep zs i = true) := some_kept (by rw [unhide HZL]; omega) hN4
    clear hall hB2 hk2 HG HZ1 HK1
    go_wp2_with fail
    refine fixL2 (G := G) (A := A) (C := C) (l := l) (zs := zs) hN16 (rarg_row (unhide HA2) (unhide HN)) (unhide HLEN) (unhide HG2) (unhide HEX) ?_ ?_
    rotate_left 1
    · intro u8 u9 u80 u81 u82 u83 u84 u85 u86 u87 u88 u89 u90 u91 u92 u93 u94 u95 u96 u97 u98 u99 u100 u101 u102 u103 u104 u105 u106 u107 u108 u109 u110 u111 u112 u113 w3 hw3 hbad
      subst hw3
      have HB2 := hide ((unhide HB).trans ((unhide HK2).mono (unhide HB).size))
      have HNO : Hid (fixOk l zs = false) := by
        show _ = _
        obtain ⟨i, j, hi, hj, hki, hkj, hne⟩ := hbad
        have h : evK l zs = false := by
          unfold evK
          rw [decide_eq_false_iff_not]
          exact fun h => hne (h i (by rw [unhide HN]; exact hi) j (by rw [unhide HN]; exact hj) hki hkj)
        rw [unhide HOKe, h]
        simp
      clear hbad
      go_wp2_with fail
      go_returns
      exact ⟨unhide HB2, .inr ⟨unhide HNO, rfl⟩⟩
    intro u4 u5 u9 u80 u81 u82 u83 u84 u85 u86 u87 u88 u89 u90 u91 u92 u93 u94 u95 u96 u97 u98 u99 u100 u101 u102 u103 u104 u105 u106 u107 u108 u109 u110 u111 u112 u113 w3 n hw3 hn5 hsz
    subst hw3
    have HSZ := hide hsz
    have HYES : Hid (fixOk l zs = true) := by
      show _ = _
      have h : evK l zs = true := by
        unfold evK
        rw [decide_eq_true_eq]
        intro i hi j hj h1 h2
        rw [unhide HN] at hi hj
        rw [unhide HSZ i hi h1, unhide HSZ j hj h2]
      rw [unhide HOKe, unhide HPK, h]
      simp
      omega
    clear hsz
    go_wp2_with fail
    refine fixL3 (G := G) (A := A) (C := C) (l := l) (zs := zs) hN16 (unhide HN) hn5 (unhide HA2) (unhide HSZ) (unhide HG2) ?_
    intro u11 u114 u115 u116 u117 u118 u119 u120 u121 u122 u123 u124 u125 u126 u127 u128 u129 u130 u131 u132 u133 u134 u135 u136 u137 w4 v4 ps hM hk3
    obtain ⟨gO, cO, hv4, hcN, hcM, hO⟩ := hM.out (by omega)
    subst hv4
    have HO := hide hO
    have hgl := (unhide HG2).lt
    have HG3 := hide ((unhide HG2).of (hk3.block _ hgl))
    have hz2 := (unhide HK2).size
    have HK3 := hide ((unhide HK2).trans (hk3.mono hz2))
    have hz3 := hk3.size
    have hob := hO.ob
    clear hM hk3 hO
    go_wp2_with fail
    refine fixL4 (d := d) (zs := zs) hN16 (by omega) (unhide HG3) ?_
    intro u14 u141 u142 u143 u144 u145 u146 u147 u148 u149 u150 u151 u152 u153 w6 v5 hZF hk4
    have HZF := hide hZF
    have HO5 := hide ((unhide HO).below hk4)
    have HG5 := hide ((unhide HG3).of (hk4.block _ (unhide HG3).lt))
    have HK5 := hide ((unhide HK3).trans (hk4.mono (Nat.le_trans hz2 hz3)))
    have hz4 := hk4.size
    clear hZF hk4 HO HG3 HK3
    go_wp2_with fail
    refine fixL5 (zs := zs) hN4 hN16 hdN hn5 (by rw [unhide HZL]; omega) (unhide HO5) (unhide HG5) (unhide HZF) ?_
    intro u15 u16 u17 u18 u19 u20 u21 u154 u155 u156 u157 u158 u159 u160 u161 u162 u163 u164 u165 u166 u167 u168 u169 u170 u171 u172 u173 u174 u175 u176 u177 u178 u179 u180 u181 u182 u183 u184 u185 u186 u187 u188 u189 u190 u191 u192 u193 u194 u195 u196 u197 u198 u199 u200 u201 u202 u203 u204 u205 u206 u207 u208 u209 u210 u211 u212 u213 u214 u215 u216 u217 u218 u219 u220 u221 u222 u223 u224 u225 u226 u227 u228 u229 u230 u231 u232 u233 u234 u235 u236 u237 u238 u239 u240 u241 u242 u243 u244 u245 u246 u247 u248 u249 u250 u251 u252 u253 u254 u255 u256 u257 u258 u259 u260 u261 u262 u263 u264 u265 u266 u267 u268 u269 u270 u271 u272 u273 u274 u275 u276 u277 u278 u279 u280 u281 u282 u283 u284 u285 u286 u287 u288 u289 wr4 o2 hO4 hG4 hkp4 hb4 hgd4
    have HO4 := hide hO4
    have HG4 := hide hG4
    have HKP4 : Hid (∀ j, j < N → keep zs j = true → o2.getD j [] = l.getD j []) := fun j hj hk => by rw [hkp4 j hj hk, madeL_get hj hk]
    have HGD4 := hide hgd4
    have HB4 := hide ((unhide HB).trans (((unhide HK5).trans (hb4.mono hz2)).mono (unhide HB).size))
    have hzA := (unhide HB).size
    clear hO4 hG4 hkp4 hb4 hgd4 HO5 HG5 HK5 HZF
    have hfr := (unhide HO4).front (d := d) (c := cO) (by omega) hcN hcM
    have hrl := (unhide HO4).rl
    go_wp2_with fail
    refine (rparity_any _ gO _ _ (o2.take d) wr4 hfr (fun i => by
      by_cases hi : i < d
      · rw [getD_take hi, hrl i (by omega)]; exact hn5
      · rw [List.getD_eq_getElem?_getD, List.getElem?_eq_none (by simp; omega)]; simp)).mono ?_
    clear hfr hrl
    rintro e9 w5 ⟨v1, v2, rfl, hP, hQ, hk5⟩
    obtain ⟨HFIX0, hlP, hlQ⟩ := fix_fin (l := l) (o := o2) (zs := zs) (d := d) (n := n) (by rw [unhide HN]; exact hdN.symm) hd2 hd14 (by rw [hdN]; exact unhide HPK) (by rw [hdN]; exact unhide HSZ) (by rw [hdN]; exact (unhide HO4).len) (by rw [hdN]; exact (unhide HO4).rl) (unhide HO4).bs (by rw [hdN]; exact unhide HKP4) (unhide HGD4)
    have HFIX := hide HFIX0
    clear HFIX0
    obtain ⟨bP, bQ⟩ := par_bs (l := o2.take d) (fun i => by
      by_cases hi : i < d
      · rw [getD_take hi]; exact (unhide HO4).bs i
      · rw [List.getD_eq_getElem?_getD, List.getElem?_eq_none (by simp; omega)]; exact Bs.nil)
    obtain ⟨g1, hA1, hg1⟩ := hP.arg bP
    obtain ⟨g2, hA2, hg2⟩ := hQ.arg bQ
    obtain ⟨p1, c1, hv1, _⟩ := hA1.ex
    obtain ⟨p2, c2, hv2, _⟩ := hA2.ex
    rw [hlP] at hv1
    rw [hlQ] at hv2
    subst hv1
    subst hv2
    have hgOl := (unhide HO4).lt
    have HT5 := hide ((unhide HO4).tn.below hk5)
    have HB5 := hide ((unhide HB4).trans (hk5.mono (unhide HB4).size))
    have HG5 := hide ((unhide HG4).of (hk5.block _ (unhide HG4).lt))
    have hz5 := hk5.size
    obtain ⟨P1, hP1⟩ : ∃ q, pP (o2.take d) = q := ⟨_, rfl⟩
    obtain ⟨Q1, hQ1⟩ : ∃ q, pQ (o2.take d) = q := ⟨_, rfl⟩
    rw [hP1, hQ1] at HFIX
    rw [hP1] at hA1 hlP
    rw [hQ1] at hA2 hlQ
    have HA1 := hide hA1
    have HA2 := hide hA2
    have HLP := hide hlP
    have HLQ := hide hlQ
    obtain ⟨pz, hpz⟩ : ∃ q, (List.range N).map (fun i => (some (⟨gOf ps i, 0, none⟩ : Addr), psC ps i)) = q := ⟨_, rfl⟩
    rw [hpz] at HT5
    clear hP hQ hk5 bP bQ hA1 hA2 hlP hlQ hP1 hQ1 HO4 HKP4 HGD4 HB4 HG4 hpz
    cases hkd : keep zs d with
    | true =>
      have hbd : w5.cell? ⟨wA.heap.size, d, none⟩ = some (.bool false) := by
        have h := (unhide HG5).cell hdN1
        rwa [show (!keep zs d) = false by rw [hkd]; rfl] at h
      have HKD := hide hkd
      clear hkd
      cases hke : keep zs e with
      | true =>
        have hbe : w5.cell? ⟨wA.heap.size, e, none⟩ = some (.bool false) := by
          have h := (unhide HG5).cell heN1
          rwa [show (!keep zs e) = false by rw [hke]; rfl] at h
        have HKE := hide hke
        clear hke
        have HF := hide (unhide HFIX)
        have HFE : Hid (fin o2 zs d P1 Q1 = o2) := by
          show _ = _
          unfold fin
          rw [unhide HE0, unhide HKD, unhide HKE]
          simp
        rw [unhide HFE] at HF
        have HR := hide ((unhide HT5).arg hcN hcM)
        go_wp2_with fail
        go_returns
        exact ⟨unhide HB5, .inl ⟨unhide HYES, _, _, _, _, _, n, rfl, unhide HR, unhide HF⟩⟩
      | false =>
        have hbe : w5.cell? ⟨wA.heap.size, e, none⟩ = some (.bool true) := by
          have h := (unhide HG5).cell heN1
          rwa [show (!keep zs e) = true by rw [hke]; rfl] at h
        have HKE := hide hke
        clear hke
        obtain ⟨hce, hfe⟩ := (unhide HT5).cell heN1
        have HT7 := hide ((unhide HT5).set (a := p2) (c := c2) (g := g2) (r := Q1) heN1 (by rw [unhide HLQ]; exact unhide HA2) (fun _ => by omega))
        rw [unhide HLQ] at HT7
        have HB7 := hide (below_kp (unhide HB5) ((Kp.refl [gO] _).setCell ⟨gO, e, none⟩ (.slice p2 n c2) (.inl (by simp))) (by simp; omega) (unhide HB5).size)
        have HF := hide (unhide HFIX)
        have HFE : Hid (fin o2 zs d P1 Q1 = (o2).set e Q1) := by
          show _ = _
          unfold fin
          rw [unhide HE0, unhide HKD, unhide HKE]
          simp
        rw [unhide HFE] at HF
        have HR := hide ((unhide HT7).arg hcN hcM)
        go_wp2_with fail
        go_returns
        exact ⟨unhide HB7, .inl ⟨unhide HYES, _, _, _, _, _, n, rfl, unhide HR, unhide HF⟩⟩
    | false =>
      have hbd : w5.cell? ⟨wA.heap.size, d, none⟩ = some (.bool true) := by
        have h := (unhide HG5).cell hdN1
        rwa [show (!keep zs d) = true by rw [hkd]; rfl] at h
      have HKD := hide hkd
      clear hkd
      obtain ⟨hcd, hfd⟩ := (unhide HT5).cell hdN1
      have HT6 := hide ((unhide HT5).set (a := p1) (c := c1) (g := g1) (r := P1) hdN1 (by rw [unhide HLP]; exact unhide HA1) (fun _ => by omega))
      rw [unhide HLP] at HT6
      have hkw : Kp [gO] w5 (w5.setCell ⟨gO, d, none⟩ (.slice p1 n c1)) := (Kp.refl _ _).setCell _ _ (.inl (by simp))
      have HB6 := hide (below_kp (unhide HB5) hkw (by simp; omega) (unhide HB5).size)
      have HA26 := hide (arg_kp (unhide HA2) hkw (fun _ => by simp; omega))
      have HG6 := hide ((unhide HG5).kp hkw (by simp; omega))
      clear hkw
      cases hke : keep zs e with
      | true =>
        have hbe : (w5.setCell ⟨gO, d, none⟩ (.slice p1 n c1)).cell? ⟨wA.heap.size, e, none⟩ = some (.bool false) := by
          have h := (unhide HG6).cell heN1
          rwa [show (!keep zs e) = false by rw [hke]; rfl] at h
        have HKE := hide hke
        clear hke
        have HF := hide (unhide HFIX)
        have HFE : Hid (fin o2 zs d P1 Q1 = o2.set d P1) := by
          show _ = _
          unfold fin
          rw [unhide HE0, unhide HKD, unhide HKE]
          simp
        rw [unhide HFE] at HF
        have HR := hide ((unhide HT6).arg hcN hcM)
        go_wp2_with fail
        go_returns
        exact ⟨unhide HB6, .inl ⟨unhide HYES, _, _, _, _, _, n, rfl, unhide HR, unhide HF⟩⟩
      | false =>
        have hbe : (w5.setCell ⟨gO, d, none⟩ (.slice p1 n c1)).cell? ⟨wA.heap.size, e, none⟩ = some (.bool true) := by
          have h := (unhide HG6).cell heN1
          rwa [show (!keep zs e) = true by rw [hke]; rfl] at h
        have HKE := hide hke
        clear hke
        obtain ⟨hce, hfe⟩ := (unhide HT6).cell heN1
        have HT7 := hide ((unhide HT6).set (a := p2) (c := c2) (g := g2) (r := Q1) heN1 (by rw [unhide HLQ]; exact unhide HA26) (fun _ => by omega))
        rw [unhide HLQ] at HT7
        have HB7 := hide (below_kp (unhide HB6) ((Kp.refl [gO] _).setCell ⟨gO, e, none⟩ (.slice p2 n c2) (.inl (by simp))) (by simp; omega) (unhide HB6).size)
        have HF := hide (unhide HFIX)
        have HFE : Hid (fin o2 zs d P1 Q1 = (o2.set d P1).set e Q1) := by
          show _ = _
          unfold fin
          rw [unhide HE0, unhide HKD, unhide HKE]
          simp
        rw [unhide HFE] at HF
        have HR := hide ((unhide HT7).arg hcN hcM)
        go_wp2_with fail
        go_returns
        exact ⟨unhide HB7, .inl ⟨unhide HYES, _, _, _, _, _, n, rfl, unhide HR, unhide HF⟩⟩

end Go.Proofs.YtjdikhelabibnaaGreat
