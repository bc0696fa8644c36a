/-
  The walk of CodeOrder.
-/
import Derived.Test.YtgjnmmekeaklpaaByte
import Derived.Test.YtgjnmmekeaklpaaRefW
import Derived.Test.YtgjnmmekeaklpaaDrive
import Derived.Deep.DrawnRows
namespace Go.Proofs.Ytgjnmmekeaklpaa
open Go.RowKit
attribute [local go_sem ↓] Go.wp_at_zero Go.wp_at_succ

/-- What has been put after k rounds. -/
def putO (ns : List Int) (m : Int) : Nat → List Int
  | 0 => []
  | k + 1 => putO ns m k ++ (by8 8 (IntKind.u64.wrap (ns.getD k 0)) ++ by8 1 (IntKind.u64.wrap m))

theorem putO_length (ns : List Int) (m : Int) (k : Nat) : (putO ns m k).length = 9 * k := by
  induction k with
  | zero => rfl
  | succ k ih => rw [putO, List.length_append, ih, List.length_append, by8_length, by8_length]; omega

theorem row_sub {w : World} {q : Nat} {xs ys : List Int} (h : Row w (some ⟨q, 0, none⟩) q (xs ++ ys)) : Row w (some ⟨q, 0, none⟩) q xs ∧ Row w (some ⟨q, xs.length, none⟩) q ys := by
  rcases h with h | ⟨o, ho, hc⟩
  · obtain ⟨rfl, rfl⟩ := List.append_eq_nil_iff.1 h
    exact ⟨.inl rfl, .inl rfl⟩
  · simp only [Option.some.injEq, Addr.mk.injEq, true_and, and_true] at ho
    subst ho
    refine ⟨.inr ⟨0, rfl, fun j hj => ?_⟩, .inr ⟨xs.length, rfl, fun j hj => ?_⟩⟩
    · rw [hc j (by simp; omega)]
      rw [List.getD_eq_getElem?_getD, List.getElem?_append_left hj, ← List.getD_eq_getElem?_getD]
    · have := hc (xs.length + j) (by simp; omega)
      rw [Nat.zero_add] at this
      rw [this]
      rw [List.getD_eq_getElem?_getD, List.getElem?_append_right (by omega), ← List.getD_eq_getElem?_getD, Nat.add_sub_cancel_left]

set_option maxRecDepth 100000 in
set_option maxHeartbeats 4000000 in
theorem order_walk (a : Option Addr) (g len cap : Nat) (ns : List Int) (m : Int) (w : World) (hl : ns.length = len) (hlm : len ≤ maxLen) (hr : IRow w a g ns) :
    Calls Try.prog 8 #[.slice a len cap, .int .i64 m] w fun x w' => x = .returned (.bool true) ∧ Below w.heap.size w w' := by
  have HR := hide hr
  have HL := hide hl
  unfold maxLen at hlm
  clear hr hl
  go_enter Try.func8, Try.ntmps8
  go_wp2_with fail
  refine (known_any w).mono ?_
  rintro x w1 ⟨rfl, hk1⟩
  have HK1 := hide hk1
  clear hk1
  go_wp2_with fail
  go_loopw [5, 6] (fun v i wr => ∃ k q L C : Nat, ∃ ao : Option Addr, k ≤ len ∧ k ≤ 20 ∧ i = .int .i64 k ∧ v = .slice ao L C ∧ (putO ns m k).length = L ∧ Row wr ao q (putO ns m k) ∧ L ≤ C ∧ Kp [] w wr) (fun _ i _ => 20 - (intOf i).toNat)
  case atStart => exact ⟨0, 0, 0, 0, none, by omega, by omega, rfl, rfl, rfl, .inl rfl, by omega, unhide HK1⟩
  case round =>
    obtain ⟨k, q, L, C, ao, hkl, hk20, rfl, rfl, hL, hrow, hLC, hkp⟩ := hrel
    have hL180 : L ≤ 180 := by have := putO_length ns m k; omega
    have HLL := hide hL
    have HRW := hide hrow
    have HKP := hide hkp
    clear hL hrow hkp HK1
    by_cases hlt : k < len ∧ k < 20
    · obtain ⟨hlt1, hlt2⟩ := hlt
      obtain ⟨o, rfl, hcs⟩ : ∃ o, a = some ⟨g, o, none⟩ ∧ ∀ j, j < ns.length → w.cell? ⟨g, o + j, none⟩ = some (.int .i64 (ns.getD j 0)) := by
        rcases unhide HR with h0 | h0
        · have := unhide HL; rw [h0] at this; simp at this; omega
        · exact h0
      have hck := (unhide HKP).cell (hcs k (by rw [unhide HL]; exact hlt1)) (by simp)
      clear hcs
      have HPU : Hid (putO ns m (k + 1) = putO ns m k ++ (by8 8 (IntKind.u64.wrap (ns.getD k 0)) ++ by8 1 (IntKind.u64.wrap m))) := rfl
      generalize ns.getD k 0 = z at *
      generalize putO ns m k = E at *
      have hj0 : (0 : Int) ≤ (k : Int) := by omega
      have hj1 : (k : Int) < (len : Int) := by omega
      go_wp2_with fail
      refine (int_any ao q L C z E wr (by omega) (unhide HLL) (unhide HRW)).mono ?_
      rintro x w2 ⟨q2, rfl, hq2, ho2, hk2⟩
      have HO2 := hide ho2
      have HK2 := hide hk2
      clear ho2 hk2
      go_wp2_with fail
      refine (byte_any (some ⟨q2, 0, none⟩) q2 (L + 8) (L + 8) m (E ++ by8 8 (IntKind.u64.wrap z)) w2 (by omega) (len_of_owns (unhide HO2)) (row_of_owns (unhide HO2))).mono ?_
      rintro x w3 ⟨q3, rfl, hq3, ho3, hk3⟩
      have HO3 := hide ho3
      have HK3 := hide ((unhide HK2).trans hk3 (by simp))
      clear ho3 hk3 HO2 HK2
      have hrows := row_sub (xs := E) (ys := by8 8 (IntKind.u64.wrap z) ++ by8 1 (IntKind.u64.wrap m)) (by rw [← List.append_assoc]; exact row_of_owns (unhide HO3))
      have hl9 : (by8 8 (IntKind.u64.wrap z) ++ by8 1 (IntKind.u64.wrap m)).length = 9 := by rw [List.length_append, by8_length, by8_length]
      have HN : Hid (∃ q C, (E ++ by8 8 (IntKind.u64.wrap z) ++ by8 1 (IntKind.u64.wrap m)).length = L + 8 + 1 ∧ Row w3 (some ⟨q3, 0, none⟩) q (E ++ by8 8 (IntKind.u64.wrap z) ++ by8 1 (IntKind.u64.wrap m)) ∧ L + 8 + 1 ≤ C ∧ C = L + 8 + 1) :=
        ⟨q3, _, len_of_owns (unhide HO3), row_of_owns (unhide HO3), Nat.le_refl _, rfl⟩
      clear HO3
      generalize hM : L + 8 + 1 = M at *
      have hLM : L < M := by omega
      have hM9 : M - L = 9 := by omega
      have hMm : M ≤ 189 := by omega
      have hne : ((M : Int) != (L : Int) + 9) = false := by rw [bne_eq_false_iff_eq]; omega
      obtain ⟨Z, hZ⟩ : ∃ Z, by8 8 (IntKind.u64.wrap z) ++ by8 1 (IntKind.u64.wrap m) = Z := ⟨_, rfl⟩
      have HZ := hide hZ
      rw [hZ] at hrows hl9
      have hr0 := (unhide HRW).keep (unhide HK3) (by simp)
      rw [unhide HLL] at hrows
      have HS : Hid (∀ W, Kp [] w3 W → (W.cell? ⟨g, o + k, none⟩ = some (.int .i64 z) ∧ (convert 22 9 (.slice (some ⟨q3, 0, none⟩) L M)).run Try.prog W = .ok (.string (strOf E)) W ∧ (convert 22 9 (.slice ao L C)).run Try.prog W = .ok (.string (strOf E)) W ∧
          (convert 22 9 (.slice (some ⟨q3, L, none⟩) (M - L) (M - L))).run Try.prog W = .ok (.string (strOf Z)) W)) := by
        intro W hW
        refine ⟨hW.cell ((unhide HK3).cell hck (by simp)) (by simp), run_conv W _ q3 L M E (unhide HLL) (hrows.1.keep hW (by simp)), run_conv W _ q L C E (unhide HLL) (hr0.keep hW (by simp)), ?_⟩
        rw [hM9]
        exact run_conv W _ q3 9 9 Z hl9 (hrows.2.keep hW (by simp))
      have HM := hide hM
      have HM9 := hide hM9
      clear hM hZ hrows hr0 hl9 hck hM9
      have hL0 : (0 : Int) ≤ (L : Int) := by omega
      have hL1 : (L : Int) ≤ (M : Int) := by omega
      have hL2 : (L : Int) < (M : Int) := by omega
      have hML : ¬ M = L := by omega
      have hwr : IntKind.i64.wrap ((L : Int) + 9) = (L : Int) + 9 := IntWalk.i64_in _ ⟨by omega, by omega⟩
      go_wp2_with fail
      refine wp_region_noPanic ?_
      refine wp_region_held_drew (S := fun W => W.cell? ⟨g, o + k, none⟩ = some (.int .i64 z) ∧ (convert 22 9 (.slice (some ⟨q3, 0, none⟩) L M)).run Try.prog W = .ok (.string (strOf E)) W ∧ (convert 22 9 (.slice ao L C)).run Try.prog W = .ok (.string (strOf E)) W ∧ (convert 22 9 (.slice (some ⟨q3, L, none⟩) (M - L) (M - L))).run Try.prog W = .ok (.string (strOf Z)) W) (by kernel_rfl) ?_ (fun hHeld => ?_)
      · exact unhide HS _ ((Kp.refl _ _).drew)
      refine takeL (i := 0) (v := ?_) rfl (by kernel_rfl) (by kernel_rfl) (by kernel_rfl) (fun _ _ _ h => h) (Or.inl ⟨by rfl, ?_⟩) hHeld ?_
      rotate_left 1
      · intro W hSW; (try dsimp only at hSW); go_simp; all_goals (with_reducible rfl)
      (try simp only [Act.put, List.setIfInBounds_toArray, List.set_cons_zero, List.set_cons_succ])
      refine takeL (i := 1) (v := ?_) rfl (by kernel_rfl) (by kernel_rfl) (by kernel_rfl) (fun _ _ _ h => h) (Or.inl ⟨by rfl, ?_⟩) hHeld ?_
      rotate_left 1
      · intro W hSW; (try dsimp only at hSW); go_simp; all_goals (with_reducible rfl)
      (try simp only [Act.put, List.setIfInBounds_toArray, List.set_cons_zero, List.set_cons_succ])
      refine takeL (i := 2) (v := ?_) rfl (by kernel_rfl) (by kernel_rfl) (by kernel_rfl) (fun _ _ _ h => h) (Or.inl ⟨by rfl, ?_⟩) hHeld ?_
      rotate_left 1
      · intro W hSW; (try dsimp only at hSW); go_simp; all_goals (with_reducible rfl)
      (try simp only [Act.put, List.setIfInBounds_toArray, List.set_cons_zero, List.set_cons_succ])
      refine takeL (i := 3) (v := ?_) rfl (by kernel_rfl) (by kernel_rfl) (by kernel_rfl) (fun _ _ _ h => h) (Or.inl ⟨by rfl, ?_⟩) hHeld ?_
      rotate_left 1
      · intro W hSW; (try dsimp only at hSW); go_simp; all_goals (with_reducible rfl)
      (try simp only [Act.put, List.setIfInBounds_toArray, List.set_cons_zero, List.set_cons_succ])
      refine takeL (i := 4) (v := ?_) rfl (by kernel_rfl) (by kernel_rfl) (by kernel_rfl) (fun _ _ _ h => h) (Or.inl ⟨by rfl, ?_⟩) hHeld ?_
      rotate_left 1
      · intro W hSW; (try dsimp only at hSW); go_simp; all_goals (with_reducible rfl)
      (try simp only [Act.put, List.setIfInBounds_toArray, List.set_cons_zero, List.set_cons_succ])
      refine takeL (i := 5) (v := ?_) rfl (by kernel_rfl) (by kernel_rfl) (by kernel_rfl) (fun _ _ _ h => h) (Or.inl ⟨by rfl, ?_⟩) hHeld ?_
      rotate_left 1
      · intro W hSW; (try dsimp only at hSW); go_simp; all_goals (with_reducible rfl)
      (try simp only [Act.put, List.setIfInBounds_toArray, List.set_cons_zero, List.set_cons_succ])
      refine takeL (i := 6) (v := ?_) rfl (by kernel_rfl) (by kernel_rfl) (by kernel_rfl) (fun _ _ _ h => h) (Or.inl ⟨by rfl, ?_⟩) hHeld ?_
      rotate_left 1
      · intro W hSW; (try dsimp only at hSW); go_simp; all_goals (with_reducible rfl)
      (try simp only [Act.put, List.setIfInBounds_toArray, List.set_cons_zero, List.set_cons_succ])
      refine takeL (i := 7) (v := ?_) rfl (by kernel_rfl) (by kernel_rfl) (by kernel_rfl) (fun _ _ _ h => h) (Or.inl ⟨by rfl, ?_⟩) hHeld ?_
      rotate_left 1
      · intro W hSW; (try dsimp only at hSW); go_simp; all_goals (with_reducible rfl)
      (try simp only [Act.put, List.setIfInBounds_toArray, List.set_cons_zero, List.set_cons_succ])
      refine takeL (i := 8) (v := ?_) rfl (by kernel_rfl) (by kernel_rfl) (by kernel_rfl) (fun _ _ _ h => h) (Or.inl ⟨by rfl, ?_⟩) hHeld ?_
      rotate_left 1
      · intro W hSW; (try dsimp only at hSW); go_simp; all_goals (with_reducible rfl)
      (try simp only [Act.put, List.setIfInBounds_toArray, List.set_cons_zero, List.set_cons_succ])
      refine takeL (i := 9) (v := ?_) rfl (by kernel_rfl) (by kernel_rfl) (by kernel_rfl) (fun _ _ _ h => h) (Or.inl ⟨by rfl, ?_⟩) hHeld ?_
      rotate_left 1
      · intro W hSW; (try dsimp only at hSW); go_simp; all_goals (with_reducible rfl)
      (try simp only [Act.put, List.setIfInBounds_toArray, List.set_cons_zero, List.set_cons_succ])
      refine takeL (i := 10) (v := ?_) rfl (by kernel_rfl) (by kernel_rfl) (by kernel_rfl) (fun _ _ _ h => h) (Or.inl ⟨by rfl, ?_⟩) hHeld ?_
      rotate_left 1
      · intro W hSW; (try dsimp only at hSW); go_simp; all_goals (with_reducible rfl)
      (try simp only [Act.put, List.setIfInBounds_toArray, List.set_cons_zero, List.set_cons_succ])
      refine takeL (i := 11) (v := ?_) rfl (by kernel_rfl) (by kernel_rfl) (by kernel_rfl) (fun _ _ _ h => h) (Or.inl ⟨by rfl, ?_⟩) hHeld ?_
      rotate_left 1
      · intro W hSW; (try dsimp only at hSW); go_simp; all_goals (with_reducible rfl)
      (try simp only [Act.put, List.setIfInBounds_toArray, List.set_cons_zero, List.set_cons_succ])
      refine takeL (i := 12) (v := ?_) rfl (by kernel_rfl) (by kernel_rfl) (by kernel_rfl) (fun _ _ _ h => h) (Or.inl ⟨by rfl, ?_⟩) hHeld ?_
      rotate_left 1
      · intro W hSW; (try dsimp only at hSW); go_simp; all_goals (with_reducible rfl)
      (try simp only [Act.put, List.setIfInBounds_toArray, List.set_cons_zero, List.set_cons_succ])
      refine takeL (i := 13) (v := ?_) rfl (by kernel_rfl) (by kernel_rfl) (by kernel_rfl) (fun _ _ _ h => h) (Or.inl ⟨by rfl, ?_⟩) hHeld ?_
      rotate_left 1
      · intro W hSW; (try dsimp only at hSW); go_simp; all_goals (with_reducible rfl)
      (try simp only [Act.put, List.setIfInBounds_toArray, List.set_cons_zero, List.set_cons_succ])
      refine takeL (i := 14) (v := ?_) rfl (by kernel_rfl) (by kernel_rfl) (by kernel_rfl) (fun _ _ _ h => h) (Or.inl ⟨by rfl, ?_⟩) hHeld ?_
      rotate_left 1
      · intro W hSW; (try dsimp only at hSW); go_simp; all_goals (with_reducible rfl)
      (try simp only [Act.put, List.setIfInBounds_toArray, List.set_cons_zero, List.set_cons_succ])
      refine takeL (i := 15) (v := ?_) rfl (by kernel_rfl) (by kernel_rfl) (by kernel_rfl) (fun _ _ _ h => h) (Or.inl ⟨by rfl, ?_⟩) hHeld ?_
      rotate_left 1
      · intro W hSW; (try dsimp only at hSW); go_simp; all_goals (with_reducible rfl)
      (try simp only [Act.put, List.setIfInBounds_toArray, List.set_cons_zero, List.set_cons_succ])
      refine takeL (i := 16) (v := ?_) rfl (by kernel_rfl) (by kernel_rfl) (by kernel_rfl) (fun _ _ _ h => h) (Or.inl ⟨by rfl, ?_⟩) hHeld ?_
      rotate_left 1
      · intro W hSW; (try dsimp only at hSW); go_simp; all_goals (with_reducible rfl)
      (try simp only [Act.put, List.setIfInBounds_toArray, List.set_cons_zero, List.set_cons_succ])
      refine takeL (i := 17) (v := ?_) rfl (by kernel_rfl) (by kernel_rfl) (by kernel_rfl) (fun _ _ _ h => h) (Or.inl ⟨by rfl, ?_⟩) hHeld ?_
      rotate_left 1
      · intro W hSW; (try dsimp only at hSW); go_simp; all_goals (with_reducible rfl)
      (try simp only [Act.put, List.setIfInBounds_toArray, List.set_cons_zero, List.set_cons_succ])
      refine takeL (i := 18) (v := ?_) rfl (by kernel_rfl) (by kernel_rfl) (by kernel_rfl) (fun _ _ _ h => h) (Or.inl ⟨by rfl, ?_⟩) hHeld ?_
      rotate_left 1
      · intro W hSW; (try dsimp only at hSW); go_simp; all_goals (with_reducible rfl)
      (try simp only [Act.put, List.setIfInBounds_toArray, List.set_cons_zero, List.set_cons_succ])
      refine takeL (i := 19) (v := ?_) rfl (by kernel_rfl) (by kernel_rfl) (by kernel_rfl) (fun _ _ _ h => h) (Or.inl ⟨by rfl, ?_⟩) hHeld ?_
      rotate_left 1
      · intro W hSW; (try dsimp only at hSW); go_simp; all_goals (with_reducible rfl)
      (try simp only [Act.put, List.setIfInBounds_toArray, List.set_cons_zero, List.set_cons_succ])
      refine takeL (i := 20) (v := ?_) rfl (by kernel_rfl) (by kernel_rfl) (by kernel_rfl) (fun _ _ _ h => h) (Or.inl ⟨by rfl, ?_⟩) hHeld ?_
      rotate_left 1
      · intro W hSW; (try dsimp only at hSW); go_simp; all_goals (with_reducible rfl)
      (try simp only [Act.put, List.setIfInBounds_toArray, List.set_cons_zero, List.set_cons_succ])
      refine takeL (i := 21) (v := ?_) rfl (by kernel_rfl) (by kernel_rfl) (by kernel_rfl) (fun _ _ _ h => h) (Or.inl ⟨by rfl, ?_⟩) hHeld ?_
      rotate_left 1
      · intro W hSW; (try dsimp only at hSW); go_simp; all_goals (with_reducible rfl)
      (try simp only [Act.put, List.setIfInBounds_toArray, List.set_cons_zero, List.set_cons_succ])
      refine takeL (i := 22) (v := ?_) rfl (by kernel_rfl) (by kernel_rfl) (by kernel_rfl) (fun _ _ _ h => h) (Or.inl ⟨by rfl, ?_⟩) hHeld ?_
      rotate_left 1
      · intro W hSW; (try dsimp only at hSW); go_simp; all_goals (with_reducible rfl)
      (try simp only [Act.put, List.setIfInBounds_toArray, List.set_cons_zero, List.set_cons_succ])
      refine takeL (i := 23) (v := ?_) rfl (by kernel_rfl) (by kernel_rfl) (by kernel_rfl) (fun _ _ _ h => h) (Or.inl ⟨by rfl, ?_⟩) hHeld ?_
      rotate_left 1
      · intro W hSW; (try dsimp only at hSW); go_simp; all_goals (with_reducible rfl)
      (try simp only [Act.put, List.setIfInBounds_toArray, List.set_cons_zero, List.set_cons_succ])
      refine takeL (i := 24) (v := ?_) rfl (by kernel_rfl) (by kernel_rfl) (by kernel_rfl) (fun _ _ _ h => h) (Or.inl ⟨by rfl, ?_⟩) hHeld ?_
      rotate_left 1
      · intro W hSW; (try dsimp only at hSW); go_simp; all_goals (with_reducible rfl)
      (try simp only [Act.put, List.setIfInBounds_toArray, List.set_cons_zero, List.set_cons_succ])
      refine takeL (i := 25) (v := ?_) rfl (by kernel_rfl) (by kernel_rfl) (by kernel_rfl) (fun _ _ _ h => h) (Or.inl ⟨by rfl, ?_⟩) hHeld ?_
      rotate_left 1
      · intro W hSW; (try dsimp only at hSW); go_simp; all_goals (with_reducible rfl)
      (try simp only [Act.put, List.setIfInBounds_toArray, List.set_cons_zero, List.set_cons_succ])
      refine takeL (i := 27) (v := ?_) rfl (by kernel_rfl) (by kernel_rfl) (by kernel_rfl) (fun _ _ _ h => h) (Or.inl ⟨by rfl, ?_⟩) hHeld ?_
      rotate_left 1
      · intro W hSW; (try dsimp only at hSW); go_simp; all_goals (with_reducible rfl)
      (try simp only [Act.put, List.setIfInBounds_toArray, List.set_cons_zero, List.set_cons_succ])
      refine wpAnyH_ready (rs := [26]) (by kernel_rfl) (by simp) ?_
      refine consL rfl (fun K hK => ?_) AllReadyH.nil
      go_simp
      refine (xwint (.slice none 0 0) 0 [] z w3.heap.size _ (by exact World.ownsRow_nil _ _ _ _) (by omega) (by exact Nat.le_refl _)).mono ?_
      rintro e w6 ⟨g6, c6, rfl, ho6, hk6, hg6⟩
      rw [List.nil_append] at ho6
      have hk6' : Kp [] w3 w6 := ((Kp.refl [] w3).drew).trans hk6 (by simp [Value.ownBlock])
      have hg6' : w3.heap.size ≤ g6 := by
        rcases hg6 with h | h
        · simp [Value.ownBlock] at h
        · exact h
      have HK6 := hide hk6'
      have HO6 := hide ho6
      clear ho6 hk6 hk6' hg6
      go_wp2_with fail
      refine hK.out _ _ (unhide HS w6 (unhide HK6)) (fun hHeld => ?_)
      clear hK K
      (try simp only [Act.put, List.setIfInBounds_toArray, List.set_cons_zero, List.set_cons_succ])
      refine wpAnyH_ready (rs := [28]) (by kernel_rfl) (by simp) ?_
      refine consL rfl (fun K hK => ?_) AllReadyH.nil
      go_simp
      refine (xwbyte (.slice (some ⟨g6, 0, none⟩) 8 c6) 8 (by8 8 (IntKind.u64.wrap z)) m w3.heap.size _ (by exact unhide HO6) (by omega) (by exact (unhide HK6).size)).mono ?_
      rintro e w7 ⟨g7, c7, rfl, ho7, hk7, hg7⟩
      have HK7 := hide ((unhide HK6).trans hk7 (by simpa [Value.ownBlock] using hg6'))
      have hcv7 := run_conv w7 (some ⟨g7, 0, none⟩) g7 9 c7 _ (len_of_owns ho7) (row_of_owns ho7)
      rw [show [m % 256] = by8 1 (IntKind.u64.wrap m) from by simp only [by8]; rw [IntKind.wrap_u64]; congr 1; omega, unhide HZ] at hcv7
      clear ho7 hk7 hg7
      go_wp2_with fail
      refine hK.out _ _ (unhide HS w7 (unhide HK7)) (fun hHeld => ?_)
      clear hK K
      (try simp only [Act.put, List.setIfInBounds_toArray, List.set_cons_zero, List.set_cons_succ])
      refine wpAnyH_ready (rs := [29]) (by kernel_rfl) (by simp) ?_
      refine consL rfl (fun K hK => ?_) AllReadyH.nil
      go_simp
      refine hK.out _ _ (unhide HS w7 (unhide HK7)) (fun hHeld => ?_)
      clear hK K
      (try simp only [Act.put, List.setIfInBounds_toArray, List.set_cons_zero, List.set_cons_succ])
      refine takeL (i := 30) (v := ?_) rfl (by kernel_rfl) (by kernel_rfl) (by kernel_rfl) (fun _ _ _ h => h) (Or.inl ⟨by rfl, ?_⟩) hHeld ?_
      rotate_left 1
      · intro W hSW; (try dsimp only at hSW); go_simp; all_goals (with_reducible rfl)
      (try simp only [Act.put, List.setIfInBounds_toArray, List.set_cons_zero, List.set_cons_succ])
      refine takeL (i := 31) (v := ?_) rfl (by kernel_rfl) (by kernel_rfl) (by kernel_rfl) (fun _ _ _ h => h) (Or.inl ⟨by rfl, ?_⟩) hHeld ?_
      rotate_left 1
      · intro W hSW; (try dsimp only at hSW); go_simp; all_goals (with_reducible rfl)
      (try simp only [Act.put, List.setIfInBounds_toArray, List.set_cons_zero, List.set_cons_succ])
      refine wpAnyH_done (by kernel_rfl) ?_ _
      refine NoPanic.normal ?_
      go_wp2
      go_roundw
      case rel =>
        obtain ⟨q9, C9, h91, h92, h93, h94⟩ := unhide HN
        rw [List.append_assoc, ← unhide HPU] at h91 h92
        exact ⟨k + 1, q9, M, M, some ⟨q3, 0, none⟩, by omega, by omega, by go_num, rfl, h91, h92.keep (unhide HK7) (by simp), by omega, ((unhide HKP).trans (unhide HK3) (by simp)).trans (unhide HK7) (by simp)⟩
      case measure => simp [intOf]; omega
    · have hlt' : len ≤ k ∨ (k < len ∧ 20 ≤ k) := by omega
      rcases hlt' with h1 | ⟨h1, h2⟩
      all_goals
        go_wp2
        go_ret
        exact ⟨rfl, (unhide HKP).below⟩

end Go.Proofs.Ytgjnmmekeaklpaa
