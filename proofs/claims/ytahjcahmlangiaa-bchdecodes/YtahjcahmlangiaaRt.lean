/-
  The second telling's polynomials (ramekinref3): Trim, Add, Mul.
-/
import Derived.Test.YtahjcahmlangiaaPs
namespace Go.Proofs.Ytahjcahmlangiaa
open Go.RowKit

set_option maxRecDepth 100000 in
set_option maxHeartbeats 2000000 in
theorem rtrim_any (v : Value) (g : Nat) (s : List Nat) (w : World) (hA : Arg w v g s) (hs : s.length ≤ 100000) :
    Calls Try.prog 52 #[v] w fun e w' => ∃ v', e = .returned v' ∧ Fr w.heap.size w' v' (trim s) ∧ Below w.heap.size w w' := by
  obtain ⟨⟨ao, c, rfl, hnc, hcm, hnil, hr⟩, hbs⟩ := hA
  obtain ⟨n, hl⟩ : ∃ n, s.length = n := ⟨_, rfl⟩
  rw [hl] at hnc hs ⊢
  have HR := hide hr
  have HN := hide hnil
  have HL := hide hl
  unfold maxLen at hcm
  clear hr hnil hl
  obtain ⟨i0, hi0, hz0, hz1, hz2⟩ := info_parts infoE
  have HI := hide hi0
  clear hi0
  have HO := hide (World.ownsRow_lit (base := w.heap.size) (e := 5) (size := 1) w #[] 0 (Nat.le_refl _) (by unfold maxLen; omega) rfl)
  have HR2 : Hid (Row (w.alloc (.cells #[] 5)) ao g (ints s)) := (unhide HR).keep ((Kp.refl [] w).alloc _) (by simp)
  go_enter Try.func52, Try.ntmps52
  go_wp2_with fail
  go_loop [3] (fun p => ∃ e : Nat, p = .int .i64 e ∧ e ≤ n ∧ ∀ j, e ≤ j → cf s j = 0) (fun p => (intOf p).toNat)
  case atStart => exact ⟨n, rfl, Nat.le_refl _, fun j hj => cf_ge (by rw [unhide HL]; exact hj)⟩
  case round =>
    obtain ⟨e, rfl, he, hz⟩ := hrel
    have HZ := hide hz
    clear hz
    by_cases h0 : e = 0
    · subst h0
      have ht : Hid (trim s = []) := by show _ = _; rw [trim_take (Nat.zero_le _) (unhide HZ) (.inl rfl)]; rfl
      cases ao with
      | none =>
        obtain rfl := unhide HN rfl
        go_wp2_with (at_builtin; refine wpList_append_row _ rfl _ _ 22 rfl w.heap.size 5 i0 Try.underlying22 (unhide HI) hz0 hz1 hz2 (.slice (some ⟨w.heap.size, 0, none⟩) 0 0) 0 [] rfl (unhide HO) none g 0 0 (ints []) rfl (by rw [ints_len]; exact rfl) (by first | exact .inl rfl | exact row_front (unhide HR2)) (fun _ => ⟨rfl, rfl⟩) (by omega) (by simp) ?_)
        intro v' w' ho hg hv
        have HF : Hid (Fr w.heap.size w' v' (trim s)) := by rw [unhide ht]; exact (owns_fr (by simpa using ho)).2
        have HB := hide (((Kp.refl [] w).alloc _).grown hg (by intro k hk; cases hk; exact .inr (Nat.le_refl _))).below
        clear ho hg hv
        go_wp2
        go_ret
        exact ⟨_, rfl, unhide HF, unhide HB⟩
      | some ad =>
        go_wp2_with (at_builtin; refine wpList_append_row _ rfl _ _ 22 rfl w.heap.size 5 i0 Try.underlying22 (unhide HI) hz0 hz1 hz2 (.slice (some ⟨w.heap.size, 0, none⟩) 0 0) 0 [] rfl (unhide HO) (some ad) g 0 c (ints []) rfl (by rw [ints_len]; exact rfl) (by first | exact .inl rfl | exact row_front (unhide HR2)) (fun h => by simp at h) (by omega) (by simp) ?_)
        intro v' w' ho hg hv
        have HF : Hid (Fr w.heap.size w' v' (trim s)) := by rw [unhide ht]; exact (owns_fr (by simpa using ho)).2
        have HB := hide (((Kp.refl [] w).alloc _).grown hg (by intro k hk; cases hk; exact .inr (Nat.le_refl _))).below
        clear ho hg hv
        go_wp2
        go_ret
        exact ⟨_, rfl, unhide HF, unhide HB⟩
    · obtain ⟨k, rfl⟩ : ∃ k, e = k + 1 := ⟨e - 1, by omega⟩
      have HL' := unhide HL
      obtain ⟨o, rfl⟩ := row_some (unhide HR) (by omega)
      have hc := row_cell (unhide HR) (j := k) (by omega)
      have h3 : (k : Int) < (n : Int) := by omega
      have h4 : (k : Int) + 1 ≤ (c : Int) := by omega
      clear HL' h0
      by_cases hk : cf s k = 0
      · have hk' : (((cf s k : Nat) : Int) == 0) = true := by rw [hk]; rfl
        go_wp2
        go_round
        case rel => exact ⟨k, by go_num, by omega, fun j hj => by
          by_cases e : j = k
          · rw [e]; exact hk
          · exact unhide HZ j (by omega)⟩
        case measure => simp [intOf]
      · have hk' : (((cf s k : Nat) : Int) == 0) = false := by rw [beq_eq_false_iff_ne]; omega
        have ht : Hid (trim s = s.take (k + 1)) := trim_take (by rw [unhide HL]; exact he) (unhide HZ) (.inr hk)
        have HTL : Hid ((s.take (k + 1)).length = k + 1) := by show _ = _; rw [List.length_take, unhide HL, Nat.min_eq_left he]
        go_wp2_with (at_builtin; refine wpList_append_row _ rfl _ _ 22 rfl w.heap.size 5 i0 Try.underlying22 (unhide HI) hz0 hz1 hz2 (.slice (some ⟨w.heap.size, 0, none⟩) 0 0) 0 [] rfl (unhide HO) (some ⟨g, o, none⟩) g (k + 1) c (ints (s.take (k + 1))) rfl (by rw [ints_len]; exact unhide HTL) (by first | exact .inl rfl | exact row_front (unhide HR2)) (fun h => by simp at h) (by omega) (by simp) ?_)
        intro v' w' ho hg hv
        have HF : Hid (Fr w.heap.size w' v' (trim s)) := by rw [unhide ht]; exact (owns_fr (by simpa using ho)).2
        have HB := hide (((Kp.refl [] w).alloc _).grown hg (by intro k hk; cases hk; exact .inr (Nat.le_refl _))).below
        clear ho hg hv
        go_wp2
        go_ret
        exact ⟨_, rfl, unhide HF, unhide HB⟩

end Go.Proofs.Ytahjcahmlangiaa
