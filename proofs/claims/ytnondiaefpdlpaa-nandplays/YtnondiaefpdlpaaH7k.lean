/-
  The laws' own known.
-/
import Derived.Test.YtnondiaefpdlpaaV7f
import Derived.Test.YtnondiaefpdlpaaV7p
namespace Go.Proofs.Ytnondiaefpdlpaa
open Go.RowKit Go.Shelf

/-- Flash that is blank, as New makes it. -/
theorem new_blank (D B P : Nat) (w : World) (h : okG D B P) : Calls Try.prog 12 #[.agg #[.int .i64 (D : Int), .int .i64 (B : Int), .int .i64 (P : Int)], .slice none 0 0] w fun e w' => Below w.heap.size w w' ∧
    ∃ L, e = .returned (.tuple #[.pointer (some ⟨L.n, 0, none⟩), .int .i64 0]) ∧ NA w.heap.size w' L (blank D B P (fun _ _ => false)) := by
  refine (new_any D B P _ 0 [] w h (PArg.nil w)).mono ?_
  rintro e w1 ⟨hb, ⟨h1, _⟩ | ⟨_, L, h2, h3⟩⟩
  · exact absurd (fun p hp => by simp at hp) h1
  · refine ⟨hb, L, h2, ?_⟩
    have e : badOf [] = fun _ _ => false := by funext d b; simp [badOf]
    rw [e] at h3
    exact h3

theorem zeros_safe (m : Nat) (w : World) : Sfe m (w.alloc (.cells (List.replicate 60 (Value.int .u8 0)).toArray 5)) w.heap.size (List.replicate 60 0) := fun _ => .inr ⟨_, World.alloc_heap_new w _, fun j hj => by simp at hj⟩

set_option maxRecDepth 100000 in
set_option maxHeartbeats 4000000 in
theorem known_any (w : World) : Calls Try.prog 9 #[] w fun e w' => e = .returned (.bool true) ∧ Below w.heap.size w w' := by
  have hmk : ∀ w : World, (Instr.makeSlice 38 (.int .i64 60) (.int .i64 60)).run Try.prog w = .ok (.slice (some ⟨w.heap.size, 0, none⟩) 60 60) (w.alloc (.cells (List.replicate 60 (Value.int .u8 0)).toArray 5)) := run_zeros 60 (by omega)
  obtain ⟨z60, hz60⟩ : ∃ z, (List.replicate 60 (Value.int .u8 0)).toArray = z := ⟨_, rfl⟩
  simp only [hz60] at hmk
  have HMK := hide hmk
  clear hz60 hmk
  go_enter Try.func9, Try.ntmps9
  go_wp2_with fail
  refine (new_blank 6 8 4 w ⟨by omega, by omega, by omega⟩).mono ?_
  rintro e w1 ⟨hb1, L, rfl, hN1⟩
  have hal : Below w1.heap.size w1 (w1.alloc (.cells z60 5)) := (Below.refl _ _).alloc (Nat.le_refl _) _
  have HN2 := hide (hN1.below hal)
  have HB2 := hide (hb1.trans (hal.mono hb1.size))
  have hmk := unhide HMK
  clear hN1 hb1 hal
  go_wp2_with fail
  clear hmk HMK
  generalize w1.alloc (.cells z60 5) = w2 at HN2 HB2 ⊢
  refine (prog_bad (unhide HN2) rfl 0 0 1 _ _ _ (fun h => by have := h.2.1; simp [blank] at this)).mono ?_
  rintro e w3 ⟨rfl, hN3, hK3⟩
  have HN3 := hide hN3
  have HB3 := hide ((unhide HB2).trans hK3.below)
  clear hN3 hK3
  go_wp2_with fail
  refine (read_good (d := 0) (b := 0) (p := 0) (unhide HN3) rfl (by show 0 < 6; omega) (by show 0 < 8; omega) rfl (by show 0 < 4; omega)).mono ?_
  rintro e w4 ⟨v, rfl, hF, hN4, hK4⟩
  have hF' : Fr w3.heap.size w4 v (List.replicate 60 255) := hF
  obtain ⟨g, c, hv, h1, h2, hB, h3⟩ := hF'.blk (by simp)
  rw [List.length_replicate] at hv
  subst hv
  have hc0 := hB.cell (j := 0) (by simp)
  rw [cf_rep 255 (by omega)] at hc0
  have hc0' : w4.cell? ⟨g, 0, none⟩ = some (.int .u8 255) := hc0
  have HN4 := hide hN4
  have HB4 := hide ((unhide HB3).trans hK4.below)
  clear hN4 hK4 hF hF' hB hc0
  go_wp2_with fail
  refine (Wrong_any (unhide HN4)).mono ?_
  rintro e w5 ⟨rfl, rfl⟩
  have hw : inc (blank 6 8 4 fun _ _ => false).wrong = 1 := inc_in (z := 0) (by omega) (by omega)
  simp only [hw]
  go_wp2_with fail
  go_ret
  exact ⟨rfl, unhide HB4⟩

end Go.Proofs.Ytnondiaefpdlpaa
