/-
  The laws' own known (ramekinlaw11).
-/
import Derived.Test.YtjdikhelabibnaaGreatR11o
namespace Go.Proofs.YtjdikhelabibnaaGreat
open Go Go.RowKit Go.Shelf

def pages0 : Array Value := #[.int .i64 0, .slice none 0 0, .int .i64 0, .slice none 0 0, .int .i64 0, .slice none 0 0, .int .i64 0, .slice none 0 0, .int .i64 0, .slice none 0 0, .int .i64 0, .slice none 0 0]
theorem run_pages0 (w : World) : (Instr.makeSlice 40 (.int .i64 6) (.int .i64 6)).run Tryz.prog w = .ok (.slice (some ⟨w.heap.size, 0, none⟩) 6 6) (w.alloc (.cells pages0 49)) := by
  obtain ⟨i0, hi0, hz0, hz1, hz2⟩ := info_parts infoTP
  have h := run_make (P := Tryz.prog) w 40 49 i0 _ Tryz.underlying40 hi0 hz0 .i64 .i64 6 6 (by omega) (by omega) (by rw [hz2]; omega) (by omega)
  rw [hz1, show madeCells (Value.cells (.agg #[.int .i64 0, .slice none 0 0])) ((6 : Int).toNat * 2) = pages0 from by kernel_rfl] at h
  exact h
theorem arg_pages0 (w : World) : PgArg (w.alloc (.cells pages0 49)) (.slice (some ⟨w.heap.size, 0, none⟩) 6 6) w.heap.size (List.replicate 6 zPV) := by
  refine ⟨⟨_, 6, rfl, by simp, by unfold maxLen; omega, (fun h => by cases h), fun _ => ⟨0, rfl, fun i hi j v hv => ?_⟩⟩, fun p hp => ?_⟩
  · simp only [List.length_replicate] at hi
    rw [List.getD_eq_getElem?_getD, List.getElem?_replicate, if_pos hi] at hv
    refine cell_blk (World.alloc_heap_new w _) ?_
    rw [Nat.zero_add]
    have hj : j < 2 := (List.getElem?_eq_some_iff.1 hv).1
    rw [← hv]
    rcases (show i = 0 ∨ i = 1 ∨ i = 2 ∨ i = 3 ∨ i = 4 ∨ i = 5 from by omega) with rfl | rfl | rfl | rfl | rfl | rfl <;> rcases (show j = 0 ∨ j = 1 from by omega) with rfl | rfl <;> rfl
  · rw [(List.mem_replicate.1 hp).2]; exact zPV_ok _
theorem decF_pages0 : decF 0 0 (List.replicate 6 zPV) 1 = (zRow, 2) := by
  unfold decF
  rw [if_neg (by simp), if_pos (by simp [zPV])]
set_option maxRecDepth 100000 in
set_option maxHeartbeats 8000000 in
theorem known11_any (w : World) : Calls Tryz.prog 9 #[] w fun e w' => e = .returned (.bool true) ∧ Below w.heap.size w w' := by
  have hmk := run_pages0
  go_enter Tryz.func9, Tryz.ntmps9
  go_wp2_with fail
  have h0 := (Below.refl w.heap.size w).alloc (Nat.le_refl _) (.cells pages0 49)
  refine (dec11_any 0 0 (some ⟨w.heap.size, 0, none⟩) 6 6 w.heap.size (List.replicate 6 zPV) 1 (fun i => by rw [List.getD_eq_getElem?_getD, List.getElem?_replicate]; split <;> simp [zPV]) _ (arg_pages0 w)).mono ?_
  rintro x w2 ⟨hB, v, hx, ⟨sv, g, hv, hE, -⟩⟩
  rw [decF_pages0] at hx hv hE
  obtain ⟨ao, c, hs, -⟩ := hE.ex
  subst hs
  subst hv
  subst hx
  have HB := hide (h0.trans (hB.mono (Nat.le_of_lt (by simp))))
  clear h0 hB hE
  dsimp only [zRow]
  go_wp2_with fail
  refine (enc11_any 6 1 0 0 none 0 0 0 [] _ (EArg.nil _)).mono ?_
  rintro x w3 ⟨hB3, h3⟩
  rcases h3 with ⟨-, v3, ps, rfl, hO⟩ | ⟨h3, -⟩
  rotate_left 1
  · exact absurd ⟨by omega, by unfold okH; omega, by simp, by intro e he; simp at he⟩ h3
  obtain ⟨g3, c3, rfl, -⟩ := hO.some (encL_len _ _ _ _ _) (by omega)
  have h1 := (Below.refl w2.heap.size w2).alloc (Nat.le_refl _) (.cells #[.int .i64 0, .int .i64 0, .slice ao 0 c] 37)
  have HB3 := hide ((unhide HB).trans ((h1.trans (hB3.mono (Nat.le_of_lt (by simp)))).mono (unhide HB).size))
  clear hB3 hO h1
  simp only [show ((6 : Int) - 2).toNat + 2 = 6 from rfl]
  go_wp2_with fail
  go_ret
  exact ⟨rfl, unhide HB3⟩

end Go.Proofs.YtjdikhelabibnaaGreat
