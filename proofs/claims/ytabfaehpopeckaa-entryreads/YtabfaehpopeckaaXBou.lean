/-
  The walk of EntryBounds.
-/
import Derived.Test.YtabfaehpopeckaaE10k
namespace Go.Proofs.Ytabfaehpopeckaa
open Go.RowKit Go.Shelf

def last10 (n : Nat) : List Nat := List.replicate 15 0 ++ [n]
theorem ent_last (k l s : Int) (n : Nat) : (entA k l s zer16).setIfInBounds 18 (.int .u8 (n : Int)) = entA k l s (last10 n) := by
  simp [last10, entA, zer16, datL, ints, List.replicate]
theorem below_setRow10 {n g : Nat} {w0 w : World} (hb : Below n w0 w) (hg : n ≤ g) (cs : Array Value) : Below n w0 (w.setRow g cs) :=
  hb.trans ⟨rfl, rfl, rfl, by simp, fun k hk => setRow_other w g k cs (by omega)⟩
theorem build_TE02 (k s : Int) (w : World) : (Instr.build 24 #[(0, .int .i64 k), (2, .int .i64 s)]).run Try.prog w = .ok (.agg (entA k 0 s zer16)) w := run_build w 24 _ _ (by kernel_rfl)
theorem build_TE01 (k l : Int) (w : World) : (Instr.build 24 #[(0, .int .i64 k), (1, .int .i64 l)]).run Try.prog w = .ok (.agg (entA k l 0 zer16)) w := run_build w 24 _ _ (by kernel_rfl)

set_option maxRecDepth 100000 in
set_option maxHeartbeats 32000000 in
theorem bounds_any (c : Int) (above : Bool) (w : World) : Calls Try.prog 5 #[.int .i64 c, .bool above] w fun e w' => e = .returned (.bool true) ∧ Below w.heap.size w w' := by
  obtain ⟨R, hR, r1, r2⟩ : ∃ r : Int, c % 8 = r ∧ 0 ≤ r ∧ r < 8 := ⟨_, rfl, Int.emod_nonneg _ (by omega), Int.emod_lt_of_pos _ (by omega)⟩
  have HF := hide hR
  clear hR
  cases above
  · rcases (show R = 0 ∨ R = 1 ∨ R = 2 ∨ R = 3 ∨ R = 4 ∨ R = 5 ∨ R = 6 ∨ R = 7 by omega) with h | h | h | h | h | h | h | h
    · subst h
      go_enter Try.func5, Try.ntmps5
      have hbt := fun W => build_TE3 1 5 5 W
      go_wp2_with fail
      refine (known10_any _).mono ?_
      rintro e w1 ⟨rfl, hk⟩
      have HT := hide hk
      have hsz := hk.size
      clear hk
      obtain ⟨W, hW⟩ : ∃ W, (w1.alloc (.cells #[.int .i64 0, .int .i64 0, .int .i64 0, .int .u8 0, .int .u8 0, .int .u8 0, .int .u8 0, .int .u8 0, .int .u8 0, .int .u8 0, .int .u8 0, .int .u8 0, .int .u8 0, .int .u8 0, .int .u8 0, .int .u8 0, .int .u8 0, .int .u8 0, .int .u8 0] 24)).setRow w1.heap.size (entA 1 5 5 zer16) = W := ⟨_, rfl⟩
      have HB := hide (blk_new10 w1 #[.int .i64 0, .int .i64 0, .int .i64 0, .int .u8 0, .int .u8 0, .int .u8 0, .int .u8 0, .int .u8 0, .int .u8 0, .int .u8 0, .int .u8 0, .int .u8 0, .int .u8 0, .int .u8 0, .int .u8 0, .int .u8 0, .int .u8 0, .int .u8 0, .int .u8 0] (entA 1 5 5 zer16) 24)
      have HK := hide (kp_new10 w1 (.cells #[.int .i64 0, .int .i64 0, .int .i64 0, .int .u8 0, .int .u8 0, .int .u8 0, .int .u8 0, .int .u8 0, .int .u8 0, .int .u8 0, .int .u8 0, .int .u8 0, .int .u8 0, .int .u8 0, .int .u8 0, .int .u8 0, .int .u8 0, .int .u8 0, .int .u8 0] 24) (entA 1 5 5 zer16))
      rw [hW] at HB HK
      replace HT := hide ((unhide HT).trans ((unhide HK).below.mono hsz))
      have HN := hide (World.alloc_heap_new w1 (.cells #[.int .i64 0, .int .i64 0, .int .i64 0, .int .u8 0, .int .u8 0, .int .u8 0, .int .u8 0, .int .u8 0, .int .u8 0, .int .u8 0, .int .u8 0, .int .u8 0, .int .u8 0, .int .u8 0, .int .u8 0, .int .u8 0, .int .u8 0, .int .u8 0, .int .u8 0] 24))
      obtain ⟨b, hb⟩ : ∃ b, w1.heap.size = b := ⟨_, rfl⟩
      rw [hb] at HB hsz
      have HW := hide hW
      have HBB := hide hb
      clear hW hb HK
      go_wp2_with (first | (refine wpList_store_row rfl 24 _ _ rfl w1.heap.size (entA 1 5 5 zer16) rfl rfl 24 #[.int .i64 0, .int .i64 0, .int .i64 0, .int .u8 0, .int .u8 0, .int .u8 0, .int .u8 0, .int .u8 0, .int .u8 0, .int .u8 0, .int .u8 0, .int .u8 0, .int .u8 0, .int .u8 0, .int .u8 0, .int .u8 0, .int .u8 0, .int .u8 0, .int .u8 0] (unhide HN) (by rw [sizeTE]; rfl) rfl (entA_one _ _ _ _) ?_; rw [unhide HW]))
      rw [unhide HBB]
      refine (within10_any c 8 _ (by omega) (by omega)).mono ?_
      rintro e w2 ⟨rfl, hw2⟩
      subst hw2
      rw [unhide HF]
      clear HW HBB HN hbt
      obtain ⟨w3, hw3⟩ : ∃ W, w2.setCell ⟨b, 1, none⟩ (.int .i64 65536) = W := ⟨_, rfl⟩
      have hcl : w2.cell? ⟨b, 1, none⟩ = some (.int .i64 5) := cell_blk (unhide HB).blk rfl
      have hfr : w2.frozen? ⟨b, 1, none⟩ = false := free_blk (unhide HB).blk
      have HB3 : Hid (AtB w3 b (entA 1 65536 5 zer16) 24) := ⟨by rw [← hw3]; exact heap_setCell_same _ _ _ _ _ _ (unhide HB).blk⟩
      replace HT : Hid (Below w.heap.size w w3) := by rw [← hw3]; exact (unhide HT).setCell (p := ⟨b, 1, none⟩) hsz _
      go_wp2_with (refine wpList_load_want10 rfl 24 _ rfl b rfl 24 (entA 1 65536 5 zer16) _ _ (unhide HB3).blk Try.underlying24 rfl (by rw [sizeTE]; rfl) ?_)
      clear hcl hfr hw3
      have HCK : Hid (chkE 1 65536 5 zer16 = 0) := chkE_ok (by unfold okE zer16; decide)
      refine (echeck_any 1 65536 5 zer16 rfl _).mono ?_
      rintro e w5 ⟨rfl, hk⟩
      rw [unhide HCK]
      replace HT := hide ((unhide HT).trans (hk.mono (unhide HT).size))
      have HB5 := hide ((unhide HB3).below hk)
      clear hk
      go_wp2
      go_ret
      exact ⟨rfl, unhide HT⟩
    · subst h
      go_enter Try.func5, Try.ntmps5
      have hbt := fun W => build_TE3 1 5 5 W
      go_wp2_with fail
      refine (known10_any _).mono ?_
      rintro e w1 ⟨rfl, hk⟩
      have HT := hide hk
      have hsz := hk.size
      clear hk
      obtain ⟨W, hW⟩ : ∃ W, (w1.alloc (.cells #[.int .i64 0, .int .i64 0, .int .i64 0, .int .u8 0, .int .u8 0, .int .u8 0, .int .u8 0, .int .u8 0, .int .u8 0, .int .u8 0, .int .u8 0, .int .u8 0, .int .u8 0, .int .u8 0, .int .u8 0, .int .u8 0, .int .u8 0, .int .u8 0, .int .u8 0] 24)).setRow w1.heap.size (entA 1 5 5 zer16) = W := ⟨_, rfl⟩
      have HB := hide (blk_new10 w1 #[.int .i64 0, .int .i64 0, .int .i64 0, .int .u8 0, .int .u8 0, .int .u8 0, .int .u8 0, .int .u8 0, .int .u8 0, .int .u8 0, .int .u8 0, .int .u8 0, .int .u8 0, .int .u8 0, .int .u8 0, .int .u8 0, .int .u8 0, .int .u8 0, .int .u8 0] (entA 1 5 5 zer16) 24)
      have HK := hide (kp_new10 w1 (.cells #[.int .i64 0, .int .i64 0, .int .i64 0, .int .u8 0, .int .u8 0, .int .u8 0, .int .u8 0, .int .u8 0, .int .u8 0, .int .u8 0, .int .u8 0, .int .u8 0, .int .u8 0, .int .u8 0, .int .u8 0, .int .u8 0, .int .u8 0, .int .u8 0, .int .u8 0] 24) (entA 1 5 5 zer16))
      rw [hW] at HB HK
      replace HT := hide ((unhide HT).trans ((unhide HK).below.mono hsz))
      have HN := hide (World.alloc_heap_new w1 (.cells #[.int .i64 0, .int .i64 0, .int .i64 0, .int .u8 0, .int .u8 0, .int .u8 0, .int .u8 0, .int .u8 0, .int .u8 0, .int .u8 0, .int .u8 0, .int .u8 0, .int .u8 0, .int .u8 0, .int .u8 0, .int .u8 0, .int .u8 0, .int .u8 0, .int .u8 0] 24))
      obtain ⟨b, hb⟩ : ∃ b, w1.heap.size = b := ⟨_, rfl⟩
      rw [hb] at HB hsz
      have HW := hide hW
      have HBB := hide hb
      clear hW hb HK
      go_wp2_with (first | (refine wpList_store_row rfl 24 _ _ rfl w1.heap.size (entA 1 5 5 zer16) rfl rfl 24 #[.int .i64 0, .int .i64 0, .int .i64 0, .int .u8 0, .int .u8 0, .int .u8 0, .int .u8 0, .int .u8 0, .int .u8 0, .int .u8 0, .int .u8 0, .int .u8 0, .int .u8 0, .int .u8 0, .int .u8 0, .int .u8 0, .int .u8 0, .int .u8 0, .int .u8 0] (unhide HN) (by rw [sizeTE]; rfl) rfl (entA_one _ _ _ _) ?_; rw [unhide HW]))
      rw [unhide HBB]
      refine (within10_any c 8 _ (by omega) (by omega)).mono ?_
      rintro e w2 ⟨rfl, hw2⟩
      subst hw2
      rw [unhide HF]
      clear HW HBB HN hbt
      obtain ⟨w3, hw3⟩ : ∃ W, w2.setCell ⟨b, 1, none⟩ (.int .i64 0) = W := ⟨_, rfl⟩
      have hcl : w2.cell? ⟨b, 1, none⟩ = some (.int .i64 5) := cell_blk (unhide HB).blk rfl
      have hfr : w2.frozen? ⟨b, 1, none⟩ = false := free_blk (unhide HB).blk
      have HB3 : Hid (AtB w3 b (entA 1 0 5 zer16) 24) := ⟨by rw [← hw3]; exact heap_setCell_same _ _ _ _ _ _ (unhide HB).blk⟩
      replace HT : Hid (Below w.heap.size w w3) := by rw [← hw3]; exact (unhide HT).setCell (p := ⟨b, 1, none⟩) hsz _
      go_wp2_with (refine wpList_load_want10 rfl 24 _ rfl b rfl 24 (entA 1 0 5 zer16) _ _ (unhide HB3).blk Try.underlying24 rfl (by rw [sizeTE]; rfl) ?_)
      clear hcl hfr hw3
      have HCK : Hid (chkE 1 0 5 zer16 = 0) := chkE_ok (by unfold okE zer16; decide)
      refine (echeck_any 1 0 5 zer16 rfl _).mono ?_
      rintro e w5 ⟨rfl, hk⟩
      rw [unhide HCK]
      replace HT := hide ((unhide HT).trans (hk.mono (unhide HT).size))
      have HB5 := hide ((unhide HB3).below hk)
      clear hk
      go_wp2
      go_ret
      exact ⟨rfl, unhide HT⟩
    · subst h
      go_enter Try.func5, Try.ntmps5
      have hbt := fun W => build_TE3 1 5 5 W
      go_wp2_with fail
      refine (known10_any _).mono ?_
      rintro e w1 ⟨rfl, hk⟩
      have HT := hide hk
      have hsz := hk.size
      clear hk
      obtain ⟨W, hW⟩ : ∃ W, (w1.alloc (.cells #[.int .i64 0, .int .i64 0, .int .i64 0, .int .u8 0, .int .u8 0, .int .u8 0, .int .u8 0, .int .u8 0, .int .u8 0, .int .u8 0, .int .u8 0, .int .u8 0, .int .u8 0, .int .u8 0, .int .u8 0, .int .u8 0, .int .u8 0, .int .u8 0, .int .u8 0] 24)).setRow w1.heap.size (entA 1 5 5 zer16) = W := ⟨_, rfl⟩
      have HB := hide (blk_new10 w1 #[.int .i64 0, .int .i64 0, .int .i64 0, .int .u8 0, .int .u8 0, .int .u8 0, .int .u8 0, .int .u8 0, .int .u8 0, .int .u8 0, .int .u8 0, .int .u8 0, .int .u8 0, .int .u8 0, .int .u8 0, .int .u8 0, .int .u8 0, .int .u8 0, .int .u8 0] (entA 1 5 5 zer16) 24)
      have HK := hide (kp_new10 w1 (.cells #[.int .i64 0, .int .i64 0, .int .i64 0, .int .u8 0, .int .u8 0, .int .u8 0, .int .u8 0, .int .u8 0, .int .u8 0, .int .u8 0, .int .u8 0, .int .u8 0, .int .u8 0, .int .u8 0, .int .u8 0, .int .u8 0, .int .u8 0, .int .u8 0, .int .u8 0] 24) (entA 1 5 5 zer16))
      rw [hW] at HB HK
      replace HT := hide ((unhide HT).trans ((unhide HK).below.mono hsz))
      have HN := hide (World.alloc_heap_new w1 (.cells #[.int .i64 0, .int .i64 0, .int .i64 0, .int .u8 0, .int .u8 0, .int .u8 0, .int .u8 0, .int .u8 0, .int .u8 0, .int .u8 0, .int .u8 0, .int .u8 0, .int .u8 0, .int .u8 0, .int .u8 0, .int .u8 0, .int .u8 0, .int .u8 0, .int .u8 0] 24))
      obtain ⟨b, hb⟩ : ∃ b, w1.heap.size = b := ⟨_, rfl⟩
      rw [hb] at HB hsz
      have HW := hide hW
      have HBB := hide hb
      clear hW hb HK
      go_wp2_with (first | (refine wpList_store_row rfl 24 _ _ rfl w1.heap.size (entA 1 5 5 zer16) rfl rfl 24 #[.int .i64 0, .int .i64 0, .int .i64 0, .int .u8 0, .int .u8 0, .int .u8 0, .int .u8 0, .int .u8 0, .int .u8 0, .int .u8 0, .int .u8 0, .int .u8 0, .int .u8 0, .int .u8 0, .int .u8 0, .int .u8 0, .int .u8 0, .int .u8 0, .int .u8 0] (unhide HN) (by rw [sizeTE]; rfl) rfl (entA_one _ _ _ _) ?_; rw [unhide HW]))
      rw [unhide HBB]
      refine (within10_any c 8 _ (by omega) (by omega)).mono ?_
      rintro e w2 ⟨rfl, hw2⟩
      subst hw2
      rw [unhide HF]
      clear HW HBB HN hbt
      obtain ⟨w3, hw3⟩ : ∃ W, w2.setCell ⟨b, 2, none⟩ (.int .i64 1099511627776) = W := ⟨_, rfl⟩
      have hcl : w2.cell? ⟨b, 2, none⟩ = some (.int .i64 5) := cell_blk (unhide HB).blk rfl
      have hfr : w2.frozen? ⟨b, 2, none⟩ = false := free_blk (unhide HB).blk
      have HB3 : Hid (AtB w3 b (entA 1 5 1099511627776 zer16) 24) := ⟨by rw [← hw3]; exact heap_setCell_same _ _ _ _ _ _ (unhide HB).blk⟩
      replace HT : Hid (Below w.heap.size w w3) := by rw [← hw3]; exact (unhide HT).setCell (p := ⟨b, 2, none⟩) hsz _
      go_wp2_with (refine wpList_load_want10 rfl 24 _ rfl b rfl 24 (entA 1 5 1099511627776 zer16) _ _ (unhide HB3).blk Try.underlying24 rfl (by rw [sizeTE]; rfl) ?_)
      clear hcl hfr hw3
      have HCK : Hid (chkE 1 5 1099511627776 zer16 = 0) := chkE_ok (by unfold okE zer16; decide)
      refine (echeck_any 1 5 1099511627776 zer16 rfl _).mono ?_
      rintro e w5 ⟨rfl, hk⟩
      rw [unhide HCK]
      replace HT := hide ((unhide HT).trans (hk.mono (unhide HT).size))
      have HB5 := hide ((unhide HB3).below hk)
      clear hk
      go_wp2
      go_ret
      exact ⟨rfl, unhide HT⟩
    · subst h
      go_enter Try.func5, Try.ntmps5
      have hbt := fun W => build_TE3 1 5 5 W
      go_wp2_with fail
      refine (known10_any _).mono ?_
      rintro e w1 ⟨rfl, hk⟩
      have HT := hide hk
      have hsz := hk.size
      clear hk
      obtain ⟨W, hW⟩ : ∃ W, (w1.alloc (.cells #[.int .i64 0, .int .i64 0, .int .i64 0, .int .u8 0, .int .u8 0, .int .u8 0, .int .u8 0, .int .u8 0, .int .u8 0, .int .u8 0, .int .u8 0, .int .u8 0, .int .u8 0, .int .u8 0, .int .u8 0, .int .u8 0, .int .u8 0, .int .u8 0, .int .u8 0] 24)).setRow w1.heap.size (entA 1 5 5 zer16) = W := ⟨_, rfl⟩
      have HB := hide (blk_new10 w1 #[.int .i64 0, .int .i64 0, .int .i64 0, .int .u8 0, .int .u8 0, .int .u8 0, .int .u8 0, .int .u8 0, .int .u8 0, .int .u8 0, .int .u8 0, .int .u8 0, .int .u8 0, .int .u8 0, .int .u8 0, .int .u8 0, .int .u8 0, .int .u8 0, .int .u8 0] (entA 1 5 5 zer16) 24)
      have HK := hide (kp_new10 w1 (.cells #[.int .i64 0, .int .i64 0, .int .i64 0, .int .u8 0, .int .u8 0, .int .u8 0, .int .u8 0, .int .u8 0, .int .u8 0, .int .u8 0, .int .u8 0, .int .u8 0, .int .u8 0, .int .u8 0, .int .u8 0, .int .u8 0, .int .u8 0, .int .u8 0, .int .u8 0] 24) (entA 1 5 5 zer16))
      rw [hW] at HB HK
      replace HT := hide ((unhide HT).trans ((unhide HK).below.mono hsz))
      have HN := hide (World.alloc_heap_new w1 (.cells #[.int .i64 0, .int .i64 0, .int .i64 0, .int .u8 0, .int .u8 0, .int .u8 0, .int .u8 0, .int .u8 0, .int .u8 0, .int .u8 0, .int .u8 0, .int .u8 0, .int .u8 0, .int .u8 0, .int .u8 0, .int .u8 0, .int .u8 0, .int .u8 0, .int .u8 0] 24))
      obtain ⟨b, hb⟩ : ∃ b, w1.heap.size = b := ⟨_, rfl⟩
      rw [hb] at HB hsz
      have HW := hide hW
      have HBB := hide hb
      clear hW hb HK
      go_wp2_with (first | (refine wpList_store_row rfl 24 _ _ rfl w1.heap.size (entA 1 5 5 zer16) rfl rfl 24 #[.int .i64 0, .int .i64 0, .int .i64 0, .int .u8 0, .int .u8 0, .int .u8 0, .int .u8 0, .int .u8 0, .int .u8 0, .int .u8 0, .int .u8 0, .int .u8 0, .int .u8 0, .int .u8 0, .int .u8 0, .int .u8 0, .int .u8 0, .int .u8 0, .int .u8 0] (unhide HN) (by rw [sizeTE]; rfl) rfl (entA_one _ _ _ _) ?_; rw [unhide HW]))
      rw [unhide HBB]
      refine (within10_any c 8 _ (by omega) (by omega)).mono ?_
      rintro e w2 ⟨rfl, hw2⟩
      subst hw2
      rw [unhide HF]
      clear HW HBB HN hbt
      obtain ⟨w3, hw3⟩ : ∃ W, w2.setCell ⟨b, 2, none⟩ (.int .i64 1) = W := ⟨_, rfl⟩
      have hcl : w2.cell? ⟨b, 2, none⟩ = some (.int .i64 5) := cell_blk (unhide HB).blk rfl
      have hfr : w2.frozen? ⟨b, 2, none⟩ = false := free_blk (unhide HB).blk
      have HB3 : Hid (AtB w3 b (entA 1 5 1 zer16) 24) := ⟨by rw [← hw3]; exact heap_setCell_same _ _ _ _ _ _ (unhide HB).blk⟩
      replace HT : Hid (Below w.heap.size w w3) := by rw [← hw3]; exact (unhide HT).setCell (p := ⟨b, 2, none⟩) hsz _
      go_wp2_with (refine wpList_load_want10 rfl 24 _ rfl b rfl 24 (entA 1 5 1 zer16) _ _ (unhide HB3).blk Try.underlying24 rfl (by rw [sizeTE]; rfl) ?_)
      clear hcl hfr hw3
      have HCK : Hid (chkE 1 5 1 zer16 = 0) := chkE_ok (by unfold okE zer16; decide)
      refine (echeck_any 1 5 1 zer16 rfl _).mono ?_
      rintro e w5 ⟨rfl, hk⟩
      rw [unhide HCK]
      replace HT := hide ((unhide HT).trans (hk.mono (unhide HT).size))
      have HB5 := hide ((unhide HB3).below hk)
      clear hk
      go_wp2
      go_ret
      exact ⟨rfl, unhide HT⟩
    · subst h
      go_enter Try.func5, Try.ntmps5
      have hbt := fun W => build_TE3 1 5 5 W
      have hbt2 := fun W => build_TE1 3 W
      go_wp2_with fail
      refine (known10_any _).mono ?_
      rintro e w1 ⟨rfl, hk⟩
      have HT := hide hk
      have hsz := hk.size
      clear hk
      obtain ⟨W, hW⟩ : ∃ W, (w1.alloc (.cells #[.int .i64 0, .int .i64 0, .int .i64 0, .int .u8 0, .int .u8 0, .int .u8 0, .int .u8 0, .int .u8 0, .int .u8 0, .int .u8 0, .int .u8 0, .int .u8 0, .int .u8 0, .int .u8 0, .int .u8 0, .int .u8 0, .int .u8 0, .int .u8 0, .int .u8 0] 24)).setRow w1.heap.size (entA 1 5 5 zer16) = W := ⟨_, rfl⟩
      have HB := hide (blk_new10 w1 #[.int .i64 0, .int .i64 0, .int .i64 0, .int .u8 0, .int .u8 0, .int .u8 0, .int .u8 0, .int .u8 0, .int .u8 0, .int .u8 0, .int .u8 0, .int .u8 0, .int .u8 0, .int .u8 0, .int .u8 0, .int .u8 0, .int .u8 0, .int .u8 0, .int .u8 0] (entA 1 5 5 zer16) 24)
      have HK := hide (kp_new10 w1 (.cells #[.int .i64 0, .int .i64 0, .int .i64 0, .int .u8 0, .int .u8 0, .int .u8 0, .int .u8 0, .int .u8 0, .int .u8 0, .int .u8 0, .int .u8 0, .int .u8 0, .int .u8 0, .int .u8 0, .int .u8 0, .int .u8 0, .int .u8 0, .int .u8 0, .int .u8 0] 24) (entA 1 5 5 zer16))
      rw [hW] at HB HK
      replace HT := hide ((unhide HT).trans ((unhide HK).below.mono hsz))
      have HN := hide (World.alloc_heap_new w1 (.cells #[.int .i64 0, .int .i64 0, .int .i64 0, .int .u8 0, .int .u8 0, .int .u8 0, .int .u8 0, .int .u8 0, .int .u8 0, .int .u8 0, .int .u8 0, .int .u8 0, .int .u8 0, .int .u8 0, .int .u8 0, .int .u8 0, .int .u8 0, .int .u8 0, .int .u8 0] 24))
      obtain ⟨b, hb⟩ : ∃ b, w1.heap.size = b := ⟨_, rfl⟩
      rw [hb] at HB hsz
      have HW := hide hW
      have HBB := hide hb
      clear hW hb HK
      go_wp2_with (first | (refine wpList_store_row rfl 24 _ _ rfl w1.heap.size (entA 1 5 5 zer16) rfl rfl 24 #[.int .i64 0, .int .i64 0, .int .i64 0, .int .u8 0, .int .u8 0, .int .u8 0, .int .u8 0, .int .u8 0, .int .u8 0, .int .u8 0, .int .u8 0, .int .u8 0, .int .u8 0, .int .u8 0, .int .u8 0, .int .u8 0, .int .u8 0, .int .u8 0, .int .u8 0] (unhide HN) (by rw [sizeTE]; rfl) rfl (entA_one _ _ _ _) ?_; rw [unhide HW]))
      rw [unhide HBB]
      refine (within10_any c 8 _ (by omega) (by omega)).mono ?_
      rintro e w2 ⟨rfl, hw2⟩
      subst hw2
      rw [unhide HF]
      clear HW HBB HN hbt
      obtain ⟨w3, hw3⟩ : ∃ W, w2.setRow b (entA 3 0 0 zer16) = W := ⟨_, rfl⟩
      have HB3 : Hid (AtB w3 b (entA 3 0 0 zer16) 24) := ⟨by rw [← hw3]; exact setRow_heap _ _ _ _ _ _ (unhide HB).blk⟩
      replace HT : Hid (Below w.heap.size w w3) := by rw [← hw3]; exact below_setRow10 (unhide HT) hsz _
      have HW3 := hide hw3
      clear hw3
      go_wp2_with (first | (refine wpList_store_row rfl 24 _ _ rfl b (entA 3 0 0 zer16) rfl rfl 24 (entA 1 5 5 zer16) (unhide HB).blk (by rw [sizeTE]; rfl) rfl (entA_one _ _ _ _) ?_; rw [unhide HW3]) | (refine wpList_load_want10 rfl 24 _ rfl b rfl 24 (entA 3 0 0 zer16) _ _ (unhide HB3).blk Try.underlying24 rfl (by rw [sizeTE]; rfl) ?_))
      have HCK : Hid (chkE 3 0 0 zer16 = 0) := chkE_ok (by unfold okE zer16; decide)
      refine (echeck_any 3 0 0 zer16 rfl _).mono ?_
      rintro e w5 ⟨rfl, hk⟩
      rw [unhide HCK]
      replace HT := hide ((unhide HT).trans (hk.mono (unhide HT).size))
      have HB5 := hide ((unhide HB3).below hk)
      clear hk
      go_wp2
      go_ret
      exact ⟨rfl, unhide HT⟩
    · subst h
      go_enter Try.func5, Try.ntmps5
      have hbt := fun W => build_TE3 1 5 5 W
      have hbt2 := fun W => build_TE02 3 0 W
      go_wp2_with fail
      refine (known10_any _).mono ?_
      rintro e w1 ⟨rfl, hk⟩
      have HT := hide hk
      have hsz := hk.size
      clear hk
      obtain ⟨W, hW⟩ : ∃ W, (w1.alloc (.cells #[.int .i64 0, .int .i64 0, .int .i64 0, .int .u8 0, .int .u8 0, .int .u8 0, .int .u8 0, .int .u8 0, .int .u8 0, .int .u8 0, .int .u8 0, .int .u8 0, .int .u8 0, .int .u8 0, .int .u8 0, .int .u8 0, .int .u8 0, .int .u8 0, .int .u8 0] 24)).setRow w1.heap.size (entA 1 5 5 zer16) = W := ⟨_, rfl⟩
      have HB := hide (blk_new10 w1 #[.int .i64 0, .int .i64 0, .int .i64 0, .int .u8 0, .int .u8 0, .int .u8 0, .int .u8 0, .int .u8 0, .int .u8 0, .int .u8 0, .int .u8 0, .int .u8 0, .int .u8 0, .int .u8 0, .int .u8 0, .int .u8 0, .int .u8 0, .int .u8 0, .int .u8 0] (entA 1 5 5 zer16) 24)
      have HK := hide (kp_new10 w1 (.cells #[.int .i64 0, .int .i64 0, .int .i64 0, .int .u8 0, .int .u8 0, .int .u8 0, .int .u8 0, .int .u8 0, .int .u8 0, .int .u8 0, .int .u8 0, .int .u8 0, .int .u8 0, .int .u8 0, .int .u8 0, .int .u8 0, .int .u8 0, .int .u8 0, .int .u8 0] 24) (entA 1 5 5 zer16))
      rw [hW] at HB HK
      replace HT := hide ((unhide HT).trans ((unhide HK).below.mono hsz))
      have HN := hide (World.alloc_heap_new w1 (.cells #[.int .i64 0, .int .i64 0, .int .i64 0, .int .u8 0, .int .u8 0, .int .u8 0, .int .u8 0, .int .u8 0, .int .u8 0, .int .u8 0, .int .u8 0, .int .u8 0, .int .u8 0, .int .u8 0, .int .u8 0, .int .u8 0, .int .u8 0, .int .u8 0, .int .u8 0] 24))
      obtain ⟨b, hb⟩ : ∃ b, w1.heap.size = b := ⟨_, rfl⟩
      rw [hb] at HB hsz
      have HW := hide hW
      have HBB := hide hb
      clear hW hb HK
      go_wp2_with (first | (refine wpList_store_row rfl 24 _ _ rfl w1.heap.size (entA 1 5 5 zer16) rfl rfl 24 #[.int .i64 0, .int .i64 0, .int .i64 0, .int .u8 0, .int .u8 0, .int .u8 0, .int .u8 0, .int .u8 0, .int .u8 0, .int .u8 0, .int .u8 0, .int .u8 0, .int .u8 0, .int .u8 0, .int .u8 0, .int .u8 0, .int .u8 0, .int .u8 0, .int .u8 0] (unhide HN) (by rw [sizeTE]; rfl) rfl (entA_one _ _ _ _) ?_; rw [unhide HW]))
      rw [unhide HBB]
      refine (within10_any c 8 _ (by omega) (by omega)).mono ?_
      rintro e w2 ⟨rfl, hw2⟩
      subst hw2
      rw [unhide HF]
      clear HW HBB HN hbt
      obtain ⟨w3, hw3⟩ : ∃ W, w2.setRow b (entA 3 0 0 zer16) = W := ⟨_, rfl⟩
      have HB3 : Hid (AtB w3 b (entA 3 0 0 zer16) 24) := ⟨by rw [← hw3]; exact setRow_heap _ _ _ _ _ _ (unhide HB).blk⟩
      replace HT : Hid (Below w.heap.size w w3) := by rw [← hw3]; exact below_setRow10 (unhide HT) hsz _
      have HW3 := hide hw3
      clear hw3
      go_wp2_with (first | (refine wpList_store_row rfl 24 _ _ rfl b (entA 3 0 0 zer16) rfl rfl 24 (entA 1 5 5 zer16) (unhide HB).blk (by rw [sizeTE]; rfl) rfl (entA_one _ _ _ _) ?_; rw [unhide HW3]) | (refine wpList_load_want10 rfl 24 _ rfl b rfl 24 (entA 3 0 0 zer16) _ _ (unhide HB3).blk Try.underlying24 rfl (by rw [sizeTE]; rfl) ?_))
      have HCK : Hid (chkE 3 0 0 zer16 = 0) := chkE_ok (by unfold okE zer16; decide)
      refine (echeck_any 3 0 0 zer16 rfl _).mono ?_
      rintro e w5 ⟨rfl, hk⟩
      rw [unhide HCK]
      replace HT := hide ((unhide HT).trans (hk.mono (unhide HT).size))
      have HB5 := hide ((unhide HB3).below hk)
      clear hk
      go_wp2
      go_ret
      exact ⟨rfl, unhide HT⟩
    · subst h
      go_enter Try.func5, Try.ntmps5
      have hbt := fun W => build_TE3 1 5 5 W
      have hbt2 := fun W => build_TE01 0 0 W
      go_wp2_with fail
      refine (known10_any _).mono ?_
      rintro e w1 ⟨rfl, hk⟩
      have HT := hide hk
      have hsz := hk.size
      clear hk
      obtain ⟨W, hW⟩ : ∃ W, (w1.alloc (.cells #[.int .i64 0, .int .i64 0, .int .i64 0, .int .u8 0, .int .u8 0, .int .u8 0, .int .u8 0, .int .u8 0, .int .u8 0, .int .u8 0, .int .u8 0, .int .u8 0, .int .u8 0, .int .u8 0, .int .u8 0, .int .u8 0, .int .u8 0, .int .u8 0, .int .u8 0] 24)).setRow w1.heap.size (entA 1 5 5 zer16) = W := ⟨_, rfl⟩
      have HB := hide (blk_new10 w1 #[.int .i64 0, .int .i64 0, .int .i64 0, .int .u8 0, .int .u8 0, .int .u8 0, .int .u8 0, .int .u8 0, .int .u8 0, .int .u8 0, .int .u8 0, .int .u8 0, .int .u8 0, .int .u8 0, .int .u8 0, .int .u8 0, .int .u8 0, .int .u8 0, .int .u8 0] (entA 1 5 5 zer16) 24)
      have HK := hide (kp_new10 w1 (.cells #[.int .i64 0, .int .i64 0, .int .i64 0, .int .u8 0, .int .u8 0, .int .u8 0, .int .u8 0, .int .u8 0, .int .u8 0, .int .u8 0, .int .u8 0, .int .u8 0, .int .u8 0, .int .u8 0, .int .u8 0, .int .u8 0, .int .u8 0, .int .u8 0, .int .u8 0] 24) (entA 1 5 5 zer16))
      rw [hW] at HB HK
      replace HT := hide ((unhide HT).trans ((unhide HK).below.mono hsz))
      have HN := hide (World.alloc_heap_new w1 (.cells #[.int .i64 0, .int .i64 0, .int .i64 0, .int .u8 0, .int .u8 0, .int .u8 0, .int .u8 0, .int .u8 0, .int .u8 0, .int .u8 0, .int .u8 0, .int .u8 0, .int .u8 0, .int .u8 0, .int .u8 0, .int .u8 0, .int .u8 0, .int .u8 0, .int .u8 0] 24))
      obtain ⟨b, hb⟩ : ∃ b, w1.heap.size = b := ⟨_, rfl⟩
      rw [hb] at HB hsz
      have HW := hide hW
      have HBB := hide hb
      clear hW hb HK
      go_wp2_with (first | (refine wpList_store_row rfl 24 _ _ rfl w1.heap.size (entA 1 5 5 zer16) rfl rfl 24 #[.int .i64 0, .int .i64 0, .int .i64 0, .int .u8 0, .int .u8 0, .int .u8 0, .int .u8 0, .int .u8 0, .int .u8 0, .int .u8 0, .int .u8 0, .int .u8 0, .int .u8 0, .int .u8 0, .int .u8 0, .int .u8 0, .int .u8 0, .int .u8 0, .int .u8 0] (unhide HN) (by rw [sizeTE]; rfl) rfl (entA_one _ _ _ _) ?_; rw [unhide HW]))
      rw [unhide HBB]
      refine (within10_any c 8 _ (by omega) (by omega)).mono ?_
      rintro e w2 ⟨rfl, hw2⟩
      subst hw2
      rw [unhide HF]
      clear HW HBB HN hbt
      obtain ⟨w3, hw3⟩ : ∃ W, w2.setRow b (entA 0 0 0 zer16) = W := ⟨_, rfl⟩
      have HB3 : Hid (AtB w3 b (entA 0 0 0 zer16) 24) := ⟨by rw [← hw3]; exact setRow_heap _ _ _ _ _ _ (unhide HB).blk⟩
      replace HT : Hid (Below w.heap.size w w3) := by rw [← hw3]; exact below_setRow10 (unhide HT) hsz _
      have HW3 := hide hw3
      clear hw3
      go_wp2_with (first | (refine wpList_store_row rfl 24 _ _ rfl b (entA 0 0 0 zer16) rfl rfl 24 (entA 1 5 5 zer16) (unhide HB).blk (by rw [sizeTE]; rfl) rfl (entA_one _ _ _ _) ?_; rw [unhide HW3]) | (refine wpList_load_want10 rfl 24 _ rfl b rfl 24 (entA 0 0 0 zer16) _ _ (unhide HB3).blk Try.underlying24 rfl (by rw [sizeTE]; rfl) ?_))
      have HCK : Hid (chkE 0 0 0 zer16 = 0) := chkE_ok (by unfold okE zer16; decide)
      refine (echeck_any 0 0 0 zer16 rfl _).mono ?_
      rintro e w5 ⟨rfl, hk⟩
      rw [unhide HCK]
      replace HT := hide ((unhide HT).trans (hk.mono (unhide HT).size))
      have HB5 := hide ((unhide HB3).below hk)
      clear hk
      go_wp2
      go_ret
      exact ⟨rfl, unhide HT⟩
    · subst h
      go_enter Try.func5, Try.ntmps5
      have hbt := fun W => build_TE3 1 5 5 W
      have hbt2 := fun W => build_TE3 2 5 5 W
      go_wp2_with fail
      refine (known10_any _).mono ?_
      rintro e w1 ⟨rfl, hk⟩
      have HT := hide hk
      have hsz := hk.size
      clear hk
      obtain ⟨W, hW⟩ : ∃ W, (w1.alloc (.cells #[.int .i64 0, .int .i64 0, .int .i64 0, .int .u8 0, .int .u8 0, .int .u8 0, .int .u8 0, .int .u8 0, .int .u8 0, .int .u8 0, .int .u8 0, .int .u8 0, .int .u8 0, .int .u8 0, .int .u8 0, .int .u8 0, .int .u8 0, .int .u8 0, .int .u8 0] 24)).setRow w1.heap.size (entA 1 5 5 zer16) = W := ⟨_, rfl⟩
      have HB := hide (blk_new10 w1 #[.int .i64 0, .int .i64 0, .int .i64 0, .int .u8 0, .int .u8 0, .int .u8 0, .int .u8 0, .int .u8 0, .int .u8 0, .int .u8 0, .int .u8 0, .int .u8 0, .int .u8 0, .int .u8 0, .int .u8 0, .int .u8 0, .int .u8 0, .int .u8 0, .int .u8 0] (entA 1 5 5 zer16) 24)
      have HK := hide (kp_new10 w1 (.cells #[.int .i64 0, .int .i64 0, .int .i64 0, .int .u8 0, .int .u8 0, .int .u8 0, .int .u8 0, .int .u8 0, .int .u8 0, .int .u8 0, .int .u8 0, .int .u8 0, .int .u8 0, .int .u8 0, .int .u8 0, .int .u8 0, .int .u8 0, .int .u8 0, .int .u8 0] 24) (entA 1 5 5 zer16))
      rw [hW] at HB HK
      replace HT := hide ((unhide HT).trans ((unhide HK).below.mono hsz))
      have HN := hide (World.alloc_heap_new w1 (.cells #[.int .i64 0, .int .i64 0, .int .i64 0, .int .u8 0, .int .u8 0, .int .u8 0, .int .u8 0, .int .u8 0, .int .u8 0, .int .u8 0, .int .u8 0, .int .u8 0, .int .u8 0, .int .u8 0, .int .u8 0, .int .u8 0, .int .u8 0, .int .u8 0, .int .u8 0] 24))
      obtain ⟨b, hb⟩ : ∃ b, w1.heap.size = b := ⟨_, rfl⟩
      rw [hb] at HB hsz
      have HW := hide hW
      have HBB := hide hb
      clear hW hb HK
      go_wp2_with (first | (refine wpList_store_row rfl 24 _ _ rfl w1.heap.size (entA 1 5 5 zer16) rfl rfl 24 #[.int .i64 0, .int .i64 0, .int .i64 0, .int .u8 0, .int .u8 0, .int .u8 0, .int .u8 0, .int .u8 0, .int .u8 0, .int .u8 0, .int .u8 0, .int .u8 0, .int .u8 0, .int .u8 0, .int .u8 0, .int .u8 0, .int .u8 0, .int .u8 0, .int .u8 0] (unhide HN) (by rw [sizeTE]; rfl) rfl (entA_one _ _ _ _) ?_; rw [unhide HW]))
      rw [unhide HBB]
      refine (within10_any c 8 _ (by omega) (by omega)).mono ?_
      rintro e w2 ⟨rfl, hw2⟩
      subst hw2
      rw [unhide HF]
      clear HW HBB HN hbt
      obtain ⟨w3, hw3⟩ : ∃ W, w2.setRow b (entA 2 5 5 zer16) = W := ⟨_, rfl⟩
      have HB3 : Hid (AtB w3 b (entA 2 5 5 zer16) 24) := ⟨by rw [← hw3]; exact setRow_heap _ _ _ _ _ _ (unhide HB).blk⟩
      replace HT : Hid (Below w.heap.size w w3) := by rw [← hw3]; exact below_setRow10 (unhide HT) hsz _
      have HW3 := hide hw3
      clear hw3
      obtain ⟨w4, hw4⟩ : ∃ W, w3.setCell ⟨b, 18, none⟩ (.int .u8 0) = W := ⟨_, rfl⟩
      have hcl : w3.cell? ⟨b, 18, none⟩ = some (.int .u8 0) := cell_blk (unhide HB3).blk rfl
      have hfr : w3.frozen? ⟨b, 18, none⟩ = false := free_blk (unhide HB3).blk
      have HB4 : Hid (AtB w4 b (entA 2 5 5 (last10 0)) 24) := ⟨by rw [← ent_last 2 5 5 0, ← hw4]; exact heap_setCell_same _ _ _ _ _ _ (unhide HB3).blk⟩
      replace HT : Hid (Below w.heap.size w w4) := by rw [← hw4]; exact (unhide HT).setCell (p := ⟨b, 18, none⟩) hsz _
      go_wp2_with (first | (refine wpList_store_row rfl 24 _ _ rfl b (entA 2 5 5 zer16) rfl rfl 24 (entA 1 5 5 zer16) (unhide HB).blk (by rw [sizeTE]; rfl) rfl (entA_one _ _ _ _) ?_; rw [unhide HW3]) | (refine wpList_load_want10 rfl 24 _ rfl b rfl 24 (entA 2 5 5 (last10 0)) _ _ (unhide HB4).blk Try.underlying24 rfl (by rw [sizeTE]; rfl) ?_))
      clear hcl hfr hw4
      have HB3 := HB4
      have HCK : Hid (chkE 2 5 5 (last10 0) = 0) := chkE_ok (by unfold okE zer16 last10; decide)
      refine (echeck_any 2 5 5 (last10 0) rfl _).mono ?_
      rintro e w5 ⟨rfl, hk⟩
      rw [unhide HCK]
      replace HT := hide ((unhide HT).trans (hk.mono (unhide HT).size))
      have HB5 := hide ((unhide HB3).below hk)
      clear hk
      go_wp2
      go_ret
      exact ⟨rfl, unhide HT⟩
  · rcases (show R = 0 ∨ R = 1 ∨ R = 2 ∨ R = 3 ∨ R = 4 ∨ R = 5 ∨ R = 6 ∨ R = 7 by omega) with h | h | h | h | h | h | h | h
    · subst h
      go_enter Try.func5, Try.ntmps5
      have hbt := fun W => build_TE3 1 5 5 W
      go_wp2_with fail
      refine (known10_any _).mono ?_
      rintro e w1 ⟨rfl, hk⟩
      have HT := hide hk
      have hsz := hk.size
      clear hk
      obtain ⟨W, hW⟩ : ∃ W, (w1.alloc (.cells #[.int .i64 0, .int .i64 0, .int .i64 0, .int .u8 0, .int .u8 0, .int .u8 0, .int .u8 0, .int .u8 0, .int .u8 0, .int .u8 0, .int .u8 0, .int .u8 0, .int .u8 0, .int .u8 0, .int .u8 0, .int .u8 0, .int .u8 0, .int .u8 0, .int .u8 0] 24)).setRow w1.heap.size (entA 1 5 5 zer16) = W := ⟨_, rfl⟩
      have HB := hide (blk_new10 w1 #[.int .i64 0, .int .i64 0, .int .i64 0, .int .u8 0, .int .u8 0, .int .u8 0, .int .u8 0, .int .u8 0, .int .u8 0, .int .u8 0, .int .u8 0, .int .u8 0, .int .u8 0, .int .u8 0, .int .u8 0, .int .u8 0, .int .u8 0, .int .u8 0, .int .u8 0] (entA 1 5 5 zer16) 24)
      have HK := hide (kp_new10 w1 (.cells #[.int .i64 0, .int .i64 0, .int .i64 0, .int .u8 0, .int .u8 0, .int .u8 0, .int .u8 0, .int .u8 0, .int .u8 0, .int .u8 0, .int .u8 0, .int .u8 0, .int .u8 0, .int .u8 0, .int .u8 0, .int .u8 0, .int .u8 0, .int .u8 0, .int .u8 0] 24) (entA 1 5 5 zer16))
      rw [hW] at HB HK
      replace HT := hide ((unhide HT).trans ((unhide HK).below.mono hsz))
      have HN := hide (World.alloc_heap_new w1 (.cells #[.int .i64 0, .int .i64 0, .int .i64 0, .int .u8 0, .int .u8 0, .int .u8 0, .int .u8 0, .int .u8 0, .int .u8 0, .int .u8 0, .int .u8 0, .int .u8 0, .int .u8 0, .int .u8 0, .int .u8 0, .int .u8 0, .int .u8 0, .int .u8 0, .int .u8 0] 24))
      obtain ⟨b, hb⟩ : ∃ b, w1.heap.size = b := ⟨_, rfl⟩
      rw [hb] at HB hsz
      have HW := hide hW
      have HBB := hide hb
      clear hW hb HK
      go_wp2_with (first | (refine wpList_store_row rfl 24 _ _ rfl w1.heap.size (entA 1 5 5 zer16) rfl rfl 24 #[.int .i64 0, .int .i64 0, .int .i64 0, .int .u8 0, .int .u8 0, .int .u8 0, .int .u8 0, .int .u8 0, .int .u8 0, .int .u8 0, .int .u8 0, .int .u8 0, .int .u8 0, .int .u8 0, .int .u8 0, .int .u8 0, .int .u8 0, .int .u8 0, .int .u8 0] (unhide HN) (by rw [sizeTE]; rfl) rfl (entA_one _ _ _ _) ?_; rw [unhide HW]))
      rw [unhide HBB]
      refine (within10_any c 8 _ (by omega) (by omega)).mono ?_
      rintro e w2 ⟨rfl, hw2⟩
      subst hw2
      rw [unhide HF]
      clear HW HBB HN hbt
      obtain ⟨w3, hw3⟩ : ∃ W, w2.setCell ⟨b, 1, none⟩ (.int .i64 65537) = W := ⟨_, rfl⟩
      have hcl : w2.cell? ⟨b, 1, none⟩ = some (.int .i64 5) := cell_blk (unhide HB).blk rfl
      have hfr : w2.frozen? ⟨b, 1, none⟩ = false := free_blk (unhide HB).blk
      have HB3 : Hid (AtB w3 b (entA 1 65537 5 zer16) 24) := ⟨by rw [← hw3]; exact heap_setCell_same _ _ _ _ _ _ (unhide HB).blk⟩
      replace HT : Hid (Below w.heap.size w w3) := by rw [← hw3]; exact (unhide HT).setCell (p := ⟨b, 1, none⟩) hsz _
      go_wp2_with (refine wpList_load_want10 rfl 24 _ rfl b rfl 24 (entA 1 65537 5 zer16) _ _ (unhide HB3).blk Try.underlying24 rfl (by rw [sizeTE]; rfl) ?_)
      clear hcl hfr hw3
      have HCK : Hid (chkE 1 65537 5 zer16 = 1) := chkE_not (by unfold okE zer16; decide)
      refine (echeck_any 1 65537 5 zer16 rfl _).mono ?_
      rintro e w5 ⟨rfl, hk⟩
      rw [unhide HCK]
      replace HT := hide ((unhide HT).trans (hk.mono (unhide HT).size))
      have HB5 := hide ((unhide HB3).below hk)
      clear hk
      go_wp2_with (refine wpList_load_want10 rfl 24 _ rfl b rfl 24 (entA 1 65537 5 zer16) _ _ (unhide HB5).blk Try.underlying24 rfl (by rw [sizeTE]; rfl) ?_)
      refine (echeck_any 1 65537 5 zer16 rfl _).mono ?_
      rintro e w6 ⟨rfl, hk⟩
      rw [unhide HCK]
      replace HT := hide ((unhide HT).trans (hk.mono (unhide HT).size))
      clear hk
      go_wp2
      go_ret
      exact ⟨rfl, unhide HT⟩
    · subst h
      go_enter Try.func5, Try.ntmps5
      have hbt := fun W => build_TE3 1 5 5 W
      go_wp2_with fail
      refine (known10_any _).mono ?_
      rintro e w1 ⟨rfl, hk⟩
      have HT := hide hk
      have hsz := hk.size
      clear hk
      obtain ⟨W, hW⟩ : ∃ W, (w1.alloc (.cells #[.int .i64 0, .int .i64 0, .int .i64 0, .int .u8 0, .int .u8 0, .int .u8 0, .int .u8 0, .int .u8 0, .int .u8 0, .int .u8 0, .int .u8 0, .int .u8 0, .int .u8 0, .int .u8 0, .int .u8 0, .int .u8 0, .int .u8 0, .int .u8 0, .int .u8 0] 24)).setRow w1.heap.size (entA 1 5 5 zer16) = W := ⟨_, rfl⟩
      have HB := hide (blk_new10 w1 #[.int .i64 0, .int .i64 0, .int .i64 0, .int .u8 0, .int .u8 0, .int .u8 0, .int .u8 0, .int .u8 0, .int .u8 0, .int .u8 0, .int .u8 0, .int .u8 0, .int .u8 0, .int .u8 0, .int .u8 0, .int .u8 0, .int .u8 0, .int .u8 0, .int .u8 0] (entA 1 5 5 zer16) 24)
      have HK := hide (kp_new10 w1 (.cells #[.int .i64 0, .int .i64 0, .int .i64 0, .int .u8 0, .int .u8 0, .int .u8 0, .int .u8 0, .int .u8 0, .int .u8 0, .int .u8 0, .int .u8 0, .int .u8 0, .int .u8 0, .int .u8 0, .int .u8 0, .int .u8 0, .int .u8 0, .int .u8 0, .int .u8 0] 24) (entA 1 5 5 zer16))
      rw [hW] at HB HK
      replace HT := hide ((unhide HT).trans ((unhide HK).below.mono hsz))
      have HN := hide (World.alloc_heap_new w1 (.cells #[.int .i64 0, .int .i64 0, .int .i64 0, .int .u8 0, .int .u8 0, .int .u8 0, .int .u8 0, .int .u8 0, .int .u8 0, .int .u8 0, .int .u8 0, .int .u8 0, .int .u8 0, .int .u8 0, .int .u8 0, .int .u8 0, .int .u8 0, .int .u8 0, .int .u8 0] 24))
      obtain ⟨b, hb⟩ : ∃ b, w1.heap.size = b := ⟨_, rfl⟩
      rw [hb] at HB hsz
      have HW := hide hW
      have HBB := hide hb
      clear hW hb HK
      go_wp2_with (first | (refine wpList_store_row rfl 24 _ _ rfl w1.heap.size (entA 1 5 5 zer16) rfl rfl 24 #[.int .i64 0, .int .i64 0, .int .i64 0, .int .u8 0, .int .u8 0, .int .u8 0, .int .u8 0, .int .u8 0, .int .u8 0, .int .u8 0, .int .u8 0, .int .u8 0, .int .u8 0, .int .u8 0, .int .u8 0, .int .u8 0, .int .u8 0, .int .u8 0, .int .u8 0] (unhide HN) (by rw [sizeTE]; rfl) rfl (entA_one _ _ _ _) ?_; rw [unhide HW]))
      rw [unhide HBB]
      refine (within10_any c 8 _ (by omega) (by omega)).mono ?_
      rintro e w2 ⟨rfl, hw2⟩
      subst hw2
      rw [unhide HF]
      clear HW HBB HN hbt
      obtain ⟨w3, hw3⟩ : ∃ W, w2.setCell ⟨b, 1, none⟩ (.int .i64 (-1)) = W := ⟨_, rfl⟩
      have hcl : w2.cell? ⟨b, 1, none⟩ = some (.int .i64 5) := cell_blk (unhide HB).blk rfl
      have hfr : w2.frozen? ⟨b, 1, none⟩ = false := free_blk (unhide HB).blk
      have HB3 : Hid (AtB w3 b (entA 1 (-1) 5 zer16) 24) := ⟨by rw [← hw3]; exact heap_setCell_same _ _ _ _ _ _ (unhide HB).blk⟩
      replace HT : Hid (Below w.heap.size w w3) := by rw [← hw3]; exact (unhide HT).setCell (p := ⟨b, 1, none⟩) hsz _
      go_wp2_with (refine wpList_load_want10 rfl 24 _ rfl b rfl 24 (entA 1 (-1) 5 zer16) _ _ (unhide HB3).blk Try.underlying24 rfl (by rw [sizeTE]; rfl) ?_)
      clear hcl hfr hw3
      have HCK : Hid (chkE 1 (-1) 5 zer16 = 1) := chkE_not (by unfold okE zer16; decide)
      refine (echeck_any 1 (-1) 5 zer16 rfl _).mono ?_
      rintro e w5 ⟨rfl, hk⟩
      rw [unhide HCK]
      replace HT := hide ((unhide HT).trans (hk.mono (unhide HT).size))
      have HB5 := hide ((unhide HB3).below hk)
      clear hk
      go_wp2_with (refine wpList_load_want10 rfl 24 _ rfl b rfl 24 (entA 1 (-1) 5 zer16) _ _ (unhide HB5).blk Try.underlying24 rfl (by rw [sizeTE]; rfl) ?_)
      refine (echeck_any 1 (-1) 5 zer16 rfl _).mono ?_
      rintro e w6 ⟨rfl, hk⟩
      rw [unhide HCK]
      replace HT := hide ((unhide HT).trans (hk.mono (unhide HT).size))
      clear hk
      go_wp2
      go_ret
      exact ⟨rfl, unhide HT⟩
    · subst h
      go_enter Try.func5, Try.ntmps5
      have hbt := fun W => build_TE3 1 5 5 W
      go_wp2_with fail
      refine (known10_any _).mono ?_
      rintro e w1 ⟨rfl, hk⟩
      have HT := hide hk
      have hsz := hk.size
      clear hk
      obtain ⟨W, hW⟩ : ∃ W, (w1.alloc (.cells #[.int .i64 0, .int .i64 0, .int .i64 0, .int .u8 0, .int .u8 0, .int .u8 0, .int .u8 0, .int .u8 0, .int .u8 0, .int .u8 0, .int .u8 0, .int .u8 0, .int .u8 0, .int .u8 0, .int .u8 0, .int .u8 0, .int .u8 0, .int .u8 0, .int .u8 0] 24)).setRow w1.heap.size (entA 1 5 5 zer16) = W := ⟨_, rfl⟩
      have HB := hide (blk_new10 w1 #[.int .i64 0, .int .i64 0, .int .i64 0, .int .u8 0, .int .u8 0, .int .u8 0, .int .u8 0, .int .u8 0, .int .u8 0, .int .u8 0, .int .u8 0, .int .u8 0, .int .u8 0, .int .u8 0, .int .u8 0, .int .u8 0, .int .u8 0, .int .u8 0, .int .u8 0] (entA 1 5 5 zer16) 24)
      have HK := hide (kp_new10 w1 (.cells #[.int .i64 0, .int .i64 0, .int .i64 0, .int .u8 0, .int .u8 0, .int .u8 0, .int .u8 0, .int .u8 0, .int .u8 0, .int .u8 0, .int .u8 0, .int .u8 0, .int .u8 0, .int .u8 0, .int .u8 0, .int .u8 0, .int .u8 0, .int .u8 0, .int .u8 0] 24) (entA 1 5 5 zer16))
      rw [hW] at HB HK
      replace HT := hide ((unhide HT).trans ((unhide HK).below.mono hsz))
      have HN := hide (World.alloc_heap_new w1 (.cells #[.int .i64 0, .int .i64 0, .int .i64 0, .int .u8 0, .int .u8 0, .int .u8 0, .int .u8 0, .int .u8 0, .int .u8 0, .int .u8 0, .int .u8 0, .int .u8 0, .int .u8 0, .int .u8 0, .int .u8 0, .int .u8 0, .int .u8 0, .int .u8 0, .int .u8 0] 24))
      obtain ⟨b, hb⟩ : ∃ b, w1.heap.size = b := ⟨_, rfl⟩
      rw [hb] at HB hsz
      have HW := hide hW
      have HBB := hide hb
      clear hW hb HK
      go_wp2_with (first | (refine wpList_store_row rfl 24 _ _ rfl w1.heap.size (entA 1 5 5 zer16) rfl rfl 24 #[.int .i64 0, .int .i64 0, .int .i64 0, .int .u8 0, .int .u8 0, .int .u8 0, .int .u8 0, .int .u8 0, .int .u8 0, .int .u8 0, .int .u8 0, .int .u8 0, .int .u8 0, .int .u8 0, .int .u8 0, .int .u8 0, .int .u8 0, .int .u8 0, .int .u8 0] (unhide HN) (by rw [sizeTE]; rfl) rfl (entA_one _ _ _ _) ?_; rw [unhide HW]))
      rw [unhide HBB]
      refine (within10_any c 8 _ (by omega) (by omega)).mono ?_
      rintro e w2 ⟨rfl, hw2⟩
      subst hw2
      rw [unhide HF]
      clear HW HBB HN hbt
      obtain ⟨w3, hw3⟩ : ∃ W, w2.setCell ⟨b, 2, none⟩ (.int .i64 1099511627777) = W := ⟨_, rfl⟩
      have hcl : w2.cell? ⟨b, 2, none⟩ = some (.int .i64 5) := cell_blk (unhide HB).blk rfl
      have hfr : w2.frozen? ⟨b, 2, none⟩ = false := free_blk (unhide HB).blk
      have HB3 : Hid (AtB w3 b (entA 1 5 1099511627777 zer16) 24) := ⟨by rw [← hw3]; exact heap_setCell_same _ _ _ _ _ _ (unhide HB).blk⟩
      replace HT : Hid (Below w.heap.size w w3) := by rw [← hw3]; exact (unhide HT).setCell (p := ⟨b, 2, none⟩) hsz _
      go_wp2_with (refine wpList_load_want10 rfl 24 _ rfl b rfl 24 (entA 1 5 1099511627777 zer16) _ _ (unhide HB3).blk Try.underlying24 rfl (by rw [sizeTE]; rfl) ?_)
      clear hcl hfr hw3
      have HCK : Hid (chkE 1 5 1099511627777 zer16 = 1) := chkE_not (by unfold okE zer16; decide)
      refine (echeck_any 1 5 1099511627777 zer16 rfl _).mono ?_
      rintro e w5 ⟨rfl, hk⟩
      rw [unhide HCK]
      replace HT := hide ((unhide HT).trans (hk.mono (unhide HT).size))
      have HB5 := hide ((unhide HB3).below hk)
      clear hk
      go_wp2_with (refine wpList_load_want10 rfl 24 _ rfl b rfl 24 (entA 1 5 1099511627777 zer16) _ _ (unhide HB5).blk Try.underlying24 rfl (by rw [sizeTE]; rfl) ?_)
      refine (echeck_any 1 5 1099511627777 zer16 rfl _).mono ?_
      rintro e w6 ⟨rfl, hk⟩
      rw [unhide HCK]
      replace HT := hide ((unhide HT).trans (hk.mono (unhide HT).size))
      clear hk
      go_wp2
      go_ret
      exact ⟨rfl, unhide HT⟩
    · subst h
      go_enter Try.func5, Try.ntmps5
      have hbt := fun W => build_TE3 1 5 5 W
      go_wp2_with fail
      refine (known10_any _).mono ?_
      rintro e w1 ⟨rfl, hk⟩
      have HT := hide hk
      have hsz := hk.size
      clear hk
      obtain ⟨W, hW⟩ : ∃ W, (w1.alloc (.cells #[.int .i64 0, .int .i64 0, .int .i64 0, .int .u8 0, .int .u8 0, .int .u8 0, .int .u8 0, .int .u8 0, .int .u8 0, .int .u8 0, .int .u8 0, .int .u8 0, .int .u8 0, .int .u8 0, .int .u8 0, .int .u8 0, .int .u8 0, .int .u8 0, .int .u8 0] 24)).setRow w1.heap.size (entA 1 5 5 zer16) = W := ⟨_, rfl⟩
      have HB := hide (blk_new10 w1 #[.int .i64 0, .int .i64 0, .int .i64 0, .int .u8 0, .int .u8 0, .int .u8 0, .int .u8 0, .int .u8 0, .int .u8 0, .int .u8 0, .int .u8 0, .int .u8 0, .int .u8 0, .int .u8 0, .int .u8 0, .int .u8 0, .int .u8 0, .int .u8 0, .int .u8 0] (entA 1 5 5 zer16) 24)
      have HK := hide (kp_new10 w1 (.cells #[.int .i64 0, .int .i64 0, .int .i64 0, .int .u8 0, .int .u8 0, .int .u8 0, .int .u8 0, .int .u8 0, .int .u8 0, .int .u8 0, .int .u8 0, .int .u8 0, .int .u8 0, .int .u8 0, .int .u8 0, .int .u8 0, .int .u8 0, .int .u8 0, .int .u8 0] 24) (entA 1 5 5 zer16))
      rw [hW] at HB HK
      replace HT := hide ((unhide HT).trans ((unhide HK).below.mono hsz))
      have HN := hide (World.alloc_heap_new w1 (.cells #[.int .i64 0, .int .i64 0, .int .i64 0, .int .u8 0, .int .u8 0, .int .u8 0, .int .u8 0, .int .u8 0, .int .u8 0, .int .u8 0, .int .u8 0, .int .u8 0, .int .u8 0, .int .u8 0, .int .u8 0, .int .u8 0, .int .u8 0, .int .u8 0, .int .u8 0] 24))
      obtain ⟨b, hb⟩ : ∃ b, w1.heap.size = b := ⟨_, rfl⟩
      rw [hb] at HB hsz
      have HW := hide hW
      have HBB := hide hb
      clear hW hb HK
      go_wp2_with (first | (refine wpList_store_row rfl 24 _ _ rfl w1.heap.size (entA 1 5 5 zer16) rfl rfl 24 #[.int .i64 0, .int .i64 0, .int .i64 0, .int .u8 0, .int .u8 0, .int .u8 0, .int .u8 0, .int .u8 0, .int .u8 0, .int .u8 0, .int .u8 0, .int .u8 0, .int .u8 0, .int .u8 0, .int .u8 0, .int .u8 0, .int .u8 0, .int .u8 0, .int .u8 0] (unhide HN) (by rw [sizeTE]; rfl) rfl (entA_one _ _ _ _) ?_; rw [unhide HW]))
      rw [unhide HBB]
      refine (within10_any c 8 _ (by omega) (by omega)).mono ?_
      rintro e w2 ⟨rfl, hw2⟩
      subst hw2
      rw [unhide HF]
      clear HW HBB HN hbt
      obtain ⟨w3, hw3⟩ : ∃ W, w2.setCell ⟨b, 2, none⟩ (.int .i64 0) = W := ⟨_, rfl⟩
      have hcl : w2.cell? ⟨b, 2, none⟩ = some (.int .i64 5) := cell_blk (unhide HB).blk rfl
      have hfr : w2.frozen? ⟨b, 2, none⟩ = false := free_blk (unhide HB).blk
      have HB3 : Hid (AtB w3 b (entA 1 5 0 zer16) 24) := ⟨by rw [← hw3]; exact heap_setCell_same _ _ _ _ _ _ (unhide HB).blk⟩
      replace HT : Hid (Below w.heap.size w w3) := by rw [← hw3]; exact (unhide HT).setCell (p := ⟨b, 2, none⟩) hsz _
      go_wp2_with (refine wpList_load_want10 rfl 24 _ rfl b rfl 24 (entA 1 5 0 zer16) _ _ (unhide HB3).blk Try.underlying24 rfl (by rw [sizeTE]; rfl) ?_)
      clear hcl hfr hw3
      have HCK : Hid (chkE 1 5 0 zer16 = 1) := chkE_not (by unfold okE zer16; decide)
      refine (echeck_any 1 5 0 zer16 rfl _).mono ?_
      rintro e w5 ⟨rfl, hk⟩
      rw [unhide HCK]
      replace HT := hide ((unhide HT).trans (hk.mono (unhide HT).size))
      have HB5 := hide ((unhide HB3).below hk)
      clear hk
      go_wp2_with (refine wpList_load_want10 rfl 24 _ rfl b rfl 24 (entA 1 5 0 zer16) _ _ (unhide HB5).blk Try.underlying24 rfl (by rw [sizeTE]; rfl) ?_)
      refine (echeck_any 1 5 0 zer16 rfl _).mono ?_
      rintro e w6 ⟨rfl, hk⟩
      rw [unhide HCK]
      replace HT := hide ((unhide HT).trans (hk.mono (unhide HT).size))
      clear hk
      go_wp2
      go_ret
      exact ⟨rfl, unhide HT⟩
    · subst h
      go_enter Try.func5, Try.ntmps5
      have hbt := fun W => build_TE3 1 5 5 W
      have hbt2 := fun W => build_TE1 4 W
      go_wp2_with fail
      refine (known10_any _).mono ?_
      rintro e w1 ⟨rfl, hk⟩
      have HT := hide hk
      have hsz := hk.size
      clear hk
      obtain ⟨W, hW⟩ : ∃ W, (w1.alloc (.cells #[.int .i64 0, .int .i64 0, .int .i64 0, .int .u8 0, .int .u8 0, .int .u8 0, .int .u8 0, .int .u8 0, .int .u8 0, .int .u8 0, .int .u8 0, .int .u8 0, .int .u8 0, .int .u8 0, .int .u8 0, .int .u8 0, .int .u8 0, .int .u8 0, .int .u8 0] 24)).setRow w1.heap.size (entA 1 5 5 zer16) = W := ⟨_, rfl⟩
      have HB := hide (blk_new10 w1 #[.int .i64 0, .int .i64 0, .int .i64 0, .int .u8 0, .int .u8 0, .int .u8 0, .int .u8 0, .int .u8 0, .int .u8 0, .int .u8 0, .int .u8 0, .int .u8 0, .int .u8 0, .int .u8 0, .int .u8 0, .int .u8 0, .int .u8 0, .int .u8 0, .int .u8 0] (entA 1 5 5 zer16) 24)
      have HK := hide (kp_new10 w1 (.cells #[.int .i64 0, .int .i64 0, .int .i64 0, .int .u8 0, .int .u8 0, .int .u8 0, .int .u8 0, .int .u8 0, .int .u8 0, .int .u8 0, .int .u8 0, .int .u8 0, .int .u8 0, .int .u8 0, .int .u8 0, .int .u8 0, .int .u8 0, .int .u8 0, .int .u8 0] 24) (entA 1 5 5 zer16))
      rw [hW] at HB HK
      replace HT := hide ((unhide HT).trans ((unhide HK).below.mono hsz))
      have HN := hide (World.alloc_heap_new w1 (.cells #[.int .i64 0, .int .i64 0, .int .i64 0, .int .u8 0, .int .u8 0, .int .u8 0, .int .u8 0, .int .u8 0, .int .u8 0, .int .u8 0, .int .u8 0, .int .u8 0, .int .u8 0, .int .u8 0, .int .u8 0, .int .u8 0, .int .u8 0, .int .u8 0, .int .u8 0] 24))
      obtain ⟨b, hb⟩ : ∃ b, w1.heap.size = b := ⟨_, rfl⟩
      rw [hb] at HB hsz
      have HW := hide hW
      have HBB := hide hb
      clear hW hb HK
      go_wp2_with (first | (refine wpList_store_row rfl 24 _ _ rfl w1.heap.size (entA 1 5 5 zer16) rfl rfl 24 #[.int .i64 0, .int .i64 0, .int .i64 0, .int .u8 0, .int .u8 0, .int .u8 0, .int .u8 0, .int .u8 0, .int .u8 0, .int .u8 0, .int .u8 0, .int .u8 0, .int .u8 0, .int .u8 0, .int .u8 0, .int .u8 0, .int .u8 0, .int .u8 0, .int .u8 0] (unhide HN) (by rw [sizeTE]; rfl) rfl (entA_one _ _ _ _) ?_; rw [unhide HW]))
      rw [unhide HBB]
      refine (within10_any c 8 _ (by omega) (by omega)).mono ?_
      rintro e w2 ⟨rfl, hw2⟩
      subst hw2
      rw [unhide HF]
      clear HW HBB HN hbt
      obtain ⟨w3, hw3⟩ : ∃ W, w2.setRow b (entA 4 0 0 zer16) = W := ⟨_, rfl⟩
      have HB3 : Hid (AtB w3 b (entA 4 0 0 zer16) 24) := ⟨by rw [← hw3]; exact setRow_heap _ _ _ _ _ _ (unhide HB).blk⟩
      replace HT : Hid (Below w.heap.size w w3) := by rw [← hw3]; exact below_setRow10 (unhide HT) hsz _
      have HW3 := hide hw3
      clear hw3
      go_wp2_with (first | (refine wpList_store_row rfl 24 _ _ rfl b (entA 4 0 0 zer16) rfl rfl 24 (entA 1 5 5 zer16) (unhide HB).blk (by rw [sizeTE]; rfl) rfl (entA_one _ _ _ _) ?_; rw [unhide HW3]) | (refine wpList_load_want10 rfl 24 _ rfl b rfl 24 (entA 4 0 0 zer16) _ _ (unhide HB3).blk Try.underlying24 rfl (by rw [sizeTE]; rfl) ?_))
      have HCK : Hid (chkE 4 0 0 zer16 = 1) := chkE_not (by unfold okE zer16; decide)
      refine (echeck_any 4 0 0 zer16 rfl _).mono ?_
      rintro e w5 ⟨rfl, hk⟩
      rw [unhide HCK]
      replace HT := hide ((unhide HT).trans (hk.mono (unhide HT).size))
      have HB5 := hide ((unhide HB3).below hk)
      clear hk
      go_wp2_with (refine wpList_load_want10 rfl 24 _ rfl b rfl 24 (entA 4 0 0 zer16) _ _ (unhide HB5).blk Try.underlying24 rfl (by rw [sizeTE]; rfl) ?_)
      refine (echeck_any 4 0 0 zer16 rfl _).mono ?_
      rintro e w6 ⟨rfl, hk⟩
      rw [unhide HCK]
      replace HT := hide ((unhide HT).trans (hk.mono (unhide HT).size))
      clear hk
      go_wp2
      go_ret
      exact ⟨rfl, unhide HT⟩
    · subst h
      go_enter Try.func5, Try.ntmps5
      have hbt := fun W => build_TE3 1 5 5 W
      have hbt2 := fun W => build_TE02 3 1 W
      go_wp2_with fail
      refine (known10_any _).mono ?_
      rintro e w1 ⟨rfl, hk⟩
      have HT := hide hk
      have hsz := hk.size
      clear hk
      obtain ⟨W, hW⟩ : ∃ W, (w1.alloc (.cells #[.int .i64 0, .int .i64 0, .int .i64 0, .int .u8 0, .int .u8 0, .int .u8 0, .int .u8 0, .int .u8 0, .int .u8 0, .int .u8 0, .int .u8 0, .int .u8 0, .int .u8 0, .int .u8 0, .int .u8 0, .int .u8 0, .int .u8 0, .int .u8 0, .int .u8 0] 24)).setRow w1.heap.size (entA 1 5 5 zer16) = W := ⟨_, rfl⟩
      have HB := hide (blk_new10 w1 #[.int .i64 0, .int .i64 0, .int .i64 0, .int .u8 0, .int .u8 0, .int .u8 0, .int .u8 0, .int .u8 0, .int .u8 0, .int .u8 0, .int .u8 0, .int .u8 0, .int .u8 0, .int .u8 0, .int .u8 0, .int .u8 0, .int .u8 0, .int .u8 0, .int .u8 0] (entA 1 5 5 zer16) 24)
      have HK := hide (kp_new10 w1 (.cells #[.int .i64 0, .int .i64 0, .int .i64 0, .int .u8 0, .int .u8 0, .int .u8 0, .int .u8 0, .int .u8 0, .int .u8 0, .int .u8 0, .int .u8 0, .int .u8 0, .int .u8 0, .int .u8 0, .int .u8 0, .int .u8 0, .int .u8 0, .int .u8 0, .int .u8 0] 24) (entA 1 5 5 zer16))
      rw [hW] at HB HK
      replace HT := hide ((unhide HT).trans ((unhide HK).below.mono hsz))
      have HN := hide (World.alloc_heap_new w1 (.cells #[.int .i64 0, .int .i64 0, .int .i64 0, .int .u8 0, .int .u8 0, .int .u8 0, .int .u8 0, .int .u8 0, .int .u8 0, .int .u8 0, .int .u8 0, .int .u8 0, .int .u8 0, .int .u8 0, .int .u8 0, .int .u8 0, .int .u8 0, .int .u8 0, .int .u8 0] 24))
      obtain ⟨b, hb⟩ : ∃ b, w1.heap.size = b := ⟨_, rfl⟩
      rw [hb] at HB hsz
      have HW := hide hW
      have HBB := hide hb
      clear hW hb HK
      go_wp2_with (first | (refine wpList_store_row rfl 24 _ _ rfl w1.heap.size (entA 1 5 5 zer16) rfl rfl 24 #[.int .i64 0, .int .i64 0, .int .i64 0, .int .u8 0, .int .u8 0, .int .u8 0, .int .u8 0, .int .u8 0, .int .u8 0, .int .u8 0, .int .u8 0, .int .u8 0, .int .u8 0, .int .u8 0, .int .u8 0, .int .u8 0, .int .u8 0, .int .u8 0, .int .u8 0] (unhide HN) (by rw [sizeTE]; rfl) rfl (entA_one _ _ _ _) ?_; rw [unhide HW]))
      rw [unhide HBB]
      refine (within10_any c 8 _ (by omega) (by omega)).mono ?_
      rintro e w2 ⟨rfl, hw2⟩
      subst hw2
      rw [unhide HF]
      clear HW HBB HN hbt
      obtain ⟨w3, hw3⟩ : ∃ W, w2.setRow b (entA 3 0 1 zer16) = W := ⟨_, rfl⟩
      have HB3 : Hid (AtB w3 b (entA 3 0 1 zer16) 24) := ⟨by rw [← hw3]; exact setRow_heap _ _ _ _ _ _ (unhide HB).blk⟩
      replace HT : Hid (Below w.heap.size w w3) := by rw [← hw3]; exact below_setRow10 (unhide HT) hsz _
      have HW3 := hide hw3
      clear hw3
      go_wp2_with (first | (refine wpList_store_row rfl 24 _ _ rfl b (entA 3 0 1 zer16) rfl rfl 24 (entA 1 5 5 zer16) (unhide HB).blk (by rw [sizeTE]; rfl) rfl (entA_one _ _ _ _) ?_; rw [unhide HW3]) | (refine wpList_load_want10 rfl 24 _ rfl b rfl 24 (entA 3 0 1 zer16) _ _ (unhide HB3).blk Try.underlying24 rfl (by rw [sizeTE]; rfl) ?_))
      have HCK : Hid (chkE 3 0 1 zer16 = 1) := chkE_not (by unfold okE zer16; decide)
      refine (echeck_any 3 0 1 zer16 rfl _).mono ?_
      rintro e w5 ⟨rfl, hk⟩
      rw [unhide HCK]
      replace HT := hide ((unhide HT).trans (hk.mono (unhide HT).size))
      have HB5 := hide ((unhide HB3).below hk)
      clear hk
      go_wp2_with (refine wpList_load_want10 rfl 24 _ rfl b rfl 24 (entA 3 0 1 zer16) _ _ (unhide HB5).blk Try.underlying24 rfl (by rw [sizeTE]; rfl) ?_)
      refine (echeck_any 3 0 1 zer16 rfl _).mono ?_
      rintro e w6 ⟨rfl, hk⟩
      rw [unhide HCK]
      replace HT := hide ((unhide HT).trans (hk.mono (unhide HT).size))
      clear hk
      go_wp2
      go_ret
      exact ⟨rfl, unhide HT⟩
    · subst h
      go_enter Try.func5, Try.ntmps5
      have hbt := fun W => build_TE3 1 5 5 W
      have hbt2 := fun W => build_TE01 0 1 W
      go_wp2_with fail
      refine (known10_any _).mono ?_
      rintro e w1 ⟨rfl, hk⟩
      have HT := hide hk
      have hsz := hk.size
      clear hk
      obtain ⟨W, hW⟩ : ∃ W, (w1.alloc (.cells #[.int .i64 0, .int .i64 0, .int .i64 0, .int .u8 0, .int .u8 0, .int .u8 0, .int .u8 0, .int .u8 0, .int .u8 0, .int .u8 0, .int .u8 0, .int .u8 0, .int .u8 0, .int .u8 0, .int .u8 0, .int .u8 0, .int .u8 0, .int .u8 0, .int .u8 0] 24)).setRow w1.heap.size (entA 1 5 5 zer16) = W := ⟨_, rfl⟩
      have HB := hide (blk_new10 w1 #[.int .i64 0, .int .i64 0, .int .i64 0, .int .u8 0, .int .u8 0, .int .u8 0, .int .u8 0, .int .u8 0, .int .u8 0, .int .u8 0, .int .u8 0, .int .u8 0, .int .u8 0, .int .u8 0, .int .u8 0, .int .u8 0, .int .u8 0, .int .u8 0, .int .u8 0] (entA 1 5 5 zer16) 24)
      have HK := hide (kp_new10 w1 (.cells #[.int .i64 0, .int .i64 0, .int .i64 0, .int .u8 0, .int .u8 0, .int .u8 0, .int .u8 0, .int .u8 0, .int .u8 0, .int .u8 0, .int .u8 0, .int .u8 0, .int .u8 0, .int .u8 0, .int .u8 0, .int .u8 0, .int .u8 0, .int .u8 0, .int .u8 0] 24) (entA 1 5 5 zer16))
      rw [hW] at HB HK
      replace HT := hide ((unhide HT).trans ((unhide HK).below.mono hsz))
      have HN := hide (World.alloc_heap_new w1 (.cells #[.int .i64 0, .int .i64 0, .int .i64 0, .int .u8 0, .int .u8 0, .int .u8 0, .int .u8 0, .int .u8 0, .int .u8 0, .int .u8 0, .int .u8 0, .int .u8 0, .int .u8 0, .int .u8 0, .int .u8 0, .int .u8 0, .int .u8 0, .int .u8 0, .int .u8 0] 24))
      obtain ⟨b, hb⟩ : ∃ b, w1.heap.size = b := ⟨_, rfl⟩
      rw [hb] at HB hsz
      have HW := hide hW
      have HBB := hide hb
      clear hW hb HK
      go_wp2_with (first | (refine wpList_store_row rfl 24 _ _ rfl w1.heap.size (entA 1 5 5 zer16) rfl rfl 24 #[.int .i64 0, .int .i64 0, .int .i64 0, .int .u8 0, .int .u8 0, .int .u8 0, .int .u8 0, .int .u8 0, .int .u8 0, .int .u8 0, .int .u8 0, .int .u8 0, .int .u8 0, .int .u8 0, .int .u8 0, .int .u8 0, .int .u8 0, .int .u8 0, .int .u8 0] (unhide HN) (by rw [sizeTE]; rfl) rfl (entA_one _ _ _ _) ?_; rw [unhide HW]))
      rw [unhide HBB]
      refine (within10_any c 8 _ (by omega) (by omega)).mono ?_
      rintro e w2 ⟨rfl, hw2⟩
      subst hw2
      rw [unhide HF]
      clear HW HBB HN hbt
      obtain ⟨w3, hw3⟩ : ∃ W, w2.setRow b (entA 0 1 0 zer16) = W := ⟨_, rfl⟩
      have HB3 : Hid (AtB w3 b (entA 0 1 0 zer16) 24) := ⟨by rw [← hw3]; exact setRow_heap _ _ _ _ _ _ (unhide HB).blk⟩
      replace HT : Hid (Below w.heap.size w w3) := by rw [← hw3]; exact below_setRow10 (unhide HT) hsz _
      have HW3 := hide hw3
      clear hw3
      go_wp2_with (first | (refine wpList_store_row rfl 24 _ _ rfl b (entA 0 1 0 zer16) rfl rfl 24 (entA 1 5 5 zer16) (unhide HB).blk (by rw [sizeTE]; rfl) rfl (entA_one _ _ _ _) ?_; rw [unhide HW3]) | (refine wpList_load_want10 rfl 24 _ rfl b rfl 24 (entA 0 1 0 zer16) _ _ (unhide HB3).blk Try.underlying24 rfl (by rw [sizeTE]; rfl) ?_))
      have HCK : Hid (chkE 0 1 0 zer16 = 1) := chkE_not (by unfold okE zer16; decide)
      refine (echeck_any 0 1 0 zer16 rfl _).mono ?_
      rintro e w5 ⟨rfl, hk⟩
      rw [unhide HCK]
      replace HT := hide ((unhide HT).trans (hk.mono (unhide HT).size))
      have HB5 := hide ((unhide HB3).below hk)
      clear hk
      go_wp2_with (refine wpList_load_want10 rfl 24 _ rfl b rfl 24 (entA 0 1 0 zer16) _ _ (unhide HB5).blk Try.underlying24 rfl (by rw [sizeTE]; rfl) ?_)
      refine (echeck_any 0 1 0 zer16 rfl _).mono ?_
      rintro e w6 ⟨rfl, hk⟩
      rw [unhide HCK]
      replace HT := hide ((unhide HT).trans (hk.mono (unhide HT).size))
      clear hk
      go_wp2
      go_ret
      exact ⟨rfl, unhide HT⟩
    · subst h
      go_enter Try.func5, Try.ntmps5
      have hbt := fun W => build_TE3 1 5 5 W
      have hbt2 := fun W => build_TE3 2 5 5 W
      go_wp2_with fail
      refine (known10_any _).mono ?_
      rintro e w1 ⟨rfl, hk⟩
      have HT := hide hk
      have hsz := hk.size
      clear hk
      obtain ⟨W, hW⟩ : ∃ W, (w1.alloc (.cells #[.int .i64 0, .int .i64 0, .int .i64 0, .int .u8 0, .int .u8 0, .int .u8 0, .int .u8 0, .int .u8 0, .int .u8 0, .int .u8 0, .int .u8 0, .int .u8 0, .int .u8 0, .int .u8 0, .int .u8 0, .int .u8 0, .int .u8 0, .int .u8 0, .int .u8 0] 24)).setRow w1.heap.size (entA 1 5 5 zer16) = W := ⟨_, rfl⟩
      have HB := hide (blk_new10 w1 #[.int .i64 0, .int .i64 0, .int .i64 0, .int .u8 0, .int .u8 0, .int .u8 0, .int .u8 0, .int .u8 0, .int .u8 0, .int .u8 0, .int .u8 0, .int .u8 0, .int .u8 0, .int .u8 0, .int .u8 0, .int .u8 0, .int .u8 0, .int .u8 0, .int .u8 0] (entA 1 5 5 zer16) 24)
      have HK := hide (kp_new10 w1 (.cells #[.int .i64 0, .int .i64 0, .int .i64 0, .int .u8 0, .int .u8 0, .int .u8 0, .int .u8 0, .int .u8 0, .int .u8 0, .int .u8 0, .int .u8 0, .int .u8 0, .int .u8 0, .int .u8 0, .int .u8 0, .int .u8 0, .int .u8 0, .int .u8 0, .int .u8 0] 24) (entA 1 5 5 zer16))
      rw [hW] at HB HK
      replace HT := hide ((unhide HT).trans ((unhide HK).below.mono hsz))
      have HN := hide (World.alloc_heap_new w1 (.cells #[.int .i64 0, .int .i64 0, .int .i64 0, .int .u8 0, .int .u8 0, .int .u8 0, .int .u8 0, .int .u8 0, .int .u8 0, .int .u8 0, .int .u8 0, .int .u8 0, .int .u8 0, .int .u8 0, .int .u8 0, .int .u8 0, .int .u8 0, .int .u8 0, .int .u8 0] 24))
      obtain ⟨b, hb⟩ : ∃ b, w1.heap.size = b := ⟨_, rfl⟩
      rw [hb] at HB hsz
      have HW := hide hW
      have HBB := hide hb
      clear hW hb HK
      go_wp2_with (first | (refine wpList_store_row rfl 24 _ _ rfl w1.heap.size (entA 1 5 5 zer16) rfl rfl 24 #[.int .i64 0, .int .i64 0, .int .i64 0, .int .u8 0, .int .u8 0, .int .u8 0, .int .u8 0, .int .u8 0, .int .u8 0, .int .u8 0, .int .u8 0, .int .u8 0, .int .u8 0, .int .u8 0, .int .u8 0, .int .u8 0, .int .u8 0, .int .u8 0, .int .u8 0] (unhide HN) (by rw [sizeTE]; rfl) rfl (entA_one _ _ _ _) ?_; rw [unhide HW]))
      rw [unhide HBB]
      refine (within10_any c 8 _ (by omega) (by omega)).mono ?_
      rintro e w2 ⟨rfl, hw2⟩
      subst hw2
      rw [unhide HF]
      clear HW HBB HN hbt
      obtain ⟨w3, hw3⟩ : ∃ W, w2.setRow b (entA 2 5 5 zer16) = W := ⟨_, rfl⟩
      have HB3 : Hid (AtB w3 b (entA 2 5 5 zer16) 24) := ⟨by rw [← hw3]; exact setRow_heap _ _ _ _ _ _ (unhide HB).blk⟩
      replace HT : Hid (Below w.heap.size w w3) := by rw [← hw3]; exact below_setRow10 (unhide HT) hsz _
      have HW3 := hide hw3
      clear hw3
      obtain ⟨w4, hw4⟩ : ∃ W, w3.setCell ⟨b, 18, none⟩ (.int .u8 1) = W := ⟨_, rfl⟩
      have hcl : w3.cell? ⟨b, 18, none⟩ = some (.int .u8 0) := cell_blk (unhide HB3).blk rfl
      have hfr : w3.frozen? ⟨b, 18, none⟩ = false := free_blk (unhide HB3).blk
      have HB4 : Hid (AtB w4 b (entA 2 5 5 (last10 1)) 24) := ⟨by rw [← ent_last 2 5 5 1, ← hw4]; exact heap_setCell_same _ _ _ _ _ _ (unhide HB3).blk⟩
      replace HT : Hid (Below w.heap.size w w4) := by rw [← hw4]; exact (unhide HT).setCell (p := ⟨b, 18, none⟩) hsz _
      go_wp2_with (first | (refine wpList_store_row rfl 24 _ _ rfl b (entA 2 5 5 zer16) rfl rfl 24 (entA 1 5 5 zer16) (unhide HB).blk (by rw [sizeTE]; rfl) rfl (entA_one _ _ _ _) ?_; rw [unhide HW3]) | (refine wpList_load_want10 rfl 24 _ rfl b rfl 24 (entA 2 5 5 (last10 1)) _ _ (unhide HB4).blk Try.underlying24 rfl (by rw [sizeTE]; rfl) ?_))
      clear hcl hfr hw4
      have HB3 := HB4
      have HCK : Hid (chkE 2 5 5 (last10 1) = 1) := chkE_not (by unfold okE zer16 last10; decide)
      refine (echeck_any 2 5 5 (last10 1) rfl _).mono ?_
      rintro e w5 ⟨rfl, hk⟩
      rw [unhide HCK]
      replace HT := hide ((unhide HT).trans (hk.mono (unhide HT).size))
      have HB5 := hide ((unhide HB3).below hk)
      clear hk
      go_wp2_with (refine wpList_load_want10 rfl 24 _ rfl b rfl 24 (entA 2 5 5 (last10 1)) _ _ (unhide HB5).blk Try.underlying24 rfl (by rw [sizeTE]; rfl) ?_)
      refine (echeck_any 2 5 5 (last10 1) rfl _).mono ?_
      rintro e w6 ⟨rfl, hk⟩
      rw [unhide HCK]
      replace HT := hide ((unhide HT).trans (hk.mono (unhide HT).size))
      clear hk
      go_wp2
      go_ret
      exact ⟨rfl, unhide HT⟩
end Go.Proofs.Ytabfaehpopeckaa
