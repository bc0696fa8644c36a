/-
  geom.Check, Slots, Sectors, and ramekinref9's; the laws' own within and known.
-/
import Derived.Test.YtnhhemecfcljbaaK9b
namespace Go.Proofs.Ytnhhemecfcljbaa
open Go.RowKit Go.Shelf

theorem within9_any (a n : Int) (w : World) (hn : 0 < n) (hn2 : n < 100000) :
    Calls Try.prog 19 #[.int .i64 a, .int .i64 n] w fun e w' => e = .returned (.int .i64 (a % n)) ∧ w' = w := by
  obtain ⟨h1, h2, h3, h4⟩ := tmod_emod a n hn
  have H1 := hide h1
  have H2 := hide h2
  clear h1 h2
  go_enter Try.func19, Try.ntmps19
  go_wp2
  · have h5 : a.tmod n < 0 := by assumption
    go_ret
    exact ⟨by rw [← unhide H1 h5]; rfl, rfl⟩
  · have h5 : 0 ≤ a.tmod n := by assumption
    go_ret
    exact ⟨by rw [← unhide H2 h5]; rfl, rfl⟩

/-- What Check answers. -/
def chk9 (D B P : Int) : Int := if okG D B P then 0 else 1
theorem chk9_ok {D B P : Int} (h : okG D B P) : chk9 D B P = 0 := if_pos h
theorem chk9_not {D B P : Int} (h : ¬ okG D B P) : chk9 D B P = 1 := if_neg h

/-- A geometry in a cell. -/
theorem geo_new (w : World) (D B P : Int) : ∃ W, w.alloc (.cells #[.int .i64 D, .int .i64 B, .int .i64 P] 23) = W ∧ W.heap[w.heap.size]? = some (.cells #[.int .i64 D, .int .i64 B, .int .i64 P] 23 (0, 0)) ∧ (W.cell? ⟨w.heap.size, 0, none⟩ = some (.int .i64 D) ∧ W.cell? ⟨w.heap.size, 1, none⟩ = some (.int .i64 B) ∧ W.cell? ⟨w.heap.size, 2, none⟩ = some (.int .i64 P)) ∧ Below w.heap.size w W := by
  refine ⟨_, rfl, World.alloc_heap_new w _, ?_, (Below.refl _ _).alloc (Nat.le_refl _) _⟩
  have hn := World.alloc_heap_new w (.cells #[.int .i64 D, .int .i64 B, .int .i64 P] 23)
  exact ⟨cell_blk hn rfl, cell_blk hn rfl, cell_blk hn rfl⟩

set_option maxRecDepth 100000 in
set_option maxHeartbeats 8000000 in
theorem gcheck_any (D B P : Int) (w : World) : Calls Try.prog 13 #[.agg #[.int .i64 D, .int .i64 B, .int .i64 P]] w fun e w' => e = .returned (.int .i64 (chk9 D B P)) ∧ Below w.heap.size w w' := by
  obtain ⟨W, hW, hn, ⟨c0, c1, c2⟩, hb⟩ := geo_new w D B P
  have HB := hide hb
  clear hn hb
  rcases (show D < 6 ∨ (6 ≤ D ∧ D ≤ 8) ∨ 8 < D by omega) with d1 | ⟨d1, d2⟩ | d1 <;> rcases (show B < 8 ∨ (8 ≤ B ∧ B ≤ 12) ∨ 12 < B by omega) with b1 | ⟨b1, b2⟩ | b1 <;> rcases (show P < 4 ∨ (4 ≤ P ∧ P ≤ 8) ∨ 8 < P by omega) with p1 | ⟨p1, p2⟩ | p1
  case inr.inl.inr.inl.inr.inl =>
    rw [chk9_ok ⟨⟨d1, d2⟩, ⟨b1, b2⟩, p1, p2⟩]
    go_enter Try.func13, Try.ntmps13
    go_wp2_with fail
    go_ret
    exact ⟨rfl, unhide HB⟩
  all_goals
    rw [chk9_not (fun h => by unfold okG at h; omega)]
    go_enter Try.func13, Try.ntmps13
    go_wp2_with fail
    go_ret
    exact ⟨rfl, unhide HB⟩

set_option maxRecDepth 100000 in
set_option maxHeartbeats 4000000 in
theorem rcheck9_any (D B P : Int) (w : World) : Calls Try.prog 14 #[.agg #[.int .i64 D, .int .i64 B, .int .i64 P]] w fun e w' => e = .returned (.int .i64 (chk9 D B P)) ∧ Below w.heap.size w w' := by
  obtain ⟨W, hW, hn, ⟨c0, c1, c2⟩, hb⟩ := geo_new w D B P
  have HB := hide hb
  clear hn hb
  obtain ⟨z, hz⟩ : ∃ z, chk9 D B P = z := ⟨_, rfl⟩
  have HZ := hide hz
  rw [hz]
  clear hz
  by_cases hok : okG D B P
  · have HO := hide (decide_eq_true hok)
    have e := chk9_ok hok
    rw [unhide HZ] at e
    subst e
    clear hok
    go_enter Try.func14, Try.ntmps14
    go_wp2_with fail
    refine (check_any D B P _).mono ?_
    rintro e w2 ⟨rfl, hk⟩
    rw [unhide HO]
    have HK := hide ((unhide HB).trans (hk.mono (unhide HB).size))
    clear hk
    go_wp2_with fail
    go_ret
    exact ⟨rfl, unhide HK⟩
  · have HO := hide (decide_eq_false hok)
    have e := chk9_not hok
    rw [unhide HZ] at e
    subst e
    clear hok
    go_enter Try.func14, Try.ntmps14
    go_wp2_with fail
    refine (check_any D B P _).mono ?_
    rintro e w2 ⟨rfl, hk⟩
    rw [unhide HO]
    have HK := hide ((unhide HB).trans (hk.mono (unhide HB).size))
    clear hk
    go_wp2_with fail
    go_ret
    exact ⟨rfl, unhide HK⟩

/-- How many slots a row has. -/
def slo9 (D B P : Int) : Int := if okG D B P then D - 2 else 0

set_option maxRecDepth 100000 in
set_option maxHeartbeats 4000000 in
theorem gslots_any (D B P : Int) (w : World) : Calls Try.prog 15 #[.agg #[.int .i64 D, .int .i64 B, .int .i64 P]] w fun e w' => e = .returned (.int .i64 (slo9 D B P)) ∧ Below w.heap.size w w' := by
  obtain ⟨W, hW, hn, hc, hb⟩ := geo_new w D B P
  have HB := hide hb
  have HC := hide hc
  obtain ⟨c0, c1, c2⟩ := hc
  clear hn hb
  by_cases hok : okG D B P
  · have HO := hide (chk9_ok hok)
    have hd : IntKind.i64.wrap (D - 2) = D - 2 := IntWalk.i64_in _ ⟨by unfold okG at hok; omega, by unfold okG at hok; omega⟩
    rw [slo9, if_pos hok]
    clear hok
    go_enter Try.func15, Try.ntmps15
    go_wp2_with fail
    clear c0 c1 c2
    refine (gcheck_any D B P _).mono ?_
    rintro e w2 ⟨rfl, hk⟩
    rw [unhide HO]
    have hk2 := (unhide HB).trans (hk.mono (unhide HB).size)
    have c0 := (hk.cell (block_lt_of_cell (unhide HC).1)).trans (unhide HC).1
    have HK := hide hk2
    clear hk hk2
    go_wp2_with fail
    go_ret
    exact ⟨rfl, unhide HK⟩
  · have HO := hide (chk9_not hok)
    rw [slo9, if_neg hok]
    clear hok
    go_enter Try.func15, Try.ntmps15
    go_wp2_with fail
    clear c0 c1 c2
    refine (gcheck_any D B P _).mono ?_
    rintro e w2 ⟨rfl, hk⟩
    rw [unhide HO]
    have HK := hide ((unhide HB).trans (hk.mono (unhide HB).size))
    clear hk
    go_wp2_with fail
    go_ret
    exact ⟨rfl, unhide HK⟩

set_option maxRecDepth 100000 in
set_option maxHeartbeats 4000000 in
theorem rslots_any (D B P : Int) (w : World) : Calls Try.prog 16 #[.agg #[.int .i64 D, .int .i64 B, .int .i64 P]] w fun e w' => e = .returned (.int .i64 (slo9 D B P)) ∧ Below w.heap.size w w' := by
  obtain ⟨W, hW, hn, hc, hb⟩ := geo_new w D B P
  have HB := hide hb
  have HC := hide hc
  obtain ⟨c0, c1, c2⟩ := hc
  clear hn hb
  by_cases hok : okG D B P
  · have HO := hide (chk9_ok hok)
    have hd : IntKind.i64.wrap (D - 2) = D - 2 := IntWalk.i64_in _ ⟨by unfold okG at hok; omega, by unfold okG at hok; omega⟩
    rw [slo9, if_pos hok]
    clear hok
    go_enter Try.func16, Try.ntmps16
    go_wp2_with fail
    clear c0 c1 c2
    refine (rcheck9_any D B P _).mono ?_
    rintro e w2 ⟨rfl, hk⟩
    rw [unhide HO]
    have hk2 := (unhide HB).trans (hk.mono (unhide HB).size)
    have c0 := (hk.cell (block_lt_of_cell (unhide HC).1)).trans (unhide HC).1
    have HK := hide hk2
    clear hk hk2
    go_wp2_with fail
    go_ret
    exact ⟨rfl, unhide HK⟩
  · have HO := hide (chk9_not hok)
    rw [slo9, if_neg hok]
    clear hok
    go_enter Try.func16, Try.ntmps16
    go_wp2_with fail
    clear c0 c1 c2
    refine (rcheck9_any D B P _).mono ?_
    rintro e w2 ⟨rfl, hk⟩
    rw [unhide HO]
    have HK := hide ((unhide HB).trans (hk.mono (unhide HB).size))
    clear hk
    go_wp2_with fail
    go_ret
    exact ⟨rfl, unhide HK⟩

end Go.Proofs.Ytnhhemecfcljbaa
