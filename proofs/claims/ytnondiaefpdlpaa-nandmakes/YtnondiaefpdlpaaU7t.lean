/-
  The second telling of nand: there.
-/
import Derived.Test.YtnondiaefpdlpaaU7r
namespace Go.Proofs.Ytnondiaefpdlpaa
open Go.RowKit Go.Shelf

set_option maxRecDepth 100000 in
set_option maxHeartbeats 4000000 in
theorem there_any {m : Nat} {w : World} {L : Lr} {s : Nd} (h : RA m w L s) (d b : Int) :
    Calls Try.prog 37 #[.pointer (some ⟨L.n, 0, none⟩), .int .i64 d, .int .i64 b] w fun e w' => e = .returned (.bool (decide (s.There d b))) ∧ w' = w := by
  have c0 : w.cell? ⟨L.n, 0, none⟩ = some (.int .i64 (s.D : Int)) := h.tc 0 rfl
  have c1 : w.cell? ⟨L.n, 1, none⟩ = some (.int .i64 (s.B : Int)) := h.tc 1 rfl
  clear h
  by_cases h1 : 0 ≤ d
  · by_cases h2 : d < (s.D : Int)
    · by_cases h3 : 0 ≤ b
      · by_cases h4 : b < (s.B : Int)
        · have HE := hide (decide_eq_true (show s.There d b from ⟨⟨h1, h2⟩, h3, h4⟩))
          go_enter Try.func37, Try.ntmps37
          go_wp2_with fail
          go_returns
          exact ⟨by rw [unhide HE]; rfl, rfl⟩
        · have HE := hide (decide_eq_false (show ¬ s.There d b from fun h => h4 h.2.2))
          go_enter Try.func37, Try.ntmps37
          go_wp2_with fail
          go_returns
          exact ⟨by rw [unhide HE]; rfl, rfl⟩
      · have HE := hide (decide_eq_false (show ¬ s.There d b from fun h => h3 h.2.1))
        go_enter Try.func37, Try.ntmps37
        go_wp2_with fail
        go_returns
        exact ⟨by rw [unhide HE]; rfl, rfl⟩
    · have HE := hide (decide_eq_false (show ¬ s.There d b from fun h => h2 h.1.2))
      go_enter Try.func37, Try.ntmps37
      go_wp2_with fail
      go_returns
      exact ⟨by rw [unhide HE]; rfl, rfl⟩
  · have HE := hide (decide_eq_false (show ¬ s.There d b from fun h => h1 h.1.1))
    go_enter Try.func37, Try.ntmps37
    go_wp2_with fail
    go_returns
    exact ⟨by rw [unhide HE]; rfl, rfl⟩

end Go.Proofs.Ytnondiaefpdlpaa
