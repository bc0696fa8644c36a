/-
  The laws' own within.
-/
import Derived.Test.YtoljplfijopcmaaBa
namespace Go.Proofs.Ytoljplfijopcmaa
open Go.RowKit Go.Shelf

theorem within6_any (a n : Int) (w : World) (hn : 0 < n) (hn2 : n < 100000) :
    Calls Try.prog 19 #[.int .i64 a, .int .i64 n] w fun e w' => e = .returned (.int .i64 (a % n)) ∧ w' = w := by
  obtain ⟨h1, h2, h3, h4⟩ := tmod_emod a n hn
  have H1 := hide h1
  have H2 := hide h2
  clear h1 h2
  go_enter Try.func19, Try.ntmps19
  go_wp2
  · have h5 : a.tmod n < 0 := by assumption
    go_ret
    exact ⟨by rw [← unhide H1 h5]; rfl, rfl⟩
  · have h5 : 0 ≤ a.tmod n := by assumption
    go_ret
    exact ⟨by rw [← unhide H2 h5]; rfl, rfl⟩

end Go.Proofs.Ytoljplfijopcmaa
