/-
  The contract of code.Byte.
-/
import Derived.Test.YtjdikhelabibnaaGreatRead
namespace Go.Proofs.YtjdikhelabibnaaGreat
open Go.RowKit

theorem byte_any (a : Option Addr) (g n c : Nat) (v : Int) (zs : List Int) (w : World) (hn : n ≤ 1000000) (hl : zs.length = n) (hr : Row w a g zs) :
    Calls Tryz.prog 119 #[.slice a n c, .int .i64 v] w fun e w' => ∃ q, e = .returned (.slice (some ⟨q, 0, none⟩) (n + 1) (n + 1)) ∧ w.heap.size ≤ q ∧
      w'.ownsRow w.heap.size 5 1 (.slice (some ⟨q, 0, none⟩) (n + 1) (n + 1)) (n + 1) ((zs ++ by8 1 (IntKind.u64.wrap v)).map (Value.int .u8)) ∧ Kp [] w w' := by
  go_enter Tryz.func119, Tryz.ntmps119
  go_wp2_with fail
  refine (written_any a g n c 1 v zs w (by omega) hn hl hr).mono ?_
  rintro e w1 ⟨q, rfl, hq, ho, hk⟩
  have HO := hide ho
  have HK := hide hk
  clear ho hk hr hl
  go_wp2
  go_ret
  exact ⟨q, rfl, hq, unhide HO, unhide HK⟩

end Go.Proofs.YtjdikhelabibnaaGreat
