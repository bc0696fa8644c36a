/-
  The laws' own Started, SameRow.
-/
import Derived.Test.YtjdikhelabibnabGreatR11q
namespace Go.Proofs.YtjdikhelabibnabGreat
open Go Go.RowKit Go.Shelf

theorem run_load_agg11 {o : Oper} {a : Act} {W : World} {ty : TypeId} {x : Operand} {ad : Addr} {cs : Array Value} (ho : o.op = .load ty x) (hx : a.eval x = .pointer (some ad)) (hl : (loadVar ty ad).run Tryz.prog W = .ok (.agg cs) W) : (execOp a.eval o).run Tryz.prog W = .ok (.value (.agg cs)) W := run_load_agg9 ho hx hl
/-- Rows are the same. -/
def sameRV (a b : RowV) : Prop := a.se = b.se ∧ a.at' = b.at' ∧ a.sl = b.sl
theorem ev_eq {a b : EV} : a = b ↔ (decide (a.k = b.k) && (decide (a.l = b.l) && (decide (a.s = b.s) && decide (a.d = b.d)))) = true := by
  obtain ⟨k, l, s, d⟩ := a
  obtain ⟨k', l', s', d'⟩ := b
  simp
end Go.Proofs.YtjdikhelabibnabGreat
