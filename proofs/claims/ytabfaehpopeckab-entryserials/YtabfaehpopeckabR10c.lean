/-
  ramekinref10.Check.
-/
import Derived.Test.YtabfaehpopeckabE10a
namespace Go.Proofs.Ytabfaehpopeckab
open Go.RowKit Go.Shelf

/-- Sixteen noughts. -/
def zer16 : List Nat := List.replicate 16 0
theorem zer16_len : zer16.length = 16 := rfl
theorem build_TD (w : World) : (Instr.build 22 #[]).run Try.prog w = .ok (.agg #[.int .u8 0, .int .u8 0, .int .u8 0, .int .u8 0, .int .u8 0, .int .u8 0, .int .u8 0, .int .u8 0, .int .u8 0, .int .u8 0, .int .u8 0, .int .u8 0, .int .u8 0, .int .u8 0, .int .u8 0, .int .u8 0]) w := run_build w 22 _ _ (by kernel_rfl)
theorem datA16 {d : List Nat} (h : d.length = 16) : (datL d).toArray = #[.int .u8 ((cf d 0 : Nat) : Int), .int .u8 ((cf d 1 : Nat) : Int), .int .u8 ((cf d 2 : Nat) : Int), .int .u8 ((cf d 3 : Nat) : Int), .int .u8 ((cf d 4 : Nat) : Int), .int .u8 ((cf d 5 : Nat) : Int), .int .u8 ((cf d 6 : Nat) : Int), .int .u8 ((cf d 7 : Nat) : Int), .int .u8 ((cf d 8 : Nat) : Int), .int .u8 ((cf d 9 : Nat) : Int), .int .u8 ((cf d 10 : Nat) : Int), .int .u8 ((cf d 11 : Nat) : Int), .int .u8 ((cf d 12 : Nat) : Int), .int .u8 ((cf d 13 : Nat) : Int), .int .u8 ((cf d 14 : Nat) : Int), .int .u8 ((cf d 15 : Nat) : Int)] := by
  obtain ⟨a0, a1, a2, a3, a4, a5, a6, a7, a8, a9, a10, a11, a12, a13, a14, a15, rfl⟩ := len16 h
  rfl
theorem datZ16 : (datL zer16).toArray = #[.int .u8 0, .int .u8 0, .int .u8 0, .int .u8 0, .int .u8 0, .int .u8 0, .int .u8 0, .int .u8 0, .int .u8 0, .int .u8 0, .int .u8 0, .int .u8 0, .int .u8 0, .int .u8 0, .int .u8 0, .int .u8 0] := rfl
/-- A slot that may be. -/
def okE (k l s : Int) (d : List Nat) : Prop := (0 ≤ k ∧ k ≤ 3) ∧ ((k = 1 ∨ k = 2) → (0 ≤ l ∧ l ≤ 65536) ∧ 1 ≤ s ∧ s ≤ 1099511627776) ∧ (¬ (k = 1 ∨ k = 2) → l = 0 ∧ s = 0) ∧ (k ≠ 1 → d = zer16)
instance (k l s : Int) (d : List Nat) : Decidable (okE k l s d) := by unfold okE; infer_instance
def chkE (k l s : Int) (d : List Nat) : Int := if okE k l s d then 0 else 1
theorem chkE_ok {k l s : Int} {d : List Nat} (h : okE k l s d) : chkE k l s d = 0 := if_pos h
theorem chkE_not {k l s : Int} {d : List Nat} (h : ¬ okE k l s d) : chkE k l s d = 1 := if_neg h

end Go.Proofs.Ytabfaehpopeckab
