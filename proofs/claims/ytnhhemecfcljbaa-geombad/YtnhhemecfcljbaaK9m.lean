/-
  What the laws of geom want of rows and places.
-/
import Derived.Test.YtnhhemecfcljbaaK9l
import Derived.Test.YtnhhemecfcljbaaK9j
import Derived.Test.YtnhhemecfcljbaaJSec
namespace Go.Proofs.Ytnhhemecfcljbaa
open Go.RowKit Go.Shelf

/-- A row, where the row of rows is known. -/
theorem OwnRI.row9 {base : Nat} {w : World} {G n c : Nat} {ls : List (List Nat)} (h : OwnRI base w (.slice (some ⟨G, 0, none⟩) n c) ls) {i : Nat} (hi : i < ls.length) : ∃ ua uc, w.cell? ⟨G, i, none⟩ = some (.slice ua (ls.getD i []).length uc) ∧ OwnI base w (.slice ua (ls.getD i []).length uc) (ls.getD i []) := by
  obtain ⟨G', c', u, h1, h2, h3⟩ := h.at hi
  cases h1
  obtain ⟨ua, uc, rfl⟩ := h3.sl
  exact ⟨ua, uc, h2, h3⟩
/-- An item, where its row is known. -/
theorem OwnI.item9 {base : Nat} {w : World} {ao : Option Addr} {n c : Nat} {l : List Nat} (h : OwnI base w (.slice ao n c) l) {d : Nat} (hd : d < l.length) : ∃ q, ao = some ⟨q, 0, none⟩ ∧ w.cell? ⟨q, d, none⟩ = some (.int .i64 ((cf l d : Nat) : Int)) := by
  obtain ⟨q, c', h1, h2⟩ := h.at9 hd
  cases h1
  exact ⟨q, rfl, h2⟩
theorem OwnRI.top9 {base : Nat} {w : World} {ao : Option Addr} {n c : Nat} {ls : List (List Nat)} (h : OwnRI base w (.slice ao n c) ls) (hn : 0 < ls.length) : ∃ G, ao = some ⟨G, 0, none⟩ := by
  obtain ⟨G', c', u, h1, h2, h3⟩ := h.at hn
  cases h1
  exact ⟨G', rfl⟩
theorem supG_ok {D B : Nat} {P : Int} {bad : List (Int × Int)} (h : okG (D : Int) (B : Int) P) : supG D B P bad = sup9 D B bad := by
  rw [supG, if_pos h, Int.toNat_natCast, Int.toNat_natCast]
theorem sup9_row_len {D B : Nat} {bad : List (Int × Int)} {i : Nat} (h : i < sn9 D B bad) : ((sup9 D B bad).getD i []).length = D := by rw [sup9_row h, rk9_len, dieL_len]
/-- What the document says of a block of a superblock. -/
theorem sup9_item {D B : Nat} {bad : List (Int × Int)} {i d : Nat} (h : i < sn9 D B bad) (hd : d < D) : ∃ x : Nat, cf ((sup9 D B bad).getD i []) d = x ∧ x < B ∧ ((d : Int), (x : Int)) ∉ bad := by
  rw [sup9_row h, rk9_cf hd]
  have hl := sn9_le_die (D := D) (B := B) (bad := bad) hd
  exact ⟨_, rfl, gd_at (by omega)⟩
theorem sup9_rise {D B : Nat} {bad : List (Int × Int)} {i d : Nat} (h : i + 1 < sn9 D B bad) (hd : d < D) : cf ((sup9 D B bad).getD i []) d < cf ((sup9 D B bad).getD (i + 1) []) d := by
  rw [sup9_row h, sup9_row (show i < sn9 D B bad by omega), rk9_cf hd, rk9_cf hd]
  have hl := sn9_le_die (D := D) (B := B) (bad := bad) hd
  exact gd_rise (by omega)
/-- Of what Spoil makes each die has one bad block at most. -/
theorem spo_once {B : Nat} {zs : List Int} {k : Nat} {d : Int} {b b' : Nat} (h : (d, (b : Int)) ∈ spo B zs k) (h' : (d, (b' : Int)) ∈ spo B zs k) : b = b' := by
  have key : ∀ {x : Nat}, (d, (x : Int)) ∈ spo B zs k → ∃ j : Nat, (j : Int) = d ∧ (x : Int) = zs.getD j 0 % (2 * (B : Int)) := by
    intro x hx
    obtain ⟨j, hj, hp⟩ := List.mem_flatMap.1 hx
    split at hp
    · simp only [List.mem_singleton, Prod.mk.injEq] at hp
      exact ⟨j, hp.1.symm, hp.2⟩
    · cases hp
  obtain ⟨j, h1, h2⟩ := key h
  obtain ⟨j', h3, h4⟩ := key h'
  have : j = j' := by omega
  subst this
  omega
theorem spo_sn {D B : Nat} {zs : List Int} {k : Nat} : B - 1 ≤ sn9 D B (spo B zs k) ∧ sn9 D B (spo B zs k) ≤ B := by
  refine ⟨?_, sn9_le _ _ _⟩
  rcases sn9_ex D B (spo B zs k) with h | ⟨d, hd, h⟩
  · omega
  · have := (gd_least (d := (d : Int)) (bad := spo B zs k) (fun b b' h1 h2 => spo_once h1 h2) B).1
    omega

end Go.Proofs.Ytnhhemecfcljbaa
