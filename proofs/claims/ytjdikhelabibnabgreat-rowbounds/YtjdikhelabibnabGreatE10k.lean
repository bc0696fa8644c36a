/-
  The laws' own known (ramekinlaw10); whatever many bytes; two blocks that are stored at once; answers in parts.
-/
import Derived.Test.YtjdikhelabibnabGreatE10p
namespace Go.Proofs.YtjdikhelabibnabGreat
open Go.RowKit Go.Shelf

theorem st3_all (zs : List Int) : st3 zs = rdS (szH ++ (szE ++ szT)) (zs, 0) := by
  unfold st3 st2 st1
  rw [rdS_app, rdS_app]
theorem szAll : (szH ++ (szE ++ szT)).sum = 48 := by decide
theorem cod_cut {zs : List Int} (h : zs.length < 48) : cod zs = 3 := by
  unfold cod
  rw [st3_all, rdS_cut _ _ (by rw [szAll]; exact h)]
  rfl
theorem cod_more {zs : List Int} (h : 48 < zs.length) : cod zs = 4 := by
  unfold cod
  rw [st3_all, rdS_ok _ _ (by rw [szAll]; omega), szAll]
  rw [if_pos ⟨rfl, fun e => by have := congrArg List.length e; simp at this; omega⟩]
theorem cod_fit {zs : List Int} (h : zs.length = 48) : cod zs = 0 := by
  unfold cod
  rw [st3_all, rdS_ok _ _ (by rw [szAll]; omega), szAll]
  rw [if_neg (fun e => e.2 (by apply List.eq_nil_of_length_eq_zero; simp; omega))]
theorem parR_err {zs : List Int} {e : Ending} {x : Int} (h : ParR e zs) (hx : parE zs = x) (h0 : x ≠ 0) : e = .returned (.tuple #[.agg (headA 0 0 0 0), .agg (entA 0 0 0 zer16), .int .i64 x]) := by
  subst hx
  unfold ParR parH parN parD at h
  simp only [if_neg h0] at h
  exact h
theorem parR_fine {zs : List Int} {e : Ending} (h : ParR e zs) (h0 : parE zs = 0) : e = .returned (.tuple #[.agg (headA ((pH zs).getD 0 0) ((pH zs).getD 1 0) ((pH zs).getD 2 0) ((pH zs).getD 3 0)), .agg (entA ((pE zs).getD 0 0) ((pE zs).getD 1 0) ((pE zs).getD 2 0) (pD zs)), .int .i64 0]) := by
  unfold ParR parH parN parD at h
  simp only [if_pos h0] at h
  rw [h, h0]
/-- A slot's bytes are read as they were written. -/
theorem parse_back {a b c e k l s : Int} {d : List Nat} (hd : d.length = 16) (hdb : ∀ x ∈ d, x < 256) (ha : 1 ≤ a ∧ a ≤ 1099511627776) (hb : 0 ≤ b ∧ b ≤ 255) (hc : 0 ≤ c ∧ c ≤ 255) (he : 0 ≤ e ∧ e ≤ 255) (hok : okE k l s d) {x : Ending} (h : ParR x (byT a b c e k l s d)) :
    x = .returned (.tuple #[.agg (headA a b c e), .agg (entA k l s d), .int .i64 0]) := by
  obtain ⟨r1, r2, r3, r4⟩ := read_byW a b c e k l s d [0, 0, 0, 0] hd rfl hdb (by simp)
  have wa : wrap64 a = a := wrap64_in10 ⟨by omega, by omega⟩
  have hk := hok.1
  have ek : k % 256 = k := by omega
  have hl : -9223372036854775808 ≤ l ∧ l ≤ 9223372036854775807 := by
    by_cases hq : k = 1 ∨ k = 2
    · have := (hok.2.1 hq).1; omega
    · have := (hok.2.2.1 hq).1; omega
  have hs : -9223372036854775808 ≤ s ∧ s ≤ 9223372036854775807 := by
    by_cases hq : k = 1 ∨ k = 2
    · have := (hok.2.1 hq).2; omega
    · have := (hok.2.2.1 hq).2; omega
  rw [wrap64_in10 hl, wrap64_in10 hs, ek] at r2
  rw [wa, show b % 256 = b by omega, show c % 256 = c by omega, show e % 256 = e by omega] at r1
  have hD : pD (byT a b c e k l s d) = d := by
    unfold pD byT
    rw [r2]
    exact nat10_ints d
  have hE : parE (byT a b c e k l s d) = 0 := by
    refine parE_ok r4 ?_
    unfold badP
    rw [hD]
    unfold byT
    rw [r1, r2, r3]
    rintro (h | h | h)
    · exact h rfl
    · exact h ha
    · exact h hok
  have := parR_fine h hE
  rw [hD] at this
  unfold byT at this
  rw [r1, r2] at this
  exact this
/-- Two blocks that are laid and stored whole. -/
theorem two_new10 (w : World) (LH LE CH CE : Array Value) (t0 t1 : TypeId) : ∀ W, ((((w.alloc (.cells LH t0)).alloc (.cells LE t1)).setRow w.heap.size CH).setRow (w.heap.size + 1) CE) = W →
    AtB ((w.alloc (.cells LH t0)).alloc (.cells LE t1)) w.heap.size LH t0 ∧ AtB (((w.alloc (.cells LH t0)).alloc (.cells LE t1)).setRow w.heap.size CH) (w.heap.size + 1) LE t1 ∧ AtB W w.heap.size CH t0 ∧ AtB W (w.heap.size + 1) CE t1 ∧ Below w.heap.size w W := by
  rintro W rfl
  have h0 : AtB ((w.alloc (.cells LH t0)).alloc (.cells LE t1)) w.heap.size LH t0 := ⟨(Below.heap_alloc _ _ _ (by simp)).trans (World.alloc_heap_new w _)⟩
  have h1 : AtB ((w.alloc (.cells LH t0)).alloc (.cells LE t1)) (w.heap.size + 1) LE t1 := ⟨by
    have := World.alloc_heap_new (w.alloc (.cells LH t0)) (.cells LE t1)
    rwa [World.size_alloc] at this⟩
  obtain ⟨t1, t2, t3, t4, -, -⟩ := two_rows (((Kp.refl [] w).alloc _).alloc _) h0 h1 (Nat.le_refl _) (by omega) (by omega) CH CE
  exact ⟨h0, t1, t2, t3, t4.below⟩

end Go.Proofs.YtjdikhelabibnabGreat
