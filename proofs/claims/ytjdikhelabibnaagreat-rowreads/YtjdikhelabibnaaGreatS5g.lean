/-
  slices.DeleteFunc of up to two numbers, by fill's own function.
-/
import Derived.Test.YtjdikhelabibnaaGreatS5f
namespace Go.Proofs.YtjdikhelabibnaaGreat
open Go.RowKit

theorem IBlk.row {w : World} {g : Nat} {zs ys : List Int} (h : IBlk w g zs) (hl : ys.length ≤ zs.length) (he : ∀ j, j < ys.length → ys.getD j 0 = zs.getD j 0) : IRow w (some ⟨g, 0, none⟩) g ys :=
  .inr ⟨0, rfl, fun j hj => by rw [Nat.zero_add, he j hj]; exact h.cell (by omega)⟩
theorem ZFr.arg {n : Nat} {w : World} {v : Value} {zs : List Int} (h : ZFr n w v zs) (hb : ∀ z ∈ zs, -9223372036854775808 ≤ z ∧ z ≤ 9223372036854775807) : ∃ g, ZArg w v g zs := by
  rcases h with ⟨rfl, ao, c, rfl, h1, h2⟩ | ⟨g, c, rfl, h1, h2, h3, _⟩
  · exact ⟨0, ⟨⟨ao, c, rfl, by simp, h1, h2, .inl rfl⟩, hb⟩⟩
  · exact ⟨g, ⟨⟨_, c, rfl, h1, h2, (fun h => by cases h), h3.row (Nat.le_refl _) (fun _ _ => rfl)⟩, hb⟩⟩
theorem IBlk.set {w : World} {g : Nat} {zs : List Int} (h : IBlk w g zs) (j : Nat) (v : Int) (hj : j < zs.length) : IBlk (w.setCell ⟨g, j, none⟩ (.int .i64 v)) g (zs.set j v) := by
  obtain ⟨cur, h, hc⟩ := h
  refine ⟨cur.setIfInBounds j (.int .i64 v), heap_setCell_same w g j _ _ _ h, fun i hi => ?_⟩
  rw [List.length_set] at hi
  have hj2 : j < cur.size := (Array.getElem?_eq_some_iff.1 (hc j hj)).1
  rw [Array.getElem?_setIfInBounds, List.getD_eq_getElem?_getD, List.getElem?_set]
  by_cases e : j = i
  · subst e; simp [hj2, hj]
  · rw [if_neg e, if_neg e, hc i hi, List.getD_eq_getElem?_getD]

theorem run_clear_one (w : World) (g j c : Nat) (x : Value) (hc : w.cell? ⟨g, j, none⟩ = some x) (hf : w.frozen? ⟨g, j, none⟩ = false) :
    (Builtin.clear_ #[34] 0 #[.slice (some ⟨g, j, none⟩) 1 c]).run Tryz.prog w = .ok (.tuple #[]) (w.setCell ⟨g, j, none⟩ (.int .i64 0)) := by
  have hz : (zeroValue 3).run Tryz.prog w = .ok (.int .i64 0) w := by kernel_rfl
  have hzc : (Builtin.zeroCells #[Value.int .i64 0] 1).toList = [.int .i64 0] := by kernel_rfl
  simp [Builtin.clear_, run_underlying Tryz.underlying34, hz, go_sem, hzc, hc, hf]
theorem irow_one {w : World} {g : Nat} {y : Int} (h : w.cell? ⟨g, 0, none⟩ = some (.int .i64 y)) : IRow w (some ⟨g, 0, none⟩) g [y] :=
  .inr ⟨0, rfl, fun j hj => by
    have : j = 0 := by simpa using hj
    subst this
    exact h⟩

/-- What is not the second parity's. -/
def inP (d : Nat) (zs : List Int) : List Int := zs.filter (fun z => decide (z ≠ ((d + 1 : Nat) : Int)))

set_option maxRecDepth 100000 in
set_option maxHeartbeats 4000000 in
theorem del_any (v : Value) (zs : List Int) (b d lo : Nat) (hd : d ≤ 14) (po qo : Option Addr) (np cp nq cq : Nat) (w : World) (hlo : lo ≤ w.heap.size) (hA : ZFr lo w v zs) (hbd : ∀ z ∈ zs, -9223372036854775808 ≤ z ∧ z ≤ 9223372036854775807) (h2 : zs.length ≤ 2) (hnd : zs.Nodup) (hB : SBox w b d (.slice po np cp) (.slice qo nq cq)) (hb : b < lo) :
    Calls Tryz.prog 134 #[v, .func (.func 136) #[] #[.pointer (some ⟨b, 0, none⟩)]] w fun e w' => Below lo w w' ∧ ∃ ao c g, e = .returned (.slice ao (inP d zs).length c) ∧ IRow w' ao g (inP d zs) ∧ (inP d zs ≠ [] → lo ≤ g) := by
  obtain ⟨ga, hZ⟩ := hA.arg hbd
  have hvs : ∃ ao n c, v = .slice ao n c := by
    obtain ⟨ao, c, h1, _⟩ := hZ.ex
    exact ⟨ao, _, c, h1⟩
  have HIF := hide (ifi_any v ga zs b d hd po qo np cp nq cq w hZ hB)
  have HA := hide hA
  have HB := hide hB
  clear hA hZ hB hbd
  obtain ⟨D, hD⟩ : ∃ D : Int, ((d + 1 : Nat) : Int) = D := ⟨_, rfl⟩
  rw [hD] at HIF
  have HP : Hid (inP d zs = zs.filter (fun z => decide (z ≠ D))) := by show _ = _; unfold inP; rw [hD]
  have HDD := hide hD
  clear hD
  obtain ⟨ao, n, c, rfl⟩ := hvs
  go_enter Tryz.func134, Tryz.ntmps134
  go_wp2_with fail
  refine (unhide HIF).mono ?_
  rintro e w2 ⟨hk, h⟩
  have HK := hide hk
  have hzk := hk.size
  clear hk HIF
  rcases h with ⟨rfl, hno⟩ | ⟨i, rfl, hi, hat, hbe⟩
  · have hE : inP d zs = zs := by rw [unhide HP, List.filter_eq_self]; intro z hz; simp; intro e; rw [e] at hz; exact hno hz
    have HR : Hid (∃ g, IRow w2 ao g zs ∧ zs.length = n ∧ (zs ≠ [] → lo ≤ g)) := by
      rcases unhide HA with ⟨rfl, ao', c', h1, h2, h3⟩ | ⟨g, c', h1, h2, h3, h4, h5⟩
      · cases h1; exact ⟨0, .inl rfl, rfl, fun h => absurd rfl h⟩
      · cases h1; exact ⟨g, (h4.of ((unhide HK).block g h4.lt)).row (Nat.le_refl _) (fun _ _ => rfl), rfl, fun _ => h5⟩
    have HE := hide hE
    clear hno hE
    go_wp2_with fail
    go_ret
    obtain ⟨g, h1, h2, h3⟩ := unhide HR
    rw [unhide HE, h2]
    exact ⟨(unhide HK).mono hlo, ao, c, g, rfl, h1, h3⟩
  · obtain ⟨g, hao, hnl, hnc, hcm, hIB, hgl⟩ : ∃ g, ao = some ⟨g, 0, none⟩ ∧ n = zs.length ∧ n ≤ c ∧ c ≤ maxLen ∧ IBlk w g zs ∧ lo ≤ g := by
      rcases unhide HA with ⟨rfl, _⟩ | ⟨g, c', h1, h2, h3, h4, h5⟩
      · simp at hi
      · cases h1; exact ⟨g, rfl, rfl, h2, h3, h4, h5⟩
    subst hao
    have hIB2 := hIB.of ((unhide HK).block g hIB.lt)
    have hgb : b ≠ g := by omega
    have HB2 := hide ((unhide HB).below (unhide HK) (unhide HB).lt)
    have HKl := hide ((unhide HK).mono hlo)
    unfold maxLen at hcm
    match hzs : zs, h2, hnd with
    | [z], _, _ =>
      have hi0 : i = 0 := by simp at hi; omega
      subst hi0
      have hn1 : n = 1 := by simpa using hnl
      subst hn1
      have hz : z = D := hat
      have HE : Hid (inP d zs = []) := by show _ = _; rw [hzs, unhide HP, hz]; simp
      have hcr := run_clear_one w2 g 0 c _ (hIB2.cell (j := 0) (by simp)) hIB2.free
      have HBF := hide ((unhide HKl).setCell (p := ⟨g, 0, none⟩) hgl (.int .i64 0))
      have hc1 : (1 : Int) ≤ (c : Int) := by omega
      have hc2 : ¬ c = 0 := by omega
      clear hat hbe hnl hi HA hzs
      go_wp2_with fail
      go_loopw [5, 6] (fun p q wr => p = .int .i64 0 ∧ q = .int .i64 1 ∧ wr = w2) (fun _ _ _ => 0)
      case atStart => exact ⟨rfl, rfl, rfl⟩
      case round =>
        obtain ⟨rfl, rfl, rfl⟩ := hrel
        go_wp2_with fail
        go_ret
        rw [unhide HE]
        exact ⟨unhide HBF, some ⟨g, 0, none⟩, c, g, rfl, .inl rfl, fun _ => hgl⟩
    | [z0, z1], _, hnd =>
      have hn2 : n = 2 := by simpa using hnl
      subst hn2
      have hne : z0 ≠ z1 := by
        have := hnd
        simp at this
        exact this
      have hc1 : (2 : Int) ≤ (c : Int) := by omega
      have hc1' : (1 : Int) ≤ (c : Int) := by omega
      have hc2 : ¬ c = 1 := by omega
      have hc3 : ¬ c = 0 := by omega
      have hcc0 : w2.cell? ⟨g, 0, none⟩ = some (.int .i64 z0) := hIB2.cell (j := 0) (by simp)
      have hcc1 : w2.cell? ⟨g, 1, none⟩ = some (.int .i64 z1) := hIB2.cell (j := 1) (by simp)
      have hff0 : w2.frozen? ⟨g, 0, none⟩ = false := hIB2.free
      have hff1 : w2.frozen? ⟨g, 1, none⟩ = false := hIB2.free
      have hi2 : i = 0 ∨ i = 1 := by simp at hi; omega
      rcases hi2 with hi2 | hi2
      · subst hi2
        have hz : z0 = D := hat
        have hz1 : z1 ≠ D := fun e => hne (hz.trans e.symm)
        have HE : Hid (inP d zs = [z1]) := by show _ = _; rw [hzs, unhide HP, hz]; simp [hz1]
        have HCC1 := hide hcc1
        have HCC0 := hide hcc0
        have HFF0 := hide hff0
        have HIB2 := hide hIB2
        have HNZ := hide hz1
        clear hat hbe hnl hi HA hne hz hz1 hcc1 hcc0 hff0 hff1 hIB hIB2 hnd hzs
        go_wp2_with fail
        go_loopw [5, 6] (fun p q wr => (p = .int .i64 0 ∧ q = .int .i64 1 ∧ wr = w2) ∨ (p = .int .i64 1 ∧ q = .int .i64 2 ∧ IBlk wr g [z1, z1] ∧ Below lo w wr)) (fun _ q _ => 2 - (intOf q).toNat)
        case atStart => exact .inl ⟨rfl, rfl, rfl⟩
        case round =>
          rcases hrel with ⟨rfl, rfl, rfl⟩ | ⟨rfl, rfl, hI3, hB3⟩
          · have hcc1 := unhide HCC1
            go_wp2_with fail
            refine (fill1_any z1 b d hd po qo np cp nq cq wr (unhide HB2)).mono ?_
            rintro e w3 ⟨rfl, hk3⟩
            have he1 : (z1 == ((d + 1 : Nat) : Int)) = false := by rw [beq_eq_false_iff_ne, unhide HDD]; exact unhide HNZ
            rw [he1]
            clear he1
            have hI3 := (unhide HIB2).of (hk3.block g (unhide HIB2).lt)
            have c0 : w3.cell? ⟨g, 0, none⟩ = some (.int .i64 z0) := hI3.cell (j := 0) (by simp)
            have f0 : w3.frozen? ⟨g, 0, none⟩ = false := hI3.free
            have HI4 := hide (hI3.set 0 z1 (by simp))
            have HB4 := hide (((unhide HKl).trans (hk3.mono (by omega))).setCell (p := ⟨g, 0, none⟩) hgl (.int .i64 z1))
            clear hk3 hI3
            go_wp2_with fail
            go_roundw
            case rel => exact .inr ⟨rfl, rfl, unhide HI4, unhide HB4⟩
            case measure => simp [intOf]
          · have hcr := run_clear_one wr g 1 (c - 1) _ (hI3.cell (j := 1) (by simp)) hI3.free
            have HBF := hide (hB3.setCell (p := ⟨g, 1, none⟩) hgl (.int .i64 0))
            have HC := hide ((hI3.set 1 0 (by simp)).cell (j := 0) (by simp))
            clear hI3 hB3
            go_wp2_with fail
            go_ret
            rw [unhide HE]
            exact ⟨unhide HBF, some ⟨g, 0, none⟩, c, g, rfl, irow_one (unhide HC), fun _ => hgl⟩
      · subst hi2
        have hz : z1 = D := hat
        have hz1 : z0 ≠ D := fun e => hne (e.trans hz.symm)
        have HE : Hid (inP d zs = [z0]) := by show _ = _; rw [hzs, unhide HP, hz]; simp [hz1]
        have hcr := run_clear_one w2 g 1 (c - 1) _ hcc1 hff1
        have HBF := hide ((unhide HKl).setCell (p := ⟨g, 1, none⟩) hgl (.int .i64 0))
        have HC := hide ((hIB2.set 1 0 (by simp)).cell (j := 0) (by simp))
        clear hat hbe hnl hi HA hne hz hz1 hcc1 hcc0 hff0 hff1 hIB hIB2 hnd hzs
        go_wp2_with fail
        go_loopw [5, 6] (fun p q wr => p = .int .i64 1 ∧ q = .int .i64 2 ∧ wr = w2) (fun _ _ _ => 0)
        case atStart => exact ⟨rfl, rfl, rfl⟩
        case round =>
          obtain ⟨rfl, rfl, rfl⟩ := hrel
          go_wp2_with fail
          go_ret
          rw [unhide HE]
          exact ⟨unhide HBF, some ⟨g, 0, none⟩, c, g, rfl, irow_one (unhide HC), fun _ => hgl⟩

end Go.Proofs.YtjdikhelabibnaaGreat
