/-
  row.statesMayBe.
-/
import Derived.Test.YtjdikhelabibnabGreatR11p
namespace Go.Proofs.YtjdikhelabibnabGreat
open Go Go.RowKit Go.Shelf
attribute [local go_sem] Oper.semAt_some

theorem atL_all {α : Type} {l : List α} {z : α} {p : α → Bool} : (atL (fun i => p (l.getD i z)) l.length).length = l.length ↔ l.all p = true := by
  have key : ((List.range l.length).filter (fun i => p (l.getD i z))).length = (List.range l.length).length ↔ ∀ i ∈ List.range l.length, p (l.getD i z) = true := List.length_filter_eq_length_iff
  rw [List.length_range] at key
  rw [atL, key, List.all_eq_true]
  constructor
  · intro h x hx
    obtain ⟨i, hi, he⟩ := mem_getD11 (z := z) hx
    rw [← he]
    exact h i (List.mem_range.2 hi)
  · intro h i hi
    exact h _ (getD_mem11 (List.mem_range.1 hi))
theorem atL_any {α : Type} {l : List α} {z : α} {p : α → Bool} : 0 < (atL (fun i => p (l.getD i z)) l.length).length ↔ l.any p = true := by
  rw [← any_range11 l z, List.length_pos_iff, ne_eq, atL, List.filter_eq_nil_iff, List.any_eq_true]
  constructor
  · intro h
    refine Classical.byContradiction (fun hn => h (fun i hi hp => hn ⟨i, hi, hp⟩))
  · rintro ⟨i, hi, hp⟩ h
    exact h i hi hp
theorem atL_le (K : Nat → Bool) (N : Nat) : (atL K N).length ≤ N := by
  have := List.length_filter_le K (List.range N)
  rw [List.length_range] at this
  exact this
/-- What the states alone say. -/
def staF (l : List PV) (most : Int) : Int := if l.all (fun p => p.st == 0) then 2 else if l.any (fun p => p.st == 0) then 5 else if most < ((lostG l).length : Int) then 11 else 0
set_option maxRecDepth 100000 in
set_option maxHeartbeats 4000000 in
theorem stM_any (ao : Option Addr) (n c g : Nat) (l : List PV) (hn : n ≤ 8) (most : Int) (w : World) (hL : PgArg w (.slice ao n c) g l) :
    Calls Tryz.prog 20 #[.slice ao n c, .int .i64 most] w fun e w' => e = .returned (.int .i64 (staF l most)) ∧ Below w.heap.size w w' := by
  obtain ⟨h1, h2, h3, hrow⟩ := hL.mrow
  have HR := hide hrow
  have HPG := hide hL
  have hb1 : ∀ i, i < n → ∀ W, Calls Tryz.prog 37 #[.agg ((l.getD i zPV).cs).toArray] W fun e W' => e = .returned (.bool ((fun i => (l.getD i zPV).st == 0) i)) ∧ Below W.heap.size W W' := fun i _ W => blank_any _ _ W
  have hb2 : ∀ i, i < n → ∀ W, Calls Tryz.prog 38 #[.agg ((l.getD i zPV).cs).toArray] W fun e W' => e = .returned (.bool ((fun i => !((l.getD i zPV).st == 0) && !((l.getD i zPV).st == 2)) i)) ∧ Below W.heap.size W W' := fun i _ W => badp_any _ _ W
  have HB1 := hide hb1
  have HB2 := hide hb2
  have HN := hide h1
  clear hb1 hb2 hrow hL h2 h3
  obtain ⟨B, hB⟩ : ∃ B, (atL (fun i => (l.getD i zPV).st == 0) n).length = B := ⟨_, rfl⟩
  obtain ⟨L, hLl⟩ : ∃ L, (lostG l).length = L := ⟨_, rfl⟩
  have hBle : B ≤ n := by rw [← hB]; exact atL_le _ _
  have hall : (B = n) ↔ l.all (fun p => p.st == 0) = true := by rw [← hB, ← h1]; exact atL_all (l := l) (z := zPV) (p := fun p => p.st == 0)
  have hany : (0 < B) ↔ l.any (fun p => p.st == 0) = true := by rw [← hB, ← h1]; exact atL_any (l := l) (z := zPV) (p := fun p => p.st == 0)
  have hL2 : (atL (fun i => !((l.getD i zPV).st == 0) && !((l.getD i zPV).st == 2)) n).length = L := by rw [← hLl, lostG, h1]
  have hLle : L ≤ n := by rw [← hL2]; exact atL_le _ _
  have HBl := hide hB
  have HLl := hide hL2
  have HALL := hide hall
  have HANY := hide hany
  have HLG := hide hLl
  clear h1 hB hLl hall hany hL2
  go_enter Tryz.func20, Tryz.ntmps20
  go_wp2_with fail
  refine (suchP_any ao n c 37 w).mono ?_
  rintro e w1 ⟨rfl, k1, k2, -, hk⟩
  have HS := hide (suchP_seq (by omega) (fun i => rfl) (fun i => PV.cs_one _) k1 k2 ((unhide HR).of (fun h => hk.block g ((unhide HR).lt h (by simp [PV.cs])))) (enters_of Tryz.func37 (by kernel_rfl) rfl) (unhide HB1))
  have HT := hide hk
  clear k1 k2 hk
  go_wp2_with fail
  refine (colP_any _ _ n (by omega) _ _ w1 (unhide HS)).mono ?_
  rintro e w2 ⟨v, rfl, hO, hk⟩
  obtain ⟨gv, hA, -⟩ := hO.arg
  obtain ⟨ao2, c2, hv, -⟩ := hA.ex
  rw [unhide HBl] at hv
  subst hv
  have HT2 := hide ((unhide HT).trans (hk.mono (unhide HT).size))
  clear hO hA hk HS HT
  by_cases e1 : B = n
  · have hr : staF l most = 2 := by rw [staF, if_pos ((unhide HALL).1 e1)]
    have HX := hide hr
    clear hr
    subst e1
    go_wp2
    go_ret
    exact ⟨by rw [unhide HX]; rfl, unhide HT2⟩
  · have ha : ¬ l.all (fun p => p.st == 0) = true := fun h => e1 ((unhide HALL).2 h)
    by_cases e2 : 0 < B
    · have hr : staF l most = 5 := by rw [staF, if_neg ha, if_pos ((unhide HANY).1 e2)]
      have HX := hide hr
      have e1' : ((B : Int) == (n : Int)) = false := by rw [beq_eq_false_iff_ne]; omega
      clear hr ha
      go_wp2
      go_ret
      exact ⟨by rw [unhide HX]; rfl, unhide HT2⟩
    · have hy : ¬ l.any (fun p => p.st == 0) = true := fun h => e2 ((unhide HANY).2 h)
      have e1' : ((B : Int) == (n : Int)) = false := by rw [beq_eq_false_iff_ne]; omega
      have hr : staF l most = if most < (L : Int) then 11 else 0 := by rw [staF, if_neg ha, if_neg hy, unhide HLG]
      have HX := hide hr
      clear hr ha hy
      have HR2 := hide ((unhide HR).of (fun h => (unhide HT2).block g ((unhide HR).lt h (by simp [PV.cs]))))
      go_wp2_with fail
      refine (suchP_any ao n c 38 _).mono ?_
      rintro e w3 ⟨rfl, k1, k2, -, hk⟩
      have HS := hide (suchP_seq (by omega) (fun i => rfl) (fun i => PV.cs_one _) k1 k2 ((unhide HR2).of (fun h => hk.block g ((unhide HR2).lt h (by simp [PV.cs])))) (enters_of Tryz.func38 (by kernel_rfl) rfl) (unhide HB2))
      have HT := hide ((unhide HT2).trans (hk.mono (unhide HT2).size))
      clear k1 k2 hk
      go_wp2_with fail
      refine (colP_any _ _ n (by omega) _ _ w3 (unhide HS)).mono ?_
      rintro e w4 ⟨v, rfl, hO, hk⟩
      obtain ⟨gv, hA, -⟩ := hO.arg
      obtain ⟨ao4, c4, hv, -⟩ := hA.ex
      rw [unhide HLl] at hv
      subst hv
      have HT4 := hide ((unhide HT).trans (hk.mono (unhide HT).size))
      clear hO hA hk HS HT
      by_cases e3 : most < (L : Int)
      · go_wp2
        go_ret
        exact ⟨by rw [unhide HX, if_pos e3]; rfl, unhide HT4⟩
      · have e4 : (L : Int) ≤ most := by omega
        go_wp2
        go_ret
        exact ⟨by rw [unhide HX, if_neg (by omega)]; rfl, unhide HT4⟩

end Go.Proofs.YtjdikhelabibnabGreat
