/-
  entry.Check, and what it asks.
-/
import Derived.Test.YtjdikhelabibnaaGreatR10c
namespace Go.Proofs.YtjdikhelabibnaaGreat
open Go.RowKit Go.Shelf
attribute [local go_sem] Oper.semAt_some

theorem ewithin_any (v lo hi : Int) (w : World) (r : Bool) (hr : decide (lo ≤ v ∧ v ≤ hi) = r) : Calls Tryz.prog 108 #[.int .i64 v, .int .i64 lo, .int .i64 hi] w fun e w' => e = .returned (.bool r) ∧ w' = w := by
  rcases (show v < lo ∨ (lo ≤ v ∧ v ≤ hi) ∨ (lo ≤ v ∧ hi < v) by omega) with h | ⟨h, h2⟩ | ⟨h, h2⟩
  · have e : r = false := by rw [← hr, decide_eq_false (by omega)]
    subst e
    clear hr
    go_enter Tryz.func108, Tryz.ntmps108
    go_wp2
    go_ret
    exact ⟨rfl, rfl⟩
  · have e : r = true := by rw [← hr, decide_eq_true ⟨h, h2⟩]
    subst e
    clear hr
    go_enter Tryz.func108, Tryz.ntmps108
    go_wp2
    go_ret
    exact ⟨rfl, rfl⟩
  · have e : r = false := by rw [← hr, decide_eq_false (by omega)]
    subst e
    clear hr
    go_enter Tryz.func108, Tryz.ntmps108
    go_wp2
    go_ret
    exact ⟨by show Ending.returned (.bool (decide (v ≤ hi))) = _; rw [decide_eq_false (by omega)], rfl⟩
theorem kindM_any (k : Int) (w : World) (r : Bool) (hr : decide (0 ≤ k ∧ k ≤ 3) = r) : Calls Tryz.prog 111 #[.int .i64 k] w fun e w' => e = .returned (.bool r) ∧ w' = w := by
  have HR := hide hr
  clear hr
  go_enter Tryz.func111, Tryz.ntmps111
  go_wp2_with fail
  refine (ewithin_any k 0 3 _ r (unhide HR)).mono ?_
  rintro e w1 ⟨rfl, rfl⟩
  go_wp2
  go_ret
  exact ⟨rfl, rfl⟩

/-- Numbers that may be; data that may be. -/
def numOk (k l s : Int) : Prop := if k = 1 ∨ k = 2 then (0 ≤ l ∧ l ≤ 65536) ∧ 1 ≤ s ∧ s ≤ 1099511627776 else l = 0 ∧ s = 0
instance (k l s : Int) : Decidable (numOk k l s) := by unfold numOk; infer_instance
theorem numOk_two {k l s : Int} (h : k = 1 ∨ k = 2) : numOk k l s ↔ (0 ≤ l ∧ l ≤ 65536) ∧ 1 ≤ s ∧ s ≤ 1099511627776 := by unfold numOk; rw [if_pos h]
theorem numOk_else {k l s : Int} (h : ¬ (k = 1 ∨ k = 2)) : numOk k l s ↔ l = 0 ∧ s = 0 := by unfold numOk; rw [if_neg h]
def datOk (k : Int) (d : List Nat) : Prop := k = 1 ∨ d = zer16
instance (k : Int) (d : List Nat) : Decidable (datOk k d) := by unfold datOk; infer_instance
theorem okE_iff (k l s : Int) (d : List Nat) : okE k l s d ↔ (0 ≤ k ∧ k ≤ 3) ∧ numOk k l s ∧ datOk k d := by
  unfold okE numOk datOk
  by_cases h : k = 1 ∨ k = 2
  · rw [if_pos h]
    constructor
    · rintro ⟨h1, h2, h3, h4⟩
      exact ⟨h1, h2 h, by by_cases hk : k = 1; exact .inl hk; exact .inr (h4 hk)⟩
    · rintro ⟨h1, h2, h3⟩
      exact ⟨h1, fun _ => h2, fun hn => absurd h hn, fun hn => h3.resolve_left hn⟩
  · rw [if_neg h]
    constructor
    · rintro ⟨h1, h2, h3, h4⟩
      exact ⟨h1, h3 h, by by_cases hk : k = 1; exact .inl hk; exact .inr (h4 hk)⟩
    · rintro ⟨h1, h2, h3⟩
      exact ⟨h1, fun hn => absurd hn h, fun _ => h2, fun hn => h3.resolve_left hn⟩

set_option maxRecDepth 100000 in
set_option maxHeartbeats 8000000 in
theorem numM_any (k l s : Int) (d : List Nat) (w : World) (r : Bool) (hr : decide (numOk k l s) = r) : Calls Tryz.prog 112 #[.agg (entA k l s d)] w fun e w' => e = .returned (.bool r) ∧ Below w.heap.size w w' := by
  obtain ⟨W, hW, hE, hb⟩ := EntAt.new w k l s d
  have HB := hide hb
  have c0 := hE.c0
  have c1 := hE.c1
  have c2 := hE.c2
  clear hb hE
  by_cases hk : k = 1 ∨ k = 2
  · by_cases h1 : 0 ≤ l ∧ l ≤ 65536
    · have e : decide (1 ≤ s ∧ s ≤ 1099511627776) = r := by rw [← hr]; exact decide_eq_decide.2 ⟨fun h => (numOk_two hk).2 ⟨h1, h⟩, fun h => ((numOk_two hk).1 h).2⟩
      have HE := hide e
      have H1 := hide (decide_eq_true h1)
      clear e hr h1
      rcases hk with hk | hk
      all_goals
        subst hk
        go_enter Tryz.func112, Tryz.ntmps112
        go_wp2_with fail
        refine (ewithin_any l 0 65536 _ true (unhide H1)).mono ?_
        rintro e w1 ⟨rfl, rfl⟩
        go_wp2_with fail
        refine (ewithin_any s 1 1099511627776 _ r (unhide HE)).mono ?_
        rintro e w1 ⟨rfl, rfl⟩
        go_wp2
        go_ret
        exact ⟨rfl, unhide HB⟩
    · have e : r = false := by rw [← hr]; exact decide_eq_false (fun h => h1 ((numOk_two hk).1 h).1)
      subst e
      have H1 := hide (decide_eq_false h1)
      clear hr h1
      rcases hk with hk | hk
      all_goals
        subst hk
        go_enter Tryz.func112, Tryz.ntmps112
        go_wp2_with fail
        refine (ewithin_any l 0 65536 _ false (unhide H1)).mono ?_
        rintro e w1 ⟨rfl, rfl⟩
        go_wp2
        go_ret
        exact ⟨rfl, unhide HB⟩
  · have q1 : (k == 1) = false := by rw [beq_eq_false_iff_ne]; omega
    have q2 : (k == 2) = false := by rw [beq_eq_false_iff_ne]; omega
    by_cases h1 : l = 0
    · subst h1
      by_cases h2 : s = 0
      · subst h2
        have e : r = true := by rw [← hr]; exact decide_eq_true ((numOk_else hk).2 ⟨rfl, rfl⟩)
        subst e
        clear hr hk
        go_enter Tryz.func112, Tryz.ntmps112
        go_wp2
        go_ret
        exact ⟨rfl, unhide HB⟩
      · have e : r = false := by rw [← hr]; exact decide_eq_false (fun h => h2 ((numOk_else hk).1 h).2)
        subst e
        have q3 : (s == 0) = false := by rw [beq_eq_false_iff_ne]; exact h2
        clear hr hk h2
        go_enter Tryz.func112, Tryz.ntmps112
        go_wp2
        go_ret
        exact ⟨rfl, unhide HB⟩
    · have e : r = false := by rw [← hr]; exact decide_eq_false (fun h => h1 ((numOk_else hk).1 h).1)
      subst e
      have q3 : (l == 0) = false := by rw [beq_eq_false_iff_ne]; exact h1
      clear hr hk h1
      go_enter Tryz.func112, Tryz.ntmps112
      go_wp2
      go_ret
      exact ⟨rfl, unhide HB⟩

theorem eqTD (d d' : List Nat) (h : d.length = 16) (h' : d'.length = 16) (r : Bool) (hr : decide (d = d') = r) (w : World) : (binOp .eql 42 (.agg (datL d).toArray) (.agg (datL d').toArray)).run Tryz.prog w = .ok (.bool r) w := by
  simp [binOp, Op.equal, Op.maxDepth, eqTD_in d d' h h' 9998, hr]
set_option maxRecDepth 100000 in
set_option maxHeartbeats 8000000 in
theorem datM_any (k l s : Int) (d : List Nat) (hd : d.length = 16) (w : World) (r : Bool) (hr : decide (datOk k d) = r) : Calls Tryz.prog 113 #[.agg (entA k l s d)] w fun e w' => e = .returned (.bool r) ∧ Below w.heap.size w w' := by
  obtain ⟨W, hW, hE, hb⟩ := EntAt.new w k l s d
  have HB := hide hb
  have c0 := hE.c0
  have f0 : W.cell? ⟨w.heap.size, 3, none⟩ = some (.int .u8 ((cf d 0 : Nat) : Int)) := hE.range 0 _ (datL_get (by omega))
  have f1 : W.cell? ⟨w.heap.size, 4, none⟩ = some (.int .u8 ((cf d 1 : Nat) : Int)) := hE.range 1 _ (datL_get (by omega))
  have f2 : W.cell? ⟨w.heap.size, 5, none⟩ = some (.int .u8 ((cf d 2 : Nat) : Int)) := hE.range 2 _ (datL_get (by omega))
  have f3 : W.cell? ⟨w.heap.size, 6, none⟩ = some (.int .u8 ((cf d 3 : Nat) : Int)) := hE.range 3 _ (datL_get (by omega))
  have f4 : W.cell? ⟨w.heap.size, 7, none⟩ = some (.int .u8 ((cf d 4 : Nat) : Int)) := hE.range 4 _ (datL_get (by omega))
  have f5 : W.cell? ⟨w.heap.size, 8, none⟩ = some (.int .u8 ((cf d 5 : Nat) : Int)) := hE.range 5 _ (datL_get (by omega))
  have f6 : W.cell? ⟨w.heap.size, 9, none⟩ = some (.int .u8 ((cf d 6 : Nat) : Int)) := hE.range 6 _ (datL_get (by omega))
  have f7 : W.cell? ⟨w.heap.size, 10, none⟩ = some (.int .u8 ((cf d 7 : Nat) : Int)) := hE.range 7 _ (datL_get (by omega))
  have f8 : W.cell? ⟨w.heap.size, 11, none⟩ = some (.int .u8 ((cf d 8 : Nat) : Int)) := hE.range 8 _ (datL_get (by omega))
  have f9 : W.cell? ⟨w.heap.size, 12, none⟩ = some (.int .u8 ((cf d 9 : Nat) : Int)) := hE.range 9 _ (datL_get (by omega))
  have f10 : W.cell? ⟨w.heap.size, 13, none⟩ = some (.int .u8 ((cf d 10 : Nat) : Int)) := hE.range 10 _ (datL_get (by omega))
  have f11 : W.cell? ⟨w.heap.size, 14, none⟩ = some (.int .u8 ((cf d 11 : Nat) : Int)) := hE.range 11 _ (datL_get (by omega))
  have f12 : W.cell? ⟨w.heap.size, 15, none⟩ = some (.int .u8 ((cf d 12 : Nat) : Int)) := hE.range 12 _ (datL_get (by omega))
  have f13 : W.cell? ⟨w.heap.size, 16, none⟩ = some (.int .u8 ((cf d 13 : Nat) : Int)) := hE.range 13 _ (datL_get (by omega))
  have f14 : W.cell? ⟨w.heap.size, 17, none⟩ = some (.int .u8 ((cf d 14 : Nat) : Int)) := hE.range 14 _ (datL_get (by omega))
  have f15 : W.cell? ⟨w.heap.size, 18, none⟩ = some (.int .u8 ((cf d 15 : Nat) : Int)) := hE.range 15 _ (datL_get (by omega))
  clear hb hE
  by_cases hk : k = 1
  · have e : r = true := by rw [← hr]; exact decide_eq_true (.inl hk)
    subst e
    subst hk
    clear hr hd f0 f1 f2 f3 f4 f5 f6 f7 f8 f9 f10 f11 f12 f13 f14 f15
    go_enter Tryz.func113, Tryz.ntmps113
    go_wp2
    go_ret
    exact ⟨rfl, unhide HB⟩
  · have q1 : (k == 1) = false := by rw [beq_eq_false_iff_ne]; omega
    have hq := fun W => eqTD d zer16 hd zer16_len r (by rw [← hr]; exact decide_eq_decide.2 ⟨fun h => .inr h, fun h => h.resolve_left hk⟩) W
    rw [datA16 hd, datZ16] at hq
    have hbz := fun W => build_TD W
    clear hr hd hk
    go_enter Tryz.func113, Tryz.ntmps113
    go_wp2
    go_ret
    exact ⟨rfl, unhide HB⟩

theorem wpList_load_want10 {P : Program} {ops : Array Oper} {rest : List Oper} {o : Oper} {a : Act} {w : World} {Q : Exit → Act → World → Prop} (hw : Region.wanted o (yielded ops a.tmps) = true) (ty : TypeId) (x : Operand) (ho : o.op = .load ty x)
    (g : Nat) (hx : a.eval x = .pointer (some ⟨g, 0, none⟩)) (t : TypeId) (cs : Array Value) (fr : Nat × Nat) (d : TypeDesc) (hg : w.heap[g]? = some (.cells cs t fr))
    (hu : P.underlying ty = some d) (hd : (match d with | .struct _ | .array _ _ => true | _ => false) = true) (hi : (P.info? ty).map (·.size) = some cs.size)
    (h : wpList P ops Q rest (a.put o.dst (.agg cs)) w) : wpList P ops Q (o :: rest) a w :=
  BigFrame.wpList_want hw fun _ hK => wp_load_row ty x ho g hx t cs fr d hg hu hd hi (hK _ _ h)
set_option maxRecDepth 100000 in
set_option maxHeartbeats 8000000 in
theorem echeck_any (k l s : Int) (d : List Nat) (hd : d.length = 16) (w : World) : Calls Tryz.prog 76 #[.agg (entA k l s d)] w fun e w' => e = .returned (.int .i64 (chkE k l s d)) ∧ Below w.heap.size w w' := by
  obtain ⟨W, hW, hE, hb⟩ := EntAt.new w k l s d
  have HB := hide hb
  have HE := hide hE
  have c0 := hE.c0
  have HBK := hide hE.blk
  clear hb hE
  by_cases h1 : 0 ≤ k ∧ k ≤ 3
  · have H1 := hide (decide_eq_true h1)
    by_cases h2 : numOk k l s
    · have H2 := hide (decide_eq_true h2)
      by_cases h3 : datOk k d
      · have H3 := hide (decide_eq_true h3)
        rw [chkE_ok ((okE_iff _ _ _ _).2 ⟨h1, h2, h3⟩)]
        clear h1 h2 h3
        go_enter Tryz.func76, Tryz.ntmps76
        go_wp2_with fail
        refine (kindM_any k _ true (unhide H1)).mono ?_
        rintro e w1 ⟨rfl, rfl⟩
        go_wp2_with (refine wpList_load_want10 rfl 44 _ rfl w.heap.size rfl 44 (entA k l s d) _ _ (unhide HBK) Tryz.underlying44 rfl (by rw [sizeTE, entA_size hd]) ?_)
        refine (numM_any k l s d _ true (unhide H2)).mono ?_
        rintro e w2 ⟨rfl, hk2⟩
        have HK2 := hide hk2
        replace HBK := hide ((hk2.block _ (lt_of_block (unhide HBK))).trans (unhide HBK))
        clear hk2
        go_wp2_with (refine wpList_load_want10 rfl 44 _ rfl w.heap.size rfl 44 (entA k l s d) _ _ (unhide HBK) Tryz.underlying44 rfl (by rw [sizeTE, entA_size hd]) ?_)
        refine (datM_any k l s d hd _ true (unhide H3)).mono ?_
        rintro e w3 ⟨rfl, hk3⟩
        have HK3 := hide hk3
        clear hk3
        go_wp2
        go_ret
        exact ⟨rfl, (unhide HB).trans (((unhide HK2).trans ((unhide HK3).mono (unhide HK2).size)).mono (unhide HB).size)⟩
      · have H3 := hide (decide_eq_false h3)
        rw [chkE_not (fun h => h3 ((okE_iff _ _ _ _).1 h).2.2)]
        clear h1 h2 h3
        go_enter Tryz.func76, Tryz.ntmps76
        go_wp2_with fail
        refine (kindM_any k _ true (unhide H1)).mono ?_
        rintro e w1 ⟨rfl, rfl⟩
        go_wp2_with (refine wpList_load_want10 rfl 44 _ rfl w.heap.size rfl 44 (entA k l s d) _ _ (unhide HBK) Tryz.underlying44 rfl (by rw [sizeTE, entA_size hd]) ?_)
        refine (numM_any k l s d _ true (unhide H2)).mono ?_
        rintro e w2 ⟨rfl, hk2⟩
        have HK2 := hide hk2
        replace HBK := hide ((hk2.block _ (lt_of_block (unhide HBK))).trans (unhide HBK))
        clear hk2
        go_wp2_with (refine wpList_load_want10 rfl 44 _ rfl w.heap.size rfl 44 (entA k l s d) _ _ (unhide HBK) Tryz.underlying44 rfl (by rw [sizeTE, entA_size hd]) ?_)
        refine (datM_any k l s d hd _ false (unhide H3)).mono ?_
        rintro e w3 ⟨rfl, hk3⟩
        have HK3 := hide hk3
        clear hk3
        go_wp2
        go_ret
        exact ⟨rfl, (unhide HB).trans (((unhide HK2).trans ((unhide HK3).mono (unhide HK2).size)).mono (unhide HB).size)⟩
    · have H2 := hide (decide_eq_false h2)
      rw [chkE_not (fun h => h2 ((okE_iff _ _ _ _).1 h).2.1)]
      clear h1 h2
      go_enter Tryz.func76, Tryz.ntmps76
      go_wp2_with fail
      refine (kindM_any k _ true (unhide H1)).mono ?_
      rintro e w1 ⟨rfl, rfl⟩
      go_wp2_with (refine wpList_load_want10 rfl 44 _ rfl w.heap.size rfl 44 (entA k l s d) _ _ (unhide HBK) Tryz.underlying44 rfl (by rw [sizeTE, entA_size hd]) ?_)
      refine (numM_any k l s d _ false (unhide H2)).mono ?_
      rintro e w2 ⟨rfl, hk2⟩
      have HK2 := hide hk2
      replace HBK := hide ((hk2.block _ (lt_of_block (unhide HBK))).trans (unhide HBK))
      clear hk2
      go_wp2
      go_ret
      exact ⟨rfl, (unhide HB).trans ((unhide HK2).mono (unhide HB).size)⟩
  · have H1 := hide (decide_eq_false h1)
    rw [chkE_not (fun h => h1 ((okE_iff _ _ _ _).1 h).1)]
    clear h1
    go_enter Tryz.func76, Tryz.ntmps76
    go_wp2_with fail
    refine (kindM_any k _ false (unhide H1)).mono ?_
    rintro e w1 ⟨rfl, rfl⟩
    go_wp2
    go_ret
    exact ⟨rfl, unhide HB⟩
end Go.Proofs.YtjdikhelabibnaaGreat
