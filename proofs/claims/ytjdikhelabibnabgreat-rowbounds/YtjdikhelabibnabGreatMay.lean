/-
  entry.Check, and what it asks.
  A slot's bytes by themselves; what is read of them.
  entry.Bytes.
-/
import Derived.Test.YtjdikhelabibnabGreatMav
import Derived.Test.YtjdikhelabibnabGreatMax
namespace Go.Proofs.YtjdikhelabibnabGreat
open Go.RowKit Go.Shelf
attribute [local go_sem] Oper.semAt_some

theorem ewithin_any (v lo hi : Int) (w : World) (r : Bool) (hr : decide (lo ≤ v ∧ v ≤ hi) = r) : Calls Tryz.prog 70 #[.int .i64 v, .int .i64 lo, .int .i64 hi] w fun e w' => e = .returned (.bool r) ∧ w' = w := by
  rcases (show v < lo ∨ (lo ≤ v ∧ v ≤ hi) ∨ (lo ≤ v ∧ hi < v) by omega) with h | ⟨h, h2⟩ | ⟨h, h2⟩
  · have e : r = false := by rw [← hr, decide_eq_false (by omega)]
    subst e
    clear hr
    go_enter Tryz.func70, Tryz.ntmps70
    go_wp2
    go_ret
    exact ⟨rfl, rfl⟩
  · have e : r = true := by rw [← hr, decide_eq_true ⟨h, h2⟩]
    subst e
    clear hr
    go_enter Tryz.func70, Tryz.ntmps70
    go_wp2
    go_ret
    exact ⟨rfl, rfl⟩
  · have e : r = false := by rw [← hr, decide_eq_false (by omega)]
    subst e
    clear hr
    go_enter Tryz.func70, Tryz.ntmps70
    go_wp2
    go_ret
    exact ⟨by show Ending.returned (.bool (decide (v ≤ hi))) = _; rw [decide_eq_false (by omega)], rfl⟩
theorem kindM_any (k : Int) (w : World) (r : Bool) (hr : decide (0 ≤ k ∧ k ≤ 3) = r) : Calls Tryz.prog 103 #[.int .i64 k] w fun e w' => e = .returned (.bool r) ∧ w' = w := by
  have HR := hide hr
  clear hr
  go_enter Tryz.func103, Tryz.ntmps103
  go_wp2_with fail
  refine (ewithin_any k 0 3 _ r (unhide HR)).mono ?_
  rintro e w1 ⟨rfl, rfl⟩
  go_wp2
  go_ret
  exact ⟨rfl, rfl⟩

/-- Numbers that may be; data that may be. -/
def numOk (k l s : Int) : Prop := if k = 1 ∨ k = 2 then (0 ≤ l ∧ l ≤ 65536) ∧ 1 ≤ s ∧ s ≤ 1099511627776 else l = 0 ∧ s = 0
instance (k l s : Int) : Decidable (numOk k l s) := by unfold numOk; infer_instance
theorem numOk_two {k l s : Int} (h : k = 1 ∨ k = 2) : numOk k l s ↔ (0 ≤ l ∧ l ≤ 65536) ∧ 1 ≤ s ∧ s ≤ 1099511627776 := by unfold numOk; rw [if_pos h]
theorem numOk_else {k l s : Int} (h : ¬ (k = 1 ∨ k = 2)) : numOk k l s ↔ l = 0 ∧ s = 0 := by unfold numOk; rw [if_neg h]
def datOk (k : Int) (d : List Nat) : Prop := k = 1 ∨ d = zer16
instance (k : Int) (d : List Nat) : Decidable (datOk k d) := by unfold datOk; infer_instance
theorem okE_iff (k l s : Int) (d : List Nat) : okE k l s d ↔ (0 ≤ k ∧ k ≤ 3) ∧ numOk k l s ∧ datOk k d := by
  unfold okE numOk datOk
  by_cases h : k = 1 ∨ k = 2
  · rw [if_pos h]
    constructor
    · rintro ⟨h1, h2, h3, h4⟩
      exact ⟨h1, h2 h, by by_cases hk : k = 1; exact .inl hk; exact .inr (h4 hk)⟩
    · rintro ⟨h1, h2, h3⟩
      exact ⟨h1, fun _ => h2, fun hn => absurd h hn, fun hn => h3.resolve_left hn⟩
  · rw [if_neg h]
    constructor
    · rintro ⟨h1, h2, h3, h4⟩
      exact ⟨h1, h3 h, by by_cases hk : k = 1; exact .inl hk; exact .inr (h4 hk)⟩
    · rintro ⟨h1, h2, h3⟩
      exact ⟨h1, fun hn => absurd hn h, fun _ => h2, fun hn => h3.resolve_left hn⟩

set_option maxRecDepth 100000 in
set_option maxHeartbeats 8000000 in
theorem numM_any (k l s : Int) (d : List Nat) (w : World) (r : Bool) (hr : decide (numOk k l s) = r) : Calls Tryz.prog 104 #[.agg (entA k l s d)] w fun e w' => e = .returned (.bool r) ∧ Below w.heap.size w w' := by
  obtain ⟨W, hW, hE, hb⟩ := EntAt.new w k l s d
  have HB := hide hb
  have c0 := hE.c0
  have c1 := hE.c1
  have c2 := hE.c2
  clear hb hE
  by_cases hk : k = 1 ∨ k = 2
  · by_cases h1 : 0 ≤ l ∧ l ≤ 65536
    · have e : decide (1 ≤ s ∧ s ≤ 1099511627776) = r := by rw [← hr]; exact decide_eq_decide.2 ⟨fun h => (numOk_two hk).2 ⟨h1, h⟩, fun h => ((numOk_two hk).1 h).2⟩
      have HE := hide e
      have H1 := hide (decide_eq_true h1)
      clear e hr h1
      rcases hk with hk | hk
      all_goals
        subst hk
        go_enter Tryz.func104, Tryz.ntmps104
        go_wp2_with fail
        refine (ewithin_any l 0 65536 _ true (unhide H1)).mono ?_
        rintro e w1 ⟨rfl, rfl⟩
        go_wp2_with fail
        refine (ewithin_any s 1 1099511627776 _ r (unhide HE)).mono ?_
        rintro e w1 ⟨rfl, rfl⟩
        go_wp2
        go_ret
        exact ⟨rfl, unhide HB⟩
    · have e : r = false := by rw [← hr]; exact decide_eq_false (fun h => h1 ((numOk_two hk).1 h).1)
      subst e
      have H1 := hide (decide_eq_false h1)
      clear hr h1
      rcases hk with hk | hk
      all_goals
        subst hk
        go_enter Tryz.func104, Tryz.ntmps104
        go_wp2_with fail
        refine (ewithin_any l 0 65536 _ false (unhide H1)).mono ?_
        rintro e w1 ⟨rfl, rfl⟩
        go_wp2
        go_ret
        exact ⟨rfl, unhide HB⟩
  · have q1 : (k == 1) = false := by rw [beq_eq_false_iff_ne]; omega
    have q2 : (k == 2) = false := by rw [beq_eq_false_iff_ne]; omega
    by_cases h1 : l = 0
    · subst h1
      by_cases h2 : s = 0
      · subst h2
        have e : r = true := by rw [← hr]; exact decide_eq_true ((numOk_else hk).2 ⟨rfl, rfl⟩)
        subst e
        clear hr hk
        go_enter Tryz.func104, Tryz.ntmps104
        go_wp2
        go_ret
        exact ⟨rfl, unhide HB⟩
      · have e : r = false := by rw [← hr]; exact decide_eq_false (fun h => h2 ((numOk_else hk).1 h).2)
        subst e
        have q3 : (s == 0) = false := by rw [beq_eq_false_iff_ne]; exact h2
        clear hr hk h2
        go_enter Tryz.func104, Tryz.ntmps104
        go_wp2
        go_ret
        exact ⟨rfl, unhide HB⟩
    · have e : r = false := by rw [← hr]; exact decide_eq_false (fun h => h1 ((numOk_else hk).1 h).1)
      subst e
      have q3 : (l == 0) = false := by rw [beq_eq_false_iff_ne]; exact h1
      clear hr hk h1
      go_enter Tryz.func104, Tryz.ntmps104
      go_wp2
      go_ret
      exact ⟨rfl, unhide HB⟩

theorem eqTD (d d' : List Nat) (h : d.length = 16) (h' : d'.length = 16) (r : Bool) (hr : decide (d = d') = r) (w : World) : (binOp .eql 44 (.agg (datL d).toArray) (.agg (datL d').toArray)).run Tryz.prog w = .ok (.bool r) w := by
  simp [binOp, Op.equal, Op.maxDepth, eqTD_in d d' h h' 9998, hr]
set_option maxRecDepth 100000 in
set_option maxHeartbeats 8000000 in
theorem datM_any (k l s : Int) (d : List Nat) (hd : d.length = 16) (w : World) (r : Bool) (hr : decide (datOk k d) = r) : Calls Tryz.prog 105 #[.agg (entA k l s d)] w fun e w' => e = .returned (.bool r) ∧ Below w.heap.size w w' := by
  obtain ⟨W, hW, hE, hb⟩ := EntAt.new w k l s d
  have HB := hide hb
  have c0 := hE.c0
  have f0 : W.cell? ⟨w.heap.size, 3, none⟩ = some (.int .u8 ((cf d 0 : Nat) : Int)) := hE.range 0 _ (datL_get (by omega))
  have f1 : W.cell? ⟨w.heap.size, 4, none⟩ = some (.int .u8 ((cf d 1 : Nat) : Int)) := hE.range 1 _ (datL_get (by omega))
  have f2 : W.cell? ⟨w.heap.size, 5, none⟩ = some (.int .u8 ((cf d 2 : Nat) : Int)) := hE.range 2 _ (datL_get (by omega))
  have f3 : W.cell? ⟨w.heap.size, 6, none⟩ = some (.int .u8 ((cf d 3 : Nat) : Int)) := hE.range 3 _ (datL_get (by omega))
  have f4 : W.cell? ⟨w.heap.size, 7, none⟩ = some (.int .u8 ((cf d 4 : Nat) : Int)) := hE.range 4 _ (datL_get (by omega))
  have f5 : W.cell? ⟨w.heap.size, 8, none⟩ = some (.int .u8 ((cf d 5 : Nat) : Int)) := hE.range 5 _ (datL_get (by omega))
  have f6 : W.cell? ⟨w.heap.size, 9, none⟩ = some (.int .u8 ((cf d 6 : Nat) : Int)) := hE.range 6 _ (datL_get (by omega))
  have f7 : W.cell? ⟨w.heap.size, 10, none⟩ = some (.int .u8 ((cf d 7 : Nat) : Int)) := hE.range 7 _ (datL_get (by omega))
  have f8 : W.cell? ⟨w.heap.size, 11, none⟩ = some (.int .u8 ((cf d 8 : Nat) : Int)) := hE.range 8 _ (datL_get (by omega))
  have f9 : W.cell? ⟨w.heap.size, 12, none⟩ = some (.int .u8 ((cf d 9 : Nat) : Int)) := hE.range 9 _ (datL_get (by omega))
  have f10 : W.cell? ⟨w.heap.size, 13, none⟩ = some (.int .u8 ((cf d 10 : Nat) : Int)) := hE.range 10 _ (datL_get (by omega))
  have f11 : W.cell? ⟨w.heap.size, 14, none⟩ = some (.int .u8 ((cf d 11 : Nat) : Int)) := hE.range 11 _ (datL_get (by omega))
  have f12 : W.cell? ⟨w.heap.size, 15, none⟩ = some (.int .u8 ((cf d 12 : Nat) : Int)) := hE.range 12 _ (datL_get (by omega))
  have f13 : W.cell? ⟨w.heap.size, 16, none⟩ = some (.int .u8 ((cf d 13 : Nat) : Int)) := hE.range 13 _ (datL_get (by omega))
  have f14 : W.cell? ⟨w.heap.size, 17, none⟩ = some (.int .u8 ((cf d 14 : Nat) : Int)) := hE.range 14 _ (datL_get (by omega))
  have f15 : W.cell? ⟨w.heap.size, 18, none⟩ = some (.int .u8 ((cf d 15 : Nat) : Int)) := hE.range 15 _ (datL_get (by omega))
  clear hb hE
  by_cases hk : k = 1
  · have e : r = true := by rw [← hr]; exact decide_eq_true (.inl hk)
    subst e
    subst hk
    clear hr hd f0 f1 f2 f3 f4 f5 f6 f7 f8 f9 f10 f11 f12 f13 f14 f15
    go_enter Tryz.func105, Tryz.ntmps105
    go_wp2
    go_ret
    exact ⟨rfl, unhide HB⟩
  · have q1 : (k == 1) = false := by rw [beq_eq_false_iff_ne]; omega
    have hq := fun W => eqTD d zer16 hd zer16_len r (by rw [← hr]; exact decide_eq_decide.2 ⟨fun h => .inr h, fun h => h.resolve_left hk⟩) W
    rw [datA16 hd, datZ16] at hq
    have hbz := fun W => build_TD W
    clear hr hd hk
    go_enter Tryz.func105, Tryz.ntmps105
    go_wp2
    go_ret
    exact ⟨rfl, unhide HB⟩

theorem wpList_load_want10 {P : Program} {ops : Array Oper} {rest : List Oper} {o : Oper} {a : Act} {w : World} {Q : Exit → Act → World → Prop} (hw : Region.wanted o (yielded ops a.tmps) = true) (ty : TypeId) (x : Operand) (ho : o.op = .load ty x)
    (g : Nat) (hx : a.eval x = .pointer (some ⟨g, 0, none⟩)) (t : TypeId) (cs : Array Value) (fr : Nat × Nat) (d : TypeDesc) (hg : w.heap[g]? = some (.cells cs t fr))
    (hu : P.underlying ty = some d) (hd : (match d with | .struct _ | .array _ _ => true | _ => false) = true) (hi : (P.info? ty).map (·.size) = some cs.size)
    (h : wpList P ops Q rest (a.put o.dst (.agg cs)) w) : wpList P ops Q (o :: rest) a w :=
  BigFrame.wpList_want hw fun _ hK => wp_load_row ty x ho g hx t cs fr d hg hu hd hi (hK _ _ h)
set_option maxRecDepth 100000 in
set_option maxHeartbeats 8000000 in
theorem echeck_any (k l s : Int) (d : List Nat) (hd : d.length = 16) (w : World) : Calls Tryz.prog 71 #[.agg (entA k l s d)] w fun e w' => e = .returned (.int .i64 (chkE k l s d)) ∧ Below w.heap.size w w' := by
  obtain ⟨W, hW, hE, hb⟩ := EntAt.new w k l s d
  have HB := hide hb
  have HE := hide hE
  have c0 := hE.c0
  have HBK := hide hE.blk
  clear hb hE
  by_cases h1 : 0 ≤ k ∧ k ≤ 3
  · have H1 := hide (decide_eq_true h1)
    by_cases h2 : numOk k l s
    · have H2 := hide (decide_eq_true h2)
      by_cases h3 : datOk k d
      · have H3 := hide (decide_eq_true h3)
        rw [chkE_ok ((okE_iff _ _ _ _).2 ⟨h1, h2, h3⟩)]
        clear h1 h2 h3
        go_enter Tryz.func71, Tryz.ntmps71
        go_wp2_with fail
        refine (kindM_any k _ true (unhide H1)).mono ?_
        rintro e w1 ⟨rfl, rfl⟩
        go_wp2_with (refine wpList_load_want10 rfl 46 _ rfl w.heap.size rfl 46 (entA k l s d) _ _ (unhide HBK) Tryz.underlying46 rfl (by rw [sizeTE, entA_size hd]) ?_)
        refine (numM_any k l s d _ true (unhide H2)).mono ?_
        rintro e w2 ⟨rfl, hk2⟩
        have HK2 := hide hk2
        replace HBK := hide ((hk2.block _ (lt_of_block (unhide HBK))).trans (unhide HBK))
        clear hk2
        go_wp2_with (refine wpList_load_want10 rfl 46 _ rfl w.heap.size rfl 46 (entA k l s d) _ _ (unhide HBK) Tryz.underlying46 rfl (by rw [sizeTE, entA_size hd]) ?_)
        refine (datM_any k l s d hd _ true (unhide H3)).mono ?_
        rintro e w3 ⟨rfl, hk3⟩
        have HK3 := hide hk3
        clear hk3
        go_wp2
        go_ret
        exact ⟨rfl, (unhide HB).trans (((unhide HK2).trans ((unhide HK3).mono (unhide HK2).size)).mono (unhide HB).size)⟩
      · have H3 := hide (decide_eq_false h3)
        rw [chkE_not (fun h => h3 ((okE_iff _ _ _ _).1 h).2.2)]
        clear h1 h2 h3
        go_enter Tryz.func71, Tryz.ntmps71
        go_wp2_with fail
        refine (kindM_any k _ true (unhide H1)).mono ?_
        rintro e w1 ⟨rfl, rfl⟩
        go_wp2_with (refine wpList_load_want10 rfl 46 _ rfl w.heap.size rfl 46 (entA k l s d) _ _ (unhide HBK) Tryz.underlying46 rfl (by rw [sizeTE, entA_size hd]) ?_)
        refine (numM_any k l s d _ true (unhide H2)).mono ?_
        rintro e w2 ⟨rfl, hk2⟩
        have HK2 := hide hk2
        replace HBK := hide ((hk2.block _ (lt_of_block (unhide HBK))).trans (unhide HBK))
        clear hk2
        go_wp2_with (refine wpList_load_want10 rfl 46 _ rfl w.heap.size rfl 46 (entA k l s d) _ _ (unhide HBK) Tryz.underlying46 rfl (by rw [sizeTE, entA_size hd]) ?_)
        refine (datM_any k l s d hd _ false (unhide H3)).mono ?_
        rintro e w3 ⟨rfl, hk3⟩
        have HK3 := hide hk3
        clear hk3
        go_wp2
        go_ret
        exact ⟨rfl, (unhide HB).trans (((unhide HK2).trans ((unhide HK3).mono (unhide HK2).size)).mono (unhide HB).size)⟩
    · have H2 := hide (decide_eq_false h2)
      rw [chkE_not (fun h => h2 ((okE_iff _ _ _ _).1 h).2.1)]
      clear h1 h2
      go_enter Tryz.func71, Tryz.ntmps71
      go_wp2_with fail
      refine (kindM_any k _ true (unhide H1)).mono ?_
      rintro e w1 ⟨rfl, rfl⟩
      go_wp2_with (refine wpList_load_want10 rfl 46 _ rfl w.heap.size rfl 46 (entA k l s d) _ _ (unhide HBK) Tryz.underlying46 rfl (by rw [sizeTE, entA_size hd]) ?_)
      refine (numM_any k l s d _ false (unhide H2)).mono ?_
      rintro e w2 ⟨rfl, hk2⟩
      have HK2 := hide hk2
      replace HBK := hide ((hk2.block _ (lt_of_block (unhide HBK))).trans (unhide HBK))
      clear hk2
      go_wp2
      go_ret
      exact ⟨rfl, (unhide HB).trans ((unhide HK2).mono (unhide HB).size)⟩
  · have H1 := hide (decide_eq_false h1)
    rw [chkE_not (fun h => h1 ((okE_iff _ _ _ _).1 h).1)]
    clear h1
    go_enter Tryz.func71, Tryz.ntmps71
    go_wp2_with fail
    refine (kindM_any k _ false (unhide H1)).mono ?_
    rintro e w1 ⟨rfl, rfl⟩
    go_wp2
    go_ret
    exact ⟨rfl, unhide HB⟩
end Go.Proofs.YtjdikhelabibnabGreat

namespace Go.Proofs.YtjdikhelabibnabGreat
open Go.RowKit Go.Shelf

theorem by8_one (v : Int) : by8 1 (IntKind.u64.wrap v) = [v % 256] := by
  rw [IntKind.wrap_u64]
  simp only [by8, List.cons.injEq, and_true]
  omega
/-- A slot's bytes; with whatever at their end. -/
def byW (a b c e k l s : Int) (d t : List Nat) : List Int :=
  by8 8 (IntKind.u64.wrap a) ++ ([b % 256, c % 256, e % 256, k % 256] ++ (by8 8 (IntKind.u64.wrap l) ++ (by8 8 (IntKind.u64.wrap s) ++ (ints d ++ ints t))))
def byT (a b c e k l s : Int) (d : List Nat) : List Int := byW a b c e k l s d [0, 0, 0, 0]
theorem ints_len10 (d : List Nat) : (ints d).length = d.length := by simp [ints]
theorem byW_len {a b c e k l s : Int} {d t : List Nat} (hd : d.length = 16) (ht : t.length = 4) : (byW a b c e k l s d t).length = 48 := by
  simp only [byW, List.length_append, by8_length, ints_len10, hd, ht, List.length_cons, List.length_nil]
theorem fin_all (a b c e k l s : Int) (d : List Nat) : fin10 (owH a b c e) 4 ++ fin10 (owE k l s d) 4 ++ fin10 (owT [0, 0, 0, 0]) 1 = byT a b c e k l s d := by
  simp only [fin10, owH, owE, owT, List.take_succ_cons, List.take_nil, List.flatten_cons, List.flatten_nil, by8_one, byT, byW, List.append_nil, List.append_assoc, List.cons_append, List.nil_append]
theorem byt_by8 (n : Nat) : ∀ v, Byt (by8 n v) := by
  induction n with
  | zero => intro v z hz; simp [by8] at hz
  | succ n ih =>
    intro v z hz
    rw [by8, List.mem_cons] at hz
    rcases hz with rfl | hz
    · omega
    · exact ih _ z hz
theorem byt_app {x y : List Int} (hx : Byt x) (hy : Byt y) : Byt (x ++ y) := fun z hz => (List.mem_append.1 hz).elim (hx z) (hy z)
theorem byt_ints {d : List Nat} (h : ∀ x ∈ d, x < 256) : Byt (ints d) := by
  intro z hz
  obtain ⟨x, hx, rfl⟩ := List.mem_map.1 hz
  have := h x hx
  exact ⟨by omega, by show (x : Int) ≤ 255; omega⟩
theorem byW_byt {a b c e k l s : Int} {d t : List Nat} (hd : ∀ x ∈ d, x < 256) (ht : ∀ x ∈ t, x < 256) : Byt (byW a b c e k l s d t) := by
  refine byt_app (byt_by8 _ _) (byt_app ?_ (byt_app (byt_by8 _ _) (byt_app (byt_by8 _ _) (byt_app (byt_ints hd) (byt_ints ht)))))
  intro z hz
  simp only [List.mem_cons, List.not_mem_nil, or_false] at hz
  rcases hz with rfl | rfl | rfl | rfl <;> omega
theorem mem_lt10 {d : List Nat} (h : ∀ j, cf d j < 256) : ∀ x ∈ d, x < 256 := by
  intro x hx
  obtain ⟨j, hj⟩ := List.mem_iff_getElem?.1 hx
  have h1 := h j
  obtain ⟨hlt, rfl⟩ := List.getElem?_eq_some_iff.1 hj
  have h2 := cf_get hlt
  rw [List.getElem?_eq_getElem hlt] at h2
  rw [Option.some.inj h2]
  exact h1

theorem rd8 (v : Int) (rest : List Int) : rdV 8 (by8 8 (IntKind.u64.wrap v) ++ rest) = wrap64 v := by
  unfold rdV
  have hl := by8_length 8 (IntKind.u64.wrap v)
  rw [if_pos (by rw [List.length_append, hl]; omega), List.take_append_of_le_length (by omega), List.take_of_length_le (by omega), le_by8, show (256 : Int) ^ 8 = 18446744073709551616 from by decide, IntKind.wrap_u64]
  simp only [wrap64]
  omega
theorem rs8 (v : Int) (rest : List Int) : rs1 8 (by8 8 (IntKind.u64.wrap v) ++ rest, 0) = (rest, 0) := by
  have hl := by8_length 8 (IntKind.u64.wrap v)
  unfold rs1 rdZ rdE
  dsimp only
  rw [if_pos (by rw [List.length_append, hl]; omega), if_pos (by rw [List.length_append, hl]; omega), List.drop_append_of_le_length (by omega), List.drop_of_length_le (by omega)]
  rfl
theorem rdv1 {x : Int} (h : 0 ≤ x ∧ x ≤ 255) (rest : List Int) : rdV 1 (x :: rest) = x := by
  unfold rdV
  rw [if_pos (by simp)]
  simp only [List.take_succ_cons, List.take_zero, le, wrap64]
  omega
theorem rsv1 (x : Int) (rest : List Int) : rs1 1 (x :: rest, 0) = (rest, 0) := by
  unfold rs1 rdZ rdE
  simp
theorem rd_row (d : List Nat) : ∀ (n : Nat) (rest : List Int), d.length = n → (∀ x ∈ d, x < 256) → rdL (List.replicate n 1) (ints d ++ rest, 0) = ints d ∧ rdS (List.replicate n 1) (ints d ++ rest, 0) = (rest, 0) := by
  induction d with
  | nil => intro n rest h _; subst h; exact ⟨rfl, rfl⟩
  | cons x d ih =>
    intro n rest h hb
    subst h
    have hx := hb x (by simp)
    obtain ⟨h1, h2⟩ := ih d.length rest rfl (fun y hy => hb y (by simp [hy]))
    have e : ints (x :: d) ++ rest = (x : Int) :: (ints d ++ rest) := rfl
    rw [List.length_cons, List.replicate_succ, rdL, rdS, e]
    dsimp only
    rw [rdv1 ⟨by omega, by omega⟩, rsv1, h1, h2]
    exact ⟨rfl, rfl⟩
theorem wrap64_in10 {v : Int} (h : -9223372036854775808 ≤ v ∧ v ≤ 9223372036854775807) : wrap64 v = v := by simp only [wrap64]; omega
/-- What is read of such bytes. -/
theorem read_byW (a b c e k l s : Int) (d t : List Nat) (hd : d.length = 16) (ht : t.length = 4) (hdb : ∀ x ∈ d, x < 256) (htb : ∀ x ∈ t, x < 256) :
    pH (byW a b c e k l s d t) = [wrap64 a, b % 256, c % 256, e % 256] ∧ pE (byW a b c e k l s d t) = k % 256 :: wrap64 l :: wrap64 s :: ints d ∧ pT (byW a b c e k l s d t) = ints t ∧ cod (byW a b c e k l s d t) = 0 := by
  obtain ⟨d1, d2⟩ := rd_row d 16 (ints t) hd hdb
  obtain ⟨t1, t2⟩ := rd_row t 4 [] ht htb
  rw [List.append_nil] at t1 t2
  have m1 : ∀ x : Int, 0 ≤ x % 256 ∧ x % 256 ≤ 255 := fun x => by omega
  have s1 : st1 (byW a b c e k l s d t) = ([k % 256] ++ (by8 8 (IntKind.u64.wrap l) ++ (by8 8 (IntKind.u64.wrap s) ++ (ints d ++ ints t))), 0) := by
    unfold st1 szH byW
    simp only [rdS, rs8, List.cons_append, rsv1, List.nil_append]
  have s2 : st2 (byW a b c e k l s d t) = (ints t, 0) := by
    unfold st2 szE
    rw [s1, rdS_app]
    simp only [rdS, rs8, List.cons_append, rsv1, List.nil_append]
    exact d2
  have s3 : st3 (byW a b c e k l s d t) = ([], 0) := by
    unfold st3 szT
    rw [s2]
    exact t2
  refine ⟨?_, ?_, ?_, ?_⟩
  · unfold pH szH byW
    simp only [rdL, rs8, rd8, List.cons_append, rsv1, List.nil_append, rdv1 (m1 _)]
  · unfold pE szE
    rw [s1, rdL_app]
    simp only [rdL, rdS, rs8, rd8, List.cons_append, rsv1, List.nil_append, rdv1 (m1 _)]
    rw [d1]
  · unfold pT szT
    rw [s2]
    exact t1
  · unfold cod
    rw [s3]
    simp
theorem ceH_all (s : List Int × Int) : ceH s 4 = headA ((rdL szH s).getD 0 0) ((rdL szH s).getD 1 0) ((rdL szH s).getD 2 0) ((rdL szH s).getD 3 0) := rfl
theorem stpH_all (s : List Int × Int) : stp zH s 4 = rdS szH s := rfl
theorem stpE_all (s : List Int × Int) : stp zE s 4 = rdS szE s := rfl
theorem stpT_all (s : List Int × Int) : stp zT s 1 = rdS szT s := rfl
theorem ints_drop10 (l : List Int) (h : ∀ z ∈ l, 0 ≤ z) : datL (nat10 l) = l.map (Value.int .u8) := by
  unfold datL
  rw [ints_nat10 h]
theorem csets_full (vs : List Value) : ∀ (cs : Array Value) (pre post : List Value) (n : Nat), pre.length = n → cs = (pre ++ post).toArray → post.length = vs.length → csets cs n vs = (pre ++ vs).toArray := by
  induction vs with
  | nil => intro cs pre post n _ h1 h2; rw [List.eq_nil_of_length_eq_zero h2] at h1; rw [h1]; rfl
  | cons v vs ih =>
    intro cs pre post n hn h1 h2
    subst hn
    match post, h2 with
    | p :: post, h2 =>
      rw [csets]
      have e : cs.setIfInBounds pre.length v = ((pre ++ [v]) ++ post).toArray := by
        rw [h1, List.setIfInBounds_toArray]
        congr 1
        rw [List.set_append_right _ _ (Nat.le_refl _), Nat.sub_self]
        simp
      rw [ih _ (pre ++ [v]) post _ (by simp) e (by simpa using h2)]
      simp
theorem ceE_all (s : List Int × Int) (h : Byt s.1) : ceE s 4 = entA ((rdL szE s).getD 0 0) ((rdL szE s).getD 1 0) ((rdL szE s).getD 2 0) (nat10 ((rdL szE s).drop 3)) := by
  have e3 : ceE s 3 = ([Value.int .i64 (rdV 1 (stp zE s 0).1), Value.int .i64 (rdV 8 (stp zE s 1).1), Value.int .i64 (rdV 8 (stp zE s 2).1)] ++ datL zer16).toArray := rfl
  have e4 : rdL szE s = [rdV 1 (stp zE s 0).1, rdV 8 (stp zE s 1).1, rdV 8 (stp zE s 2).1] ++ rdL (List.replicate 16 1) (stp zE s 3) := by
    unfold szE
    rw [rdL_app]
    rfl
  rw [ceE_last, csets_full _ _ [Value.int .i64 (rdV 1 (stp zE s 0).1), .int .i64 (rdV 8 (stp zE s 1).1), .int .i64 (rdV 8 (stp zE s 2).1)] (datL zer16) 3 rfl e3 (by rw [datL_len, zer16_len, List.length_map, rdL_len, List.length_replicate]), e4]
  unfold entA
  rw [List.drop_append_of_le_length (by simp), ints_drop10 _ (by
    intro z hz
    simp only [List.drop_succ_cons, List.drop_nil, List.nil_append] at hz
    exact (rd_ones (byt_stp 3 h) z hz).1)]
  rfl
theorem ceT_all (s : List Int × Int) (h : Byt s.1) : ceT s 1 = tailA (nat10 (rdL szT s)) := by
  have e3 : ceT s 0 = ([] ++ datL [0, 0, 0, 0]).toArray := rfl
  rw [ceT_last, csets_full _ _ [] (datL [0, 0, 0, 0]) 0 rfl e3 (by rw [datL_len, List.length_map, rdL_len, List.length_replicate]; rfl)]
  unfold tailA
  rw [ints_drop10 (rdL szT s) (fun z hz => (rd_ones (n := 4) h z hz).1)]
  rfl
end Go.Proofs.YtjdikhelabibnabGreat

namespace Go.Proofs.YtjdikhelabibnabGreat
open Go.RowKit Go.Shelf

theorem LayH.below {w w' : World} {L : Nat} {c : Nat → Nat} (h : LayH w L c) (k : Below w.heap.size w w') : LayH w' L c := h.keep k
theorem LayE.below {w w' : World} {L : Nat} {c : Nat → Nat} (h : LayE w L c) (k : Below w.heap.size w w') : LayE w' L c := h.keep k
theorem LayT.below {w w' : World} {L : Nat} {c : Nat → Nat} (h : LayT w L c) (k : Below w.heap.size w w') : LayT w' L c := h.keep k
/-- Such cells lie at block b. -/
structure AtB (w : World) (b : Nat) (cs : Array Value) (ty : TypeId) : Prop where
  blk : w.heap[b]? = some (.cells cs ty (0, 0))
theorem AtB.below {w w' : World} {b : Nat} {cs : Array Value} {ty : TypeId} (h : AtB w b cs ty) (k : Below w.heap.size w w') : AtB w' b cs ty := ⟨(k.block b (lt_of_block h.blk)).trans h.blk⟩
theorem lenH10 (x0 x1 x2 x3 : Int) : ([] ++ fin10 (owH x0 x1 x2 x3) 4).length = 11 := by simp [fin10, owH, by8_length]
theorem lenE10 (x0 x1 x2 x3 k l s : Int) (d : List Nat) (hd : d.length = 16) : (([] ++ fin10 (owH x0 x1 x2 x3) 4) ++ fin10 (owE k l s d) 4).length = 44 := by simp [fin10, owH, owE, by8_length, ints_len10, hd]

set_option maxRecDepth 100000 in
set_option maxHeartbeats 8000000 in
theorem bytes_any (x0 x1 x2 x3 k l s : Int) (d : List Nat) (hd : d.length = 16) (hdb : ∀ j, cf d j < 256) (w : World) : Calls Tryz.prog 26 #[.agg (headA x0 x1 x2 x3), .agg (entA k l s d)] w fun e w' =>
    ∃ a g c, e = .returned (.slice a 48 c) ∧ Row w' a g (byT x0 x1 x2 x3 k l s d) ∧ Below w.heap.size w w' := by
  obtain ⟨w1, hw1⟩ : ∃ w1, (w.alloc (.cells (headA x0 x1 x2 x3) 52)).alloc (.cells (entA k l s d) 46) = w1 := ⟨_, rfl⟩
  have HT : Hid (Below w.heap.size w w1) := by rw [← hw1]; exact ((Below.refl _ w).alloc (Nat.le_refl _) _).alloc (by simp) _
  have HBH : Hid (AtB w1 w.heap.size (headA x0 x1 x2 x3) 52) := ⟨by rw [← hw1]; exact (Below.heap_alloc _ _ _ (by simp)).trans (World.alloc_heap_new w _)⟩
  have HBE : Hid (AtB w1 (w.heap.size + 1) (entA k l s d) 46) := ⟨by
    rw [← hw1]
    have := World.alloc_heap_new (w.alloc (.cells (headA x0 x1 x2 x3) 52)) (.cells (entA k l s d) 46)
    rwa [World.size_alloc] at this⟩
  have HW := hide hw1
  clear hw1
  go_enter Tryz.func26, Tryz.ntmps26
  go_wp2_with fail
  rw [unhide HW]
  replace HT := hide ((unhide HT).drew)
  replace HBH := hide ((unhide HBH).below (Below.refl _ _).drew)
  replace HBE := hide ((unhide HBE).below (Below.refl _ _).drew)
  refine wp_region_noPanic ?_
  refine wp_region_held_drew (S := fun W => Below w1.drew.heap.size w1.drew W) (by kernel_rfl) (Below.refl _ _) (fun hHeld => ?_)
  have HH := hide hHeld
  clear hHeld
  generalize w1.drew = w11 at HT HBH HBE HH ⊢
  refine takeL (i := 1) (v := .agg (headA x0 x1 x2 x3)) rfl (by kernel_rfl) (by kernel_rfl) (by kernel_rfl) (fun _ _ _ h => h) (Or.inl ⟨by rfl, fun W1 hSW => run_load_agg9 rfl rfl (load_TH ((unhide HBH).below hSW).blk rfl)⟩) (unhide HH) ?_
  (try simp only [Act.put, List.setIfInBounds_toArray, List.set_cons_zero, List.set_cons_succ])
  refine wpAnyH_ready (rs := [0]) (by kernel_rfl) (by simp) ?_
  refine consL rfl (fun K hK => ?_) AllReadyH.nil
  go_simp
  refine (layH_any _).mono ?_
  rintro e w12 ⟨L12, c12, rfl, hly, -, -, hk⟩
  have HLY12 := hide hly
  clear hly
  replace HBH := hide ((unhide HBH).below hk)
  replace HBE := hide ((unhide HBE).below hk)
  replace HT := hide ((unhide HT).trans (hk.mono (unhide HT).size))
  refine hK.out _ _ hk (fun hHeld => ?_)
  clear hK K HH hHeld
  (try simp only [Act.put, List.setIfInBounds_toArray, List.set_cons_zero, List.set_cons_succ])
  refine stronger (S' := fun W => Below w12.heap.size w12 W) (fun W h => hk.trans (h.mono hk.size)) _ _ _ _ ?_
  have HH : Hid (Below w12.heap.size w12 w12) := Below.refl _ _
  clear hk
  refine wpAnyH_ready (rs := [2]) (by kernel_rfl) (by simp) ?_
  refine consL rfl (fun K hK => ?_) AllReadyH.nil
  go_simp
  refine (writeH_any L12 c12 x0 x1 x2 x3 none 0 0 0 [] _ (by omega) rfl (.inl rfl) (unhide HLY12)).mono ?_
  rintro e w13 ⟨a13, g13, d13, rfl, hrw, hk⟩
  obtain ⟨N13, hN13⟩ : ∃ N, ([] ++ fin10 (owH x0 x1 x2 x3) 4).length = N := ⟨_, rfl⟩
  have HRW13 := hide hrw
  have HN13 := hide hN13
  rw [hN13]
  clear hrw hN13
  replace HBH := hide ((unhide HBH).below hk)
  replace HBE := hide ((unhide HBE).below hk)
  replace HLY12 := hide ((unhide HLY12).below hk)
  replace HT := hide ((unhide HT).trans (hk.mono (unhide HT).size))
  refine hK.out _ _ hk (fun hHeld => ?_)
  clear hK K HH hHeld
  (try simp only [Act.put, List.setIfInBounds_toArray, List.set_cons_zero, List.set_cons_succ])
  refine stronger (S' := fun W => Below w13.heap.size w13 W) (fun W h => hk.trans (h.mono hk.size)) _ _ _ _ ?_
  have HH : Hid (Below w13.heap.size w13 w13) := Below.refl _ _
  clear hk
  refine takeL (i := 3) (v := ?_) rfl (by kernel_rfl) (by kernel_rfl) (by kernel_rfl) (fun _ _ _ h => h) (Or.inl ⟨by rfl, ?_⟩) (unhide HH) ?_
  rotate_left 1
  · intro W hSW; go_simp; all_goals (with_reducible rfl)
  (try simp only [Act.put, List.setIfInBounds_toArray, List.set_cons_zero, List.set_cons_succ])
  refine wpAnyH_done (by kernel_rfl) ?_ _
  refine NoPanic.normal ?_
  go_wp2_with fail
  replace HT := hide ((unhide HT).drew)
  replace HBH := hide ((unhide HBH).below (Below.refl _ _).drew)
  replace HBE := hide ((unhide HBE).below (Below.refl _ _).drew)
  replace HLY12 := hide ((unhide HLY12).below (Below.refl _ _).drew)
  replace HRW13 := hide ((unhide HRW13).below (Below.refl _ _).drew)
  refine wp_region_noPanic ?_
  refine wp_region_held_drew (S := fun W => Below w13.drew.heap.size w13.drew W) (by kernel_rfl) (Below.refl _ _) (fun hHeld => ?_)
  have HH := hide hHeld
  clear hHeld
  generalize w13.drew = w14 at HT HBH HBE HLY12 HRW13 HH ⊢
  refine takeL (i := 1) (v := ?_) rfl (by kernel_rfl) (by kernel_rfl) (by kernel_rfl) (fun _ _ _ h => h) (Or.inl ⟨by rfl, ?_⟩) (unhide HH) ?_
  rotate_left 1
  · intro W hSW; go_simp; all_goals (with_reducible rfl)
  (try simp only [Act.put, List.setIfInBounds_toArray, List.set_cons_zero, List.set_cons_succ])
  refine takeL (i := 2) (v := .agg (entA k l s d)) rfl (by kernel_rfl) (by kernel_rfl) (by kernel_rfl) (fun _ _ _ h => h) (Or.inl ⟨by rfl, fun W1 hSW => run_load_agg9 rfl rfl (load_TE ((unhide HBE).below hSW).blk (entA_size hd))⟩) (unhide HH) ?_
  (try simp only [Act.put, List.setIfInBounds_toArray, List.set_cons_zero, List.set_cons_succ])
  refine wpAnyH_ready (rs := [0]) (by kernel_rfl) (by simp) ?_
  refine consL rfl (fun K hK => ?_) AllReadyH.nil
  go_simp
  refine (layE_any _).mono ?_
  rintro e w15 ⟨L15, c15, rfl, hly, -, -, hk⟩
  have HLY15 := hide hly
  clear hly
  replace HBH := hide ((unhide HBH).below hk)
  replace HBE := hide ((unhide HBE).below hk)
  replace HLY12 := hide ((unhide HLY12).below hk)
  replace HRW13 := hide ((unhide HRW13).below hk)
  replace HT := hide ((unhide HT).trans (hk.mono (unhide HT).size))
  refine hK.out _ _ hk (fun hHeld => ?_)
  clear hK K HH hHeld
  (try simp only [Act.put, List.setIfInBounds_toArray, List.set_cons_zero, List.set_cons_succ])
  refine stronger (S' := fun W => Below w15.heap.size w15 W) (fun W h => hk.trans (h.mono hk.size)) _ _ _ _ ?_
  have HH : Hid (Below w15.heap.size w15 w15) := Below.refl _ _
  clear hk
  refine wpAnyH_ready (rs := [3]) (by kernel_rfl) (by simp) ?_
  refine consL rfl (fun K hK => ?_) AllReadyH.nil
  go_simp
  refine (writeE_any L15 c15 k l s d hd hdb a13 g13 N13 d13 ([] ++ fin10 (owH x0 x1 x2 x3) 4) _ (by have := unhide HN13; have := lenH10 x0 x1 x2 x3; omega) (unhide HN13) (unhide HRW13) (unhide HLY15)).mono ?_
  rintro e w16 ⟨a16, g16, d16, rfl, hrw, hk⟩
  obtain ⟨N16, hN16⟩ : ∃ N, (([] ++ fin10 (owH x0 x1 x2 x3) 4) ++ fin10 (owE k l s d) 4).length = N := ⟨_, rfl⟩
  have HRW16 := hide hrw
  have HN16 := hide hN16
  rw [hN16]
  clear hrw hN16
  replace HBH := hide ((unhide HBH).below hk)
  replace HBE := hide ((unhide HBE).below hk)
  replace HLY12 := hide ((unhide HLY12).below hk)
  replace HRW13 := hide ((unhide HRW13).below hk)
  replace HLY15 := hide ((unhide HLY15).below hk)
  replace HT := hide ((unhide HT).trans (hk.mono (unhide HT).size))
  refine hK.out _ _ hk (fun hHeld => ?_)
  clear hK K HH hHeld
  (try simp only [Act.put, List.setIfInBounds_toArray, List.set_cons_zero, List.set_cons_succ])
  refine stronger (S' := fun W => Below w16.heap.size w16 W) (fun W h => hk.trans (h.mono hk.size)) _ _ _ _ ?_
  have HH : Hid (Below w16.heap.size w16 w16) := Below.refl _ _
  clear hk
  refine takeL (i := 4) (v := ?_) rfl (by kernel_rfl) (by kernel_rfl) (by kernel_rfl) (fun _ _ _ h => h) (Or.inl ⟨by rfl, ?_⟩) (unhide HH) ?_
  rotate_left 1
  · intro W hSW; go_simp; all_goals (with_reducible rfl)
  (try simp only [Act.put, List.setIfInBounds_toArray, List.set_cons_zero, List.set_cons_succ])
  refine wpAnyH_done (by kernel_rfl) ?_ _
  refine NoPanic.normal ?_
  go_wp2_with fail
  refine (layT_any _).mono ?_
  rintro e w17 ⟨L17, c17, rfl, hly, -, -, hk⟩
  have HLY17 := hide hly
  clear hly
  replace HBH := hide ((unhide HBH).below hk)
  replace HBE := hide ((unhide HBE).below hk)
  replace HLY12 := hide ((unhide HLY12).below hk)
  replace HRW13 := hide ((unhide HRW13).below hk)
  replace HLY15 := hide ((unhide HLY15).below hk)
  replace HRW16 := hide ((unhide HRW16).below hk)
  replace HT := hide ((unhide HT).trans (hk.mono (unhide HT).size))
  clear hk
  go_wp2_with fail
  refine (writeT_any L17 c17 [0, 0, 0, 0] rfl (by intro j; match j with | 0 => decide | 1 => decide | 2 => decide | 3 => decide | j + 4 => simp [cf]) a16 g16 N16 d16 (([] ++ fin10 (owH x0 x1 x2 x3) 4) ++ fin10 (owE k l s d) 4) _ (by have := unhide HN16; have := lenE10 x0 x1 x2 x3 k l s d hd; omega) (unhide HN16) (unhide HRW16) (unhide HLY17)).mono ?_
  rintro e w18 ⟨a18, g18, d18, rfl, hrw, hk⟩
  obtain ⟨N18, hN18⟩ : ∃ N, ((([] ++ fin10 (owH x0 x1 x2 x3) 4) ++ fin10 (owE k l s d) 4) ++ fin10 (owT [0, 0, 0, 0]) 1).length = N := ⟨_, rfl⟩
  have HRW18 := hide hrw
  have HN18 := hide hN18
  rw [hN18]
  clear hrw hN18
  replace HBH := hide ((unhide HBH).below hk)
  replace HBE := hide ((unhide HBE).below hk)
  replace HLY12 := hide ((unhide HLY12).below hk)
  replace HRW13 := hide ((unhide HRW13).below hk)
  replace HLY15 := hide ((unhide HLY15).below hk)
  replace HRW16 := hide ((unhide HRW16).below hk)
  replace HLY17 := hide ((unhide HLY17).below hk)
  replace HT := hide ((unhide HT).trans (hk.mono (unhide HT).size))
  clear hk
  go_wp2
  go_ret
  have hf := fin_all x0 x1 x2 x3 k l s d
  have hf' : (([] ++ fin10 (owH x0 x1 x2 x3) 4) ++ fin10 (owE k l s d) 4) ++ fin10 (owT [0, 0, 0, 0]) 1 = byT x0 x1 x2 x3 k l s d := hf
  have hr9 := unhide HRW18
  have hn9 := unhide HN18
  rw [hf'] at hr9 hn9
  have hN : N18 = 48 := by rw [← hn9]; exact byW_len hd rfl
  subst hN
  exact ⟨_, _, _, rfl, hr9, unhide HT⟩
end Go.Proofs.YtjdikhelabibnabGreat
