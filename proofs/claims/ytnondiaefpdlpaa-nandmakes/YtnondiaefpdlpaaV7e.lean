/-
  nand.New.
-/
import Derived.Test.YtnondiaefpdlpaaV7d
namespace Go.Proofs.Ytnondiaefpdlpaa
open Go.RowKit Go.Shelf

set_option maxRecDepth 100000 in
set_option maxHeartbeats 2000000 in
theorem nwithin_any (n a b : Int) (w : World) : Calls Try.prog 56 #[.int .i64 n, .int .i64 a, .int .i64 b] w fun e w' => e = .returned (.bool (decide (a ≤ n ∧ n ≤ b))) ∧ w' = w := by
  by_cases h1 : a ≤ n
  · by_cases h2 : n ≤ b
    · rw [decide_eq_true (⟨h1, h2⟩ : a ≤ n ∧ n ≤ b)]
      go_enter Try.func56, Try.ntmps56
      go_wp2_with fail
      go_ret
      exact ⟨rfl, rfl⟩
    · rw [decide_eq_false (fun h : a ≤ n ∧ n ≤ b => h2 h.2)]
      have h3 : b < n := by omega
      go_enter Try.func56, Try.ntmps56
      go_wp2_with fail
      go_ret
      exact ⟨rfl, rfl⟩
  · rw [decide_eq_false (fun h : a ≤ n ∧ n ≤ b => h1 h.1)]
    have h3 : n < a := by omega
    go_enter Try.func56, Try.ntmps56
    go_wp2_with fail
    go_ret
    exact ⟨rfl, rfl⟩

/-- A geometry that may be. -/
def okG (D B P : Int) : Prop := (6 ≤ D ∧ D ≤ 8) ∧ (8 ≤ B ∧ B ≤ 12) ∧ 4 ≤ P ∧ P ≤ 8
instance (D B P : Int) : Decidable (okG D B P) := by unfold okG; infer_instance

set_option maxRecDepth 100000 in
set_option maxHeartbeats 2000000 in
theorem allowed_any (D B P : Int) (w : World) : Calls Try.prog 32 #[.agg #[.int .i64 D, .int .i64 B, .int .i64 P]] w fun e w' => e = .returned (.bool (decide (okG D B P))) ∧ Below w.heap.size w w' := by
  obtain ⟨W, hW⟩ : ∃ W, w.alloc (.cells #[.int .i64 D, .int .i64 B, .int .i64 P] 23) = W := ⟨_, rfl⟩
  have hn : W.heap[w.heap.size]? = some (.cells #[.int .i64 D, .int .i64 B, .int .i64 P] 23 (0, 0)) := by rw [← hW]; exact World.alloc_heap_new w _
  have c0 : W.cell? ⟨w.heap.size, 0, none⟩ = some (.int .i64 D) := cell_blk hn rfl
  have c1 : W.cell? ⟨w.heap.size, 1, none⟩ = some (.int .i64 B) := cell_blk hn rfl
  have c2 : W.cell? ⟨w.heap.size, 2, none⟩ = some (.int .i64 P) := cell_blk hn rfl
  have HB : Hid (Below w.heap.size w W) := by rw [← hW]; exact (Below.refl _ _).alloc (Nat.le_refl _) _
  have HC1 := hide c1
  have HC2 := hide c2
  clear hn c1 c2
  by_cases h1 : 6 ≤ D ∧ D ≤ 8
  · by_cases h2 : 8 ≤ B ∧ B ≤ 12
    · have e3 : decide (okG D B P) = decide (4 ≤ P ∧ P ≤ 8) := by
        by_cases h3 : 4 ≤ P ∧ P ≤ 8
        · rw [decide_eq_true h3, decide_eq_true (show okG D B P from ⟨h1, h2, h3⟩)]
        · rw [decide_eq_false h3, decide_eq_false (show ¬ okG D B P from fun h => h3 h.2.2)]
      rw [e3]
      obtain ⟨b3, hb3⟩ : ∃ b, decide (4 ≤ P ∧ P ≤ 8) = b := ⟨_, rfl⟩
      rw [hb3]
      have E3 := hide hb3
      clear hb3
      have e1 := decide_eq_true h1
      have e2 := decide_eq_true h2
      have E1 := hide e1
      have E2 := hide e2
      clear e1 e2 e3 h1 h2
      go_enter Try.func32, Try.ntmps32
      go_wp2_with fail
      refine (nwithin_any _ _ _ W).mono ?_
      rintro e W ⟨rfl, rfl⟩
      rw [unhide E1]
      have c1 := unhide HC1
      go_wp2_with fail
      refine (nwithin_any _ _ _ W).mono ?_
      rintro e W ⟨rfl, rfl⟩
      rw [unhide E2]
      have c2 := unhide HC2
      go_wp2_with fail
      refine (nwithin_any _ _ _ W).mono ?_
      rintro e W ⟨rfl, rfl⟩
      rw [unhide E3]
      go_wp2_with fail
      go_ret
      exact ⟨rfl, unhide HB⟩
    · have e3 : decide (okG D B P) = false := decide_eq_false (fun h => h2 h.2.1)
      rw [e3]
      have e1 := decide_eq_true h1
      have e2 := decide_eq_false h2
      have E1 := hide e1
      have E2 := hide e2
      clear e1 e2 e3 h1 h2
      go_enter Try.func32, Try.ntmps32
      go_wp2_with fail
      refine (nwithin_any _ _ _ W).mono ?_
      rintro e W ⟨rfl, rfl⟩
      rw [unhide E1]
      have c1 := unhide HC1
      go_wp2_with fail
      refine (nwithin_any _ _ _ W).mono ?_
      rintro e W ⟨rfl, rfl⟩
      rw [unhide E2]
      go_wp2_with fail
      go_ret
      exact ⟨rfl, unhide HB⟩
  · have e3 : decide (okG D B P) = false := decide_eq_false (fun h => h1 h.1)
    rw [e3]
    have E1 := hide (decide_eq_false h1)
    clear e3 h1
    go_enter Try.func32, Try.ntmps32
    go_wp2_with fail
    refine (nwithin_any _ _ _ W).mono ?_
    rintro e W ⟨rfl, rfl⟩
    rw [unhide E1]
    go_wp2_with fail
    go_ret
    exact ⟨rfl, unhide HB⟩

/-- Flash that is blank, but for those that are bad. -/
def blank (D B P : Nat) (bad : Nat → Nat → Bool) : Nd := { D, B, P, bad, next := fun _ _ => 0, era := fun _ _ => 0, held := fun _ _ _ => ones60, noise := fun _ _ _ => [], left := 0, mask := [], dead := false, ops := 0, wrong := 0 }
theorem blank_ok {D B P : Nat} (bad : Nat → Nat → Bool) (hD : D ≤ 8) (hB : B ≤ 12) (hP : P ≤ 8) : (blank D B P bad).Ok := ⟨hD, hB, hP, fun _ _ _ => ones60_len, fun _ _ _ => ones60_bs, fun _ _ => Nat.zero_le _, Nat.zero_le _⟩

theorem NA.made {m : Nat} {w : World} {n g D B P M : Nat} {bs : Nat → Nat} {ps : Nat → Nat → Nat} {hv : Nat → Nat → Nat → Value} (h : DiesAt w (fun _ => True) M g D B P bs ps hv) (hD : D ≤ 8) (hB : B ≤ 12) (hP : P ≤ 8) (hM : m ≤ M) (hn : m ≤ n) (hg : m ≤ g)
    (htop : w.heap[n]? = some (.cells #[.int .i64 (D : Int), .int .i64 (B : Int), .int .i64 (P : Int), .slice (some ⟨g, 0, none⟩) D D, .bool false, .int .i64 0, .slice none 0 0, .int .i64 0, .int .i64 0] 65 (0, 0))) :
    NA m w { n, ds := g, bs, ps, hv, nv := fun _ _ _ => .slice none 0 0, mv := .slice none 0 0 } (blank D B P (fun _ _ => false)) where
  ok := blank_ok _ hD hB hP
  top := htop
  dies := by obtain ⟨cur, h1, h2⟩ := h.cells; exact ⟨cur, h1, fun d hd => by obtain ⟨v, h3, h4⟩ := h2 d hd; rw [h3, h4 trivial]; rfl⟩
  blocks := fun d hd => by
    obtain ⟨cur, h1, h2⟩ := (h.die d hd trivial).cells
    refine ⟨cur, h1, fun b hb j hj => ?_⟩
    obtain ⟨g1, ⟨v, g2, g3⟩, g4, g5⟩ := h2 b hb
    match j, hj with
    | 0, _ => exact g1
    | 1, _ => rw [g2, g3 trivial]; rfl
    | 2, _ => exact g4
    | 3, _ => exact g5
  pages := fun d b hd hb => by
    obtain ⟨cur, h1, h2⟩ := (h.die d hd trivial).pages b hb trivial
    refine ⟨cur, h1, fun p hp j hj => ?_⟩
    match j, hj with
    | 0, _ => exact (h2 p hp).1
    | 1, _ => exact (h2 p hp).2
  hold := fun d b p hd hb hp => ((h.die d hd trivial).held b hb trivial p hp).low
  nois := fun d b p hd hb hp => ⟨[], OwnI.nil 0 w, by simp, fun _ _ _ => rfl⟩
  msk := ⟨[], .inl ⟨rfl, rfl⟩, Bs.nil, by simp, fun h => absurd rfl h⟩
  inj1 := fun d d' hd hd' e => h.inj1 d d' hd hd' trivial trivial e
  inj2 := fun d b d' b' hd hb hd' hb' e => h.inj2 d b d' b' hd hb hd' hb' trivial trivial e
  low0 := hn
  low1 := hg
  low2 := fun d hd => Nat.le_trans hM (h.low d hd trivial)
  low3 := fun d b hd hb => Nat.le_trans hM ((h.die d hd trivial).low b hb trivial)

/-- Places (die, block) in memory. -/
structure PArg (w : World) (v : Value) (g : Nat) (l : List (Int × Int)) : Prop where
  ex : ∃ ao c, v = .slice ao l.length c ∧ l.length ≤ c ∧ c ≤ maxLen ∧ (l ≠ [] → ∃ o, ao = some ⟨g, o, none⟩ ∧ ∀ i, i < l.length → w.cell? ⟨g, o + i * 2, none⟩ = some (.int .i64 (l.getD i (0, 0)).1) ∧ w.cell? ⟨g, o + i * 2 + 1, none⟩ = some (.int .i64 (l.getD i (0, 0)).2))
theorem PArg.below {w w' : World} {v : Value} {g m : Nat} {l : List (Int × Int)} (h : PArg w v g l) (k : Below m w w') (hm : l ≠ [] → g < m) : PArg w' v g l := by
  obtain ⟨ao, c, h1, h2, h3, h4⟩ := h
  refine ⟨ao, c, h1, h2, h3, fun hne => ?_⟩
  obtain ⟨o, h5, h6⟩ := h4 hne
  exact ⟨o, h5, fun i hi => ⟨(k.cell (hm hne)).trans (h6 i hi).1, (k.cell (hm hne)).trans (h6 i hi).2⟩⟩
theorem PArg.nil (w : World) : PArg w (.slice none 0 0) 0 [] := ⟨none, 0, rfl, by simp, by simp, fun h => absurd rfl h⟩
theorem PArg.lt {w : World} {v : Value} {g : Nat} {l : List (Int × Int)} (h : PArg w v g l) (hne : l ≠ []) : g < w.heap.size := by
  obtain ⟨ao, c, h1, h2, h3, h4⟩ := h
  obtain ⟨o, h5, h6⟩ := h4 hne
  exact block_lt_of_cell (h6 0 (List.length_pos_iff.2 hne)).1

/-- All these blocks are there. -/
def okB (D B : Int) (l : List (Int × Int)) : Prop := ∀ p ∈ l, (0 ≤ p.1 ∧ p.1 < D) ∧ 0 ≤ p.2 ∧ p.2 < B
instance (D B : Int) (l : List (Int × Int)) : Decidable (okB D B l) := by unfold okB; infer_instance
def badOf (l : List (Int × Int)) (d b : Nat) : Bool := decide (((d : Int), (b : Int)) ∈ l)

theorem badOf_snoc {l : List (Int × Int)} {i : Nat} (hi : i < l.length) (d b : Nat) : badOf (l.take (i + 1)) d b = if ((d : Int), (b : Int)) = l.getD i (0, 0) then true else badOf (l.take i) d b := by
  have e : l.take (i + 1) = l.take i ++ [l.getD i (0, 0)] := by
    rw [List.take_succ_eq_append_getElem hi, List.getD_eq_getElem?_getD, List.getElem?_eq_getElem hi]; rfl
  unfold badOf
  rw [e]
  by_cases h : ((d : Int), (b : Int)) = l.getD i (0, 0)
  · rw [if_pos h]; simp [h]
  · rw [if_neg h]
    exact decide_eq_decide.2 ⟨fun hm => (List.mem_append.1 hm).resolve_right (fun h2 => h (List.mem_singleton.1 h2)), fun hm => List.mem_append_left _ hm⟩

theorem okB_snoc {D B : Int} {l : List (Int × Int)} {i : Nat} (hi : i < l.length) : okB D B (l.take (i + 1)) ↔ okB D B (l.take i) ∧ ((0 ≤ (l.getD i (0, 0)).1 ∧ (l.getD i (0, 0)).1 < D) ∧ 0 ≤ (l.getD i (0, 0)).2 ∧ (l.getD i (0, 0)).2 < B) := by
  have e : l.take (i + 1) = l.take i ++ [l.getD i (0, 0)] := by
    rw [List.take_succ_eq_append_getElem hi, List.getD_eq_getElem?_getD, List.getElem?_eq_getElem hi]; rfl
  unfold okB
  rw [e]
  constructor
  · intro h
    exact ⟨fun p hp => h p (List.mem_append_left _ hp), h _ (List.mem_append_right _ (List.mem_singleton.2 rfl))⟩
  · rintro ⟨h1, h2⟩ p hp
    rcases List.mem_append.1 hp with h | h
    · exact h1 p h
    · rw [List.mem_singleton.1 h]; exact h2

set_option maxRecDepth 100000 in
set_option maxHeartbeats 4000000 in
theorem new_not (D B P : Int) (v : Value) (w : World) (h : ¬ okG D B P) : Calls Try.prog 12 #[.agg #[.int .i64 D, .int .i64 B, .int .i64 P], v] w fun e w' => e = .returned (.tuple #[.pointer none, .int .i64 1]) ∧ Below w.heap.size w w' := by
  have HO := hide (decide_eq_false h)
  have HB : Hid (Below w.heap.size w (w.alloc (.cells #[.int .i64 D, .int .i64 B, .int .i64 P] 23))) := (Below.refl _ _).alloc (Nat.le_refl _) _
  clear h
  go_enter Try.func12, Try.ntmps12
  go_wp2_with fail
  refine (allowed_any _ _ _ _).mono ?_
  rintro e W2 ⟨rfl, hb⟩
  rw [unhide HO]
  have HB2 := hide ((unhide HB).trans (hb.mono (unhide HB).size))
  clear hb
  go_wp2_with fail
  go_returns
  exact ⟨rfl, unhide HB2⟩

end Go.Proofs.Ytnondiaefpdlpaa
