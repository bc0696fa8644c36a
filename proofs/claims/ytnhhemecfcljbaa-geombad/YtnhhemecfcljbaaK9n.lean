/-
  What GeomBad wants: how good blocks become fewer; places appended three by three; which were seen.
-/
import Derived.Test.YtnhhemecfcljbaaK9m
namespace Go.Proofs.Ytnhhemecfcljbaa
open Go.RowKit Go.Shelf

theorem gdL_none9 (d : Int) (B : Nat) : (gdL d B []).length = B := by
  have h : gdL d B [] = List.range B := by unfold gdL; simp
  rw [h, List.length_range]
theorem gdL_congr {d : Int} {N : Nat} {bad bad' : List (Int × Int)} (h : ∀ b : Nat, b < N → ((d, (b : Int)) ∈ bad ↔ (d, (b : Int)) ∈ bad')) : gdL d N bad = gdL d N bad' := by
  unfold gdL
  refine List.filter_congr (fun b hb => ?_)
  rw [decide_eq_decide.2 (h b (List.mem_range.1 hb))]
theorem gdL_add (d : Int) (k : Nat) (bl : List (Int × Int)) : ∀ N : Nat, (gdL d N (bl ++ [(d, (k : Int))])).length + (if k < N ∧ (d, (k : Int)) ∉ bl then 1 else 0) = (gdL d N bl).length := by
  intro N
  induction N with
  | zero => rw [if_neg (by omega)]; rfl
  | succ N ih =>
    rw [gdL_succ, gdL_succ, List.length_append, List.length_append, ← ih]
    by_cases hN : (d, (N : Int)) ∈ bl
    · rw [if_pos (List.mem_append_left _ hN), if_pos hN]
      by_cases hk : (d, (k : Int)) ∈ bl
      · rw [if_neg (fun h => h.2 hk), if_neg (fun h => h.2 hk)]; simp
      · have hne : k ≠ N := fun e => hk (by rw [e]; exact hN)
        by_cases h1 : k < N
        · rw [if_pos ⟨by omega, hk⟩, if_pos ⟨h1, hk⟩]; simp
        · rw [if_neg (by omega), if_neg (by omega)]; simp
    · by_cases he : k = N
      · subst he
        rw [if_pos (List.mem_append_right _ (List.mem_singleton.2 rfl)), if_neg hN, if_pos ⟨by omega, hN⟩, if_neg (by omega)]
        simp
      · have hm : (d, (N : Int)) ∉ bl ++ [(d, (k : Int))] := fun h => by
          rcases List.mem_append.1 h with h | h
          · exact hN h
          · have h2 := List.mem_singleton.1 h
            rw [Prod.mk.injEq] at h2
            omega
        rw [if_neg hm, if_neg hN]
        by_cases hk : (d, (k : Int)) ∈ bl
        · rw [if_neg (fun h => h.2 hk), if_neg (fun h => h.2 hk)]; simp
        · by_cases h1 : k < N
          · rw [if_pos ⟨by omega, hk⟩, if_pos ⟨h1, hk⟩]; simp
          · rw [if_neg (by omega), if_neg (by omega)]; simp
theorem gdL_pre (d : Int) (bad : List (Int × Int)) (b t : Nat) : ∃ r, gdL d (b + t) bad = gdL d b bad ++ r := by
  induction t with
  | zero => exact ⟨[], by simp⟩
  | succ t ih =>
    obtain ⟨r, hr⟩ := ih
    rw [show b + (t + 1) = b + t + 1 from rfl, gdL_succ, hr, List.append_assoc]
    exact ⟨_, rfl⟩
theorem gdL_pick {d : Int} {b N : Nat} {bad : List (Int × Int)} (hb : b < N) (hn : (d, (b : Int)) ∉ bad) : (gdL d b bad).length < (gdL d N bad).length ∧ cf (gdL d N bad) (gdL d b bad).length = b := by
  obtain ⟨r, hr⟩ := gdL_pre d bad (b + 1) (N - (b + 1))
  rw [show b + 1 + (N - (b + 1)) = N from by omega, gdL_succ, if_neg hn] at hr
  have hl : (gdL d b bad).length < (gdL d N bad).length := by rw [hr]; simp
  refine ⟨hl, ?_⟩
  have h1 := cf_get hl
  have h2 : (gdL d N bad)[(gdL d b bad).length]? = some b := by
    rw [hr, List.append_assoc, List.getElem?_append_right (Nat.le_refl _), Nat.sub_self]
    rfl
  rw [h2] at h1
  exact (Option.some.inj h1).symm
/-- The blocks of which the list of bad ones says something. -/
structure Bad9 (d : Nat) (bl bad : List (Int × Int)) : Prop where
  has : ∀ p ∈ bl, p ∈ bad
  own : ∀ p ∈ bl, p.1 = (d : Int) ∧ 0 ≤ p.2 ∧ p.2 < 12
  out : ∀ p ∈ bad, p ∈ bl ∨ ¬ ((0 ≤ p.1 ∧ p.1 < 6) ∧ 0 ≤ p.2 ∧ p.2 < 12) ∨ (p.1 = (d : Int) ∧ 12 ≤ p.2)
theorem Bad9.more {d : Nat} {bl bad : List (Int × Int)} (h : Bad9 d bl bad) {p q r : Int × Int} (hp : ¬ ((0 ≤ p.1 ∧ p.1 < 6) ∧ 0 ≤ p.2 ∧ p.2 < 12) ∨ (p.1 = (d : Int) ∧ 12 ≤ p.2)) (hq : ¬ ((0 ≤ q.1 ∧ q.1 < 6) ∧ 0 ≤ q.2 ∧ q.2 < 12) ∨ (q.1 = (d : Int) ∧ 12 ≤ q.2)) (hr : ¬ ((0 ≤ r.1 ∧ r.1 < 6) ∧ 0 ≤ r.2 ∧ r.2 < 12) ∨ (r.1 = (d : Int) ∧ 12 ≤ r.2)) : Bad9 d bl (bad ++ [p, q, r]) :=
  ⟨fun x hx => List.mem_append_left _ (h.has x hx), h.own, fun x hx => by
    rcases List.mem_append.1 hx with h1 | h1
    · exact h.out x h1
    · simp only [List.mem_cons, List.not_mem_nil, or_false] at h1
      rcases h1 with rfl | rfl | rfl
      · exact .inr hp
      · exact .inr hq
      · exact .inr hr⟩
theorem Bad9.mem {d : Nat} {bl bad : List (Int × Int)} (h : Bad9 d bl bad) (hd : d < 6) {b : Nat} (hb : b < 12) : (((d : Int), (b : Int)) ∈ bad ↔ ((d : Int), (b : Int)) ∈ bl) := by
  refine ⟨fun hm => ?_, h.has _⟩
  rcases h.out _ hm with h1 | h1 | h1
  · exact h1
  · exact absurd ⟨⟨by simp, by simp; omega⟩, by simp, by simp; omega⟩ h1
  · have := h1.2
    simp at this
    omega
theorem Bad9.other {d d' : Nat} {bl bad : List (Int × Int)} (h : Bad9 d bl bad) (hd' : d' < 6) (hne : d' ≠ d) {b : Nat} (hb : b < 12) : ((d' : Int), (b : Int)) ∉ bad := fun hm => by
  rcases h.out _ hm with h1 | h1 | h1
  · have := (h.own _ h1).1
    simp at this
    omega
  · exact absurd ⟨⟨by simp, by simp; omega⟩, by simp, by simp; omega⟩ h1
  · have := h1.1
    simp at this
    omega
theorem Bad9.die {d : Nat} {bl bad : List (Int × Int)} (h : Bad9 d bl bad) (hd : d < 6) (b : Nat) (hb : b ≤ 12) : gdL (d : Int) b bad = gdL (d : Int) b bl := gdL_congr (fun c hc => h.mem hd (by omega))
theorem Bad9.all {d d' : Nat} {bl bad : List (Int × Int)} (h : Bad9 d bl bad) (hd' : d' < 6) (hne : d' ≠ d) : gdL (d' : Int) 12 bad = List.range 12 := by
  rw [gdL_congr (bad' := []) (fun c hc => ⟨fun hm => absurd hm (h.other hd' hne hc), fun hm => by cases hm⟩)]
  unfold gdL
  simp
theorem Bad9.sn {d n : Nat} {bl bad : List (Int × Int)} (h : Bad9 d bl bad) (hd : d < 6) (hn : n + (gdL (d : Int) 12 bl).length = 12) : sn9 6 12 bad + n = 12 := by
  have h1 := sn9_le_die (D := 6) (B := 12) (bad := bad) hd
  rw [h.die hd 12 (Nat.le_refl _)] at h1
  have h2 := sn9_le 6 12 bad
  rcases sn9_ex 6 12 bad with h3 | ⟨d', hd', h3⟩
  · omega
  · by_cases e : d' = d
    · rw [e, h.die hd 12 (Nat.le_refl _)] at h3; omega
    · rw [h.all hd' e] at h3
      simp at h3
      omega
theorem cf_range9 {n i : Nat} (h : i < n) : cf (List.range n) i = i := by
  have h1 : i < (List.range n).length := by simpa using h
  have h2 := cf_get h1
  rw [List.getElem?_range h] at h2
  exact (Option.some.inj h2).symm
/-- The items that the law looks at. -/
theorem Bad9.item {d n : Nat} {bl bad : List (Int × Int)} (h : Bad9 d bl bad) (hd : d < 6) (hn : n + (gdL (d : Int) 12 bl).length = 12) {b : Nat} (hb : b < 12) (hbl : ((d : Int), (b : Int)) ∉ bl) :
    (gdL (d : Int) b bl).length < sn9 6 12 bad ∧ cf ((sup9 6 12 bad).getD (gdL (d : Int) b bl).length []) d = b ∧ cf ((sup9 6 12 bad).getD (gdL (d : Int) b bl).length []) ((d + 1) % 6) = (gdL (d : Int) b bl).length := by
  obtain ⟨h1, h2⟩ := gdL_pick hb hbl
  have hsn := h.sn hd hn
  have hlt : (gdL (d : Int) b bl).length < sn9 6 12 bad := by omega
  refine ⟨hlt, ?_, ?_⟩
  · rw [sup9_row hlt, rk9_cf hd, h.die hd 12 (Nat.le_refl _)]
    exact h2
  · have hd2 : (d + 1) % 6 < 6 := Nat.mod_lt _ (by omega)
    rw [sup9_row hlt, rk9_cf hd2, h.all hd2 (by omega)]
    exact cf_range9 (by omega)

theorem OwnP.keepB {base : Nat} {w w' : World} {v : Value} {l : List (Int × Int)} (h : OwnP base w v l) (k : ∀ b, base ≤ b → b < w.heap.size → w'.heap[b]? = w.heap[b]?) : OwnP base w' v l := by
  refine ⟨h.1, ?_⟩
  rcases h.2 with h' | ⟨g, cap, cur, h1, h2, h3, h4⟩
  · exact .inl h'
  · exact .inr ⟨g, cap, cur, h1, h2, (k g h2 (lt_of_block h3)).trans h3, h4⟩
theorem RowC.congr9 {w : World} {g n : Nat} {e : TypeId} {f f' : Nat → Value} (h : RowC w g e n f) (hf : ∀ i, i < n → f i = f' i) : RowC w g e n f' := by
  obtain ⟨cur, h1, h2⟩ := h
  exact ⟨cur, h1, fun i hi => by rw [h2 i hi, hf i hi]⟩
set_option maxRecDepth 100000 in
theorem run_append_six (w : World) (base : Nat) (ty : TypeId) (v : Value) (l : List (Int × Int)) (hown : OwnP base w v l) (g : Nat) (p q r : Int × Int) (hb9 : w.heap[g]? = some (.cells #[.int .i64 p.1, .int .i64 p.2, .int .i64 q.1, .int .i64 q.2, .int .i64 r.1, .int .i64 r.2] 39 (0, 0))) (hb : l.length ≤ 1000) (hbase : base ≤ w.heap.size) :
    ∃ v' w', (Builtin.append_ #[24, 24] ty #[v, .slice (some ⟨g, 0, none⟩) 3 3]).run Try.prog w = .ok v' w' ∧ OwnP base w' v' (l ++ [p, q, r]) ∧ w.grownBy w' v.ownBlock := by
  obtain ⟨i0, hi0, hz0, hz1, hz2⟩ := info_parts infoTA
  obtain ⟨v', w', h1, h2, h3, _⟩ := run_append_own (P := Try.prog) w base 24 ty 39 i0 (.agg #[.int .i64 0, .int .i64 0]) 2 16 Try.underlying24 hi0 hz0 hz1 hz2 rfl (by decide) v _ _ hown ⟨g, 0, none⟩ 3 3 [.int .i64 p.1, .int .i64 p.2, .int .i64 q.1, .int .i64 q.2, .int .i64 r.1, .int .i64 r.2] (by simp) (by
    intro j u hu
    rw [Addr.add_lit, Nat.zero_add]
    refine cell_blk hb9 ?_
    match j, hu with
    | 0, hu => exact hu
    | 1, hu => exact hu
    | 2, hu => exact hu
    | 3, hu => exact hu
    | 4, hu => exact hu
    | 5, hu => exact hu
    | j + 6, hu => simp at hu) (by
    intro u hu
    simp at hu
    rcases hu with rfl | rfl | rfl | rfl | rfl | rfl <;> rfl) (by unfold maxLen; omega) (by omega) hbase
  refine ⟨v', w', h1, ?_, h3⟩
  unfold OwnP
  rw [List.length_append, List.flatMap_append]
  exact h2
theorem zeroTB (w : World) : (zeroValue 43).run Try.prog w = .ok (.agg (Array.replicate 12 (.bool false))) w := by kernel_rfl

end Go.Proofs.Ytnhhemecfcljbaa
