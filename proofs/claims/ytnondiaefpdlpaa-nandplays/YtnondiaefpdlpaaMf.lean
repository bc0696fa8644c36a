/-
  nand.blankDies.
  nand.New.
-/
import Derived.Test.YtnondiaefpdlpaaMe
import Derived.Test.YtnondiaefpdlpaaRz
namespace Go.Proofs.Ytnondiaefpdlpaa
open Go.RowKit Go.Shelf
attribute [local go_sem] Oper.semAt_some

theorem infoD : (Try.prog.info? 105).map (fun i => (i.zero, i.size, i.bytes)) = some (some (.slice none 0 0), 1, 24) := by kernel_rfl
theorem infoB : (Try.prog.info? 71).map (fun i => (i.zero, i.size, i.bytes)) = some (some (.agg #[.bool false, .slice none 0 0, .int .i64 0, .int .i64 0]), 4, 48) := by kernel_rfl

theorem made_dies (D : Nat) (w : World) : ∃ cs : Array Value, (D ≤ 1000 → (Instr.makeSlice 60 (.int .i64 (D : Int)) (.int .i64 (D : Int))).run Try.prog w = .ok (.slice (some ⟨w.heap.size, 0, none⟩) D D) (w.alloc (.cells cs 105))) ∧ ∀ d, d < D → cs[d]? = some (.slice none 0 0) := by
  obtain ⟨i0, hi0, hz0, hz1, hz2⟩ := info_parts infoD
  refine ⟨madeCells (Value.cells (.slice none 0 0)) (D * 1), fun hP => ?_, fun p hp => ?_⟩
  · have h := run_make (P := Try.prog) w 60 105 i0 (.slice none 0 0) Try.underlying60 hi0 hz0 .i64 .i64 D D (by omega) (by omega) (by rw [hz2]; omega) (by omega)
    rw [hz1, Int.toNat_natCast] at h
    exact h
  · simp [madeCells, Value.cells, hp, Nat.mod_one]

theorem made_blocks (B : Nat) (w : World) : ∃ cs : Array Value, (B ≤ 1000 → (Instr.makeSlice 105 (.int .i64 (B : Int)) (.int .i64 (B : Int))).run Try.prog w = .ok (.slice (some ⟨w.heap.size, 0, none⟩) B B) (w.alloc (.cells cs 71))) ∧
    ∀ b, b < B → cs[b * 4]? = some (.bool false) ∧ cs[b * 4 + 1]? = some (.slice none 0 0) ∧ cs[b * 4 + 2]? = some (.int .i64 0) ∧ cs[b * 4 + 3]? = some (.int .i64 0) := by
  obtain ⟨i0, hi0, hz0, hz1, hz2⟩ := info_parts infoB
  refine ⟨madeCells (Value.cells (.agg #[.bool false, .slice none 0 0, .int .i64 0, .int .i64 0])) (B * 4), fun hP => ?_, fun p hp => ?_⟩
  · have h := run_make (P := Try.prog) w 105 71 i0 (.agg #[.bool false, .slice none 0 0, .int .i64 0, .int .i64 0]) Try.underlying105 hi0 hz0 .i64 .i64 B B (by omega) (by omega) (by rw [hz2]; omega) (by omega)
    rw [hz1, Int.toNat_natCast] at h
    exact h
  · have e1 : p * 4 < B * 4 := by omega
    have e2 : p * 4 + 1 < B * 4 := by omega
    have e3 : p * 4 + 2 < B * 4 := by omega
    have e4 : p * 4 + 3 < B * 4 := by omega
    have f1 : p * 4 % 4 = 0 := by omega
    have f2 : (p * 4 + 1) % 4 = 1 := by omega
    have f3 : (p * 4 + 2) % 4 = 2 := by omega
    have f4 : (p * 4 + 3) % 4 = 3 := by omega
    simp [madeCells, Value.cells, e1, e2, e3, e4, f1, f2, f3, f4]

/-- Block g bears B blocks that are blank; of those that S names the pages are laid. -/
structure DieAt (w : World) (S : Nat → Prop) (M g B P : Nat) (ps : Nat → Nat) (hv : Nat → Nat → Value) : Prop where
  cells : ∃ cur, w.heap[g]? = some (.cells cur 71 (0, 0)) ∧ ∀ b, b < B → cur[b * 4]? = some (.bool false) ∧ (∃ v, cur[b * 4 + 1]? = some v ∧ (S b → v = .slice (some ⟨ps b, 0, none⟩) P P)) ∧ cur[b * 4 + 2]? = some (.int .i64 0) ∧ cur[b * 4 + 3]? = some (.int .i64 0)
  low : ∀ b, b < B → S b → M ≤ ps b
  pages : ∀ b, b < B → S b → PgAt w (ps b) P (hv b) (fun _ => .slice none 0 0)
  held : ∀ b, b < B → S b → ∀ p, p < P → Fr M w (hv b p) ones60
  inj : ∀ b b', b < B → b' < B → S b → S b' → ps b = ps b' → b = b'

theorem DieAt.keep {w w' : World} {S : Nat → Prop} {M M' g B P : Nat} {ps : Nat → Nat} {hv : Nat → Nat → Value} (h : DieAt w S M g B P ps hv) (hM : M' ≤ M) (hg : w'.heap[g]? = w.heap[g]?) (hk : ∀ k : Nat, M ≤ k → k < w.heap.size → w'.heap[k]? = w.heap[k]?) : DieAt w' S M' g B P ps hv where
  cells := by obtain ⟨cur, h1, h2⟩ := h.cells; exact ⟨cur, hg.trans h1, h2⟩
  low := fun b hb hs => Nat.le_trans hM (h.low b hb hs)
  pages := fun b hb hs => (h.pages b hb hs).of (hk _ (h.low b hb hs) (h.pages b hb hs).lt)
  held := fun b hb hs p hp => by
    rcases h.held b hb hs p hp with h | ⟨g, c, h1, h2, h3, h4, h5⟩
    · exact .inl h
    · exact .inr ⟨g, c, h1, h2, h3, h4.of (hk g h5 h4.lt), by omega⟩
  inj := h.inj

theorem DieAt.put {w w' : World} {S S' : Nat → Prop} {M g B P x q : Nat} {ps : Nat → Nat} {hv : Nat → Nat → Value} {hw : Nat → Value} (h : DieAt w S M g B P ps hv) (hx : x < B)
    (hw1 : Below w.heap.size w w') (hq : w.heap.size ≤ q) (hM : M ≤ w.heap.size) (hP : PgAt w' q P hw (fun _ => .slice none 0 0)) (hH : ∀ p, p < P → Fr w.heap.size w' (hw p) ones60) (hgM : g < M) (hS : ∀ b, S' b → S b ∨ b = x) :
    DieAt (w'.setCell ⟨g, x * 4 + 1, none⟩ (.slice (some ⟨q, 0, none⟩) P P)) S' M g B P (fun b => if b = x then q else ps b) (fun b => if b = x then hw else hv b) := by
  have hoth : ∀ k : Nat, k ≠ g → (w'.setCell ⟨g, x * 4 + 1, none⟩ (.slice (some ⟨q, 0, none⟩) P P)).heap[k]? = w'.heap[k]? := fun k hk => Below.heap_setCell _ _ _ _ hk
  have hlt : ∀ b, b < B → S b → ps b < w.heap.size := fun b hb hs => (h.pages b hb hs).lt
  have hfr : ∀ {n u s}, M ≤ n → Fr n w' u s → Fr M (w'.setCell ⟨g, x * 4 + 1, none⟩ (.slice (some ⟨q, 0, none⟩) P P)) u s := fun {n u s} hn h => by
    rcases h with h | ⟨g, c, h1, h2, h3, h4, h5⟩
    · exact .inl h
    · exact .inr ⟨g, c, h1, h2, h3, h4.of (hoth g (by omega)), by omega⟩
  obtain ⟨cur, hc1, hc2⟩ := h.cells
  have hc1' : w'.heap[g]? = some (.cells cur 71 (0, 0)) := (hw1.block g (lt_of_block hc1)).trans hc1
  refine ⟨⟨_, heap_setCell_same w' _ _ _ _ _ hc1', fun b hb => ?_⟩, fun b hb hs => ?_, fun b hb hs => ?_, fun b hb hs p hp => ?_, fun b b' hb hb' hs hs' e => ?_⟩
  · obtain ⟨h1, ⟨v, h2, h3⟩, h4, h5⟩ := hc2 b hb
    obtain ⟨_, ⟨v', h2', _⟩, _, _⟩ := hc2 x hx
    have hsz : x * 4 + 1 < cur.size := (Array.getElem?_eq_some_iff.1 h2').1
    simp only [Array.getElem?_setIfInBounds]
    rw [if_neg (show ¬ x * 4 + 1 = b * 4 by omega), if_neg (show ¬ x * 4 + 1 = b * 4 + 2 by omega), if_neg (show ¬ x * 4 + 1 = b * 4 + 3 by omega)]
    refine ⟨h1, ?_, h4, h5⟩
    by_cases e : b = x
    · subst e
      rw [if_pos rfl, if_pos hsz]
      exact ⟨_, rfl, fun _ => by simp⟩
    · rw [if_neg (by omega)]
      refine ⟨v, h2, fun hs => ?_⟩
      simp only [if_neg e]
      exact h3 ((hS b hs).resolve_right e)
  · by_cases e : b = x
    · simp only [if_pos e]; omega
    · simp only [if_neg e]; exact h.low b hb ((hS b hs).resolve_right e)
  · by_cases e : b = x
    · simp only [if_pos e]; exact hP.of (hoth q (by omega))
    · simp only [if_neg e]
      have hs := (hS b hs).resolve_right e
      exact (h.pages b hb hs).of ((hoth _ (by have := h.low b hb hs; omega)).trans (hw1.block _ (hlt b hb hs)))
  · by_cases e : b = x
    · simp only [if_pos e]; exact hfr hM (hH p hp)
    · simp only [if_neg e]
      have hs := (hS b hs).resolve_right e
      exact hfr (Nat.le_refl _) ((h.held b hb hs p hp).below hw1 (Nat.le_refl _))
  · by_cases e1 : b = x <;> by_cases e2 : b' = x
    · rw [e1, e2]
    · simp only [if_pos e1, if_neg e2] at e
      have := hlt b' hb' ((hS b' hs').resolve_right e2)
      omega
    · simp only [if_neg e1, if_pos e2] at e
      have := hlt b hb ((hS b hs).resolve_right e1)
      omega
    · simp only [if_neg e1, if_neg e2] at e
      exact h.inj b b' hb hb' ((hS b hs).resolve_right e1) ((hS b' hs').resolve_right e2) e

theorem DieAt.c1 {w : World} {S : Nat → Prop} {M g B P b : Nat} {ps : Nat → Nat} {hv : Nat → Nat → Value} (h : DieAt w S M g B P ps hv) (hb : b < B) : ∃ v, w.cell? ⟨g, b * 4 + 1, none⟩ = some v ∧ w.frozen? ⟨g, b * 4 + 1, none⟩ = false := by
  obtain ⟨cur, h1, h2⟩ := h.cells
  obtain ⟨_, ⟨v, h3, _⟩, _⟩ := h2 b hb
  exact ⟨v, cell_blk h1 h3, free_blk h1⟩

/-- The dies in block g; those that S names have their blocks. -/
structure DiesAt (w : World) (S : Nat → Prop) (M g D B P : Nat) (bs : Nat → Nat) (ps : Nat → Nat → Nat) (hv : Nat → Nat → Nat → Value) : Prop where
  cells : ∃ cur, w.heap[g]? = some (.cells cur 105 (0, 0)) ∧ ∀ d, d < D → ∃ v, cur[d]? = some v ∧ (S d → v = .slice (some ⟨bs d, 0, none⟩) B B)
  die : ∀ d, d < D → S d → DieAt w (fun _ => True) M (bs d) B P (ps d) (hv d)
  low : ∀ d, d < D → S d → M ≤ bs d
  inj1 : ∀ d d', d < D → d' < D → S d → S d' → bs d = bs d' → d = d'
  inj2 : ∀ d b d' b', d < D → b < B → d' < D → b' < B → S d → S d' → ps d b = ps d' b' → d = d' ∧ b = b'

theorem DieAt.lt {w : World} {S : Nat → Prop} {M g B P : Nat} {ps : Nat → Nat} {hv : Nat → Nat → Value} (h : DieAt w S M g B P ps hv) : g < w.heap.size := by
  obtain ⟨cur, h1, h2⟩ := h.cells
  exact lt_of_block h1

theorem DiesAt.keep {w w' : World} {S : Nat → Prop} {M M' g D B P : Nat} {bs : Nat → Nat} {ps : Nat → Nat → Nat} {hv : Nat → Nat → Nat → Value} (h : DiesAt w S M g D B P bs ps hv) (hM : M' ≤ M) (hg : w'.heap[g]? = w.heap[g]?) (hk : ∀ k : Nat, M ≤ k → k < w.heap.size → w'.heap[k]? = w.heap[k]?) : DiesAt w' S M' g D B P bs ps hv where
  cells := by obtain ⟨cur, h1, h2⟩ := h.cells; exact ⟨cur, hg.trans h1, h2⟩
  die := fun d hd hs => (h.die d hd hs).keep hM (hk _ (h.low d hd hs) (h.die d hd hs).lt) hk
  low := fun d hd hs => Nat.le_trans hM (h.low d hd hs)
  inj1 := h.inj1
  inj2 := h.inj2

theorem DiesAt.c1 {w : World} {S : Nat → Prop} {M g D B P d : Nat} {bs : Nat → Nat} {ps : Nat → Nat → Nat} {hv : Nat → Nat → Nat → Value} (h : DiesAt w S M g D B P bs ps hv) (hd : d < D) : ∃ v, w.cell? ⟨g, d, none⟩ = some v ∧ w.frozen? ⟨g, d, none⟩ = false := by
  obtain ⟨cur, h1, h2⟩ := h.cells
  obtain ⟨v, h3, _⟩ := h2 d hd
  exact ⟨v, cell_blk h1 h3, free_blk h1⟩

/-- A die is laid. -/
theorem DiesAt.put {w w1 w' : World} {S S' : Nat → Prop} {M g D B P x q : Nat} {bs : Nat → Nat} {ps : Nat → Nat → Nat} {hv : Nat → Nat → Nat → Value} {pw : Nat → Nat} {hw : Nat → Nat → Value} (h : DiesAt w S M g D B P bs ps hv) (hx : x < D)
    (hw1 : Below w.heap.size w w1) (h2 : ∀ k : Nat, k < w.heap.size → w'.heap[k]? = (w1.setCell ⟨g, x, none⟩ (.slice (some ⟨q, 0, none⟩) B B)).heap[k]?) (hq : w.heap.size ≤ q) (hM : M ≤ w.heap.size) (hgM : g < M)
    (hD : DieAt w' (fun _ => True) w.heap.size q B P pw hw) (hS : ∀ b, S' b → S b ∨ b = x) :
    DiesAt w' S' M g D B P (fun b => if b = x then q else bs b) (fun b => if b = x then pw else ps b) (fun b => if b = x then hw else hv b) := by
  obtain ⟨cur, hc1, hc2⟩ := h.cells
  have hgl := lt_of_block hc1
  have hc1' : w1.heap[g]? = some (.cells cur 105 (0, 0)) := (hw1.block g hgl).trans hc1
  have hold : ∀ k : Nat, M ≤ k → k < w.heap.size → w'.heap[k]? = w.heap[k]? := fun k hk hl => ((h2 k hl).trans (Below.heap_setCell _ _ _ _ (by show k ≠ g; omega))).trans (hw1.block k hl)
  have hdie : ∀ d, d < D → S d → DieAt w' (fun _ => True) M (bs d) B P (ps d) (hv d) := fun d hd hs => (h.die d hd hs).keep (Nat.le_refl _) (hold _ (h.low d hd hs) (h.die d hd hs).lt) hold
  have hlt : ∀ d, d < D → S d → bs d < w.heap.size := fun d hd hs => (h.die d hd hs).lt
  have hlt2 : ∀ d b, d < D → b < B → S d → ps d b < w.heap.size := fun d b hd hb hs => ((h.die d hd hs).pages b hb trivial).lt
  refine ⟨⟨_, (h2 g hgl).trans (heap_setCell_same w1 _ _ _ _ _ hc1'), fun d hd => ?_⟩, fun d hd hs => ?_, fun d hd hs => ?_, fun b b' hb hb' hs hs' e => ?_, fun d b d' b' hd hb hd' hb' hs hs' e => ?_⟩
  · obtain ⟨v, h3, h4⟩ := hc2 d hd
    obtain ⟨v', h3', _⟩ := hc2 x hx
    have hsz : x < cur.size := (Array.getElem?_eq_some_iff.1 h3').1
    rw [Array.getElem?_setIfInBounds]
    by_cases e : d = x
    · subst e
      rw [if_pos rfl, if_pos hsz]
      exact ⟨_, rfl, fun _ => by simp⟩
    · rw [if_neg (by omega)]
      refine ⟨v, h3, fun hs => ?_⟩
      simp only [if_neg e]
      exact h4 ((hS d hs).resolve_right e)
  · by_cases e : d = x
    · simp only [if_pos e]; exact hD.keep hM rfl (fun _ _ _ => rfl)
    · simp only [if_neg e]; exact hdie d hd ((hS d hs).resolve_right e)
  · by_cases e : d = x
    · simp only [if_pos e]; omega
    · simp only [if_neg e]; exact h.low d hd ((hS d hs).resolve_right e)
  · by_cases e1 : b = x <;> by_cases e2 : b' = x
    · rw [e1, e2]
    · simp only [if_pos e1, if_neg e2] at e
      have := hlt b' hb' ((hS b' hs').resolve_right e2)
      omega
    · simp only [if_neg e1, if_pos e2] at e
      have := hlt b hb ((hS b hs).resolve_right e1)
      omega
    · simp only [if_neg e1, if_neg e2] at e
      exact h.inj1 b b' hb hb' ((hS b hs).resolve_right e1) ((hS b' hs').resolve_right e2) e
  · by_cases e1 : d = x <;> by_cases e2 : d' = x
    · simp only [if_pos e1, if_pos e2] at e
      exact ⟨by rw [e1, e2], hD.inj b b' hb hb' trivial trivial e⟩
    · simp only [if_pos e1, if_neg e2] at e
      have := hlt2 d' b' hd' hb' ((hS d' hs').resolve_right e2)
      have := hD.low b hb trivial
      omega
    · simp only [if_neg e1, if_pos e2] at e
      have := hlt2 d b hd hb ((hS d hs).resolve_right e1)
      have := hD.low b' hb' trivial
      omega
    · simp only [if_neg e1, if_neg e2] at e
      exact h.inj2 d b d' b' hd hb hd' hb' ((hS d hs).resolve_right e1) ((hS d' hs').resolve_right e2) e

set_option maxRecDepth 100000 in
set_option maxHeartbeats 8000000 in
theorem blankDies_any (D B P : Nat) (hD : D ≤ 8) (hB : B ≤ 12) (hP : P ≤ 8) (w : World) :
    Calls Try.prog 33 #[.agg #[.int .i64 (D : Int), .int .i64 (B : Int), .int .i64 (P : Int)]] w fun e w' => ∃ g bs ps hv, e = .returned (.slice (some ⟨g, 0, none⟩) D D) ∧ w.heap.size ≤ g ∧ DiesAt w' (fun _ => True) w.heap.size g D B P bs ps hv ∧ Below w.heap.size w w' := by
  obtain ⟨cs, hmk0, hcs⟩ := made_dies D (w.alloc (.cells #[.int .i64 (D : Int), .int .i64 (B : Int), .int .i64 (P : Int)] 23))
  have hmk := hmk0 (by omega)
  rw [World.size_alloc] at hmk
  have HCS := hide hcs
  clear hmk0 hcs
  refine (callsIn_wide (n := 3)).1 ?_
  refine callsIn_of_wp_marks Try.func33 rfl trivial ?_ rfl
  simp only [Try.ntmps33, List.size_toArray, List.length_cons, List.length_nil, Nat.reduceAdd, Nat.reduceSub, Array.replicate_succ, Array.replicate_zero, List.push_toArray, List.append_toArray, List.nil_append, List.cons_append]
  gi_wp2
  clear hmk
  obtain ⟨w1, hw1⟩ : ∃ w1, ((w.alloc (.cells #[.int .i64 (D : Int), .int .i64 (B : Int), .int .i64 (P : Int)] 23)).alloc (.cells cs 105)).alloc (.cells #[.slice (some ⟨w.heap.size + 1, 0, none⟩) D D] 60) = w1 := ⟨_, rfl⟩
  have hz1 : w1.heap.size = w.heap.size + 3 := by rw [← hw1]; simp
  have hB1 : Below w.heap.size w w1 := by rw [← hw1]; exact (((Below.refl _ w).alloc (Nat.le_refl _) _).alloc (by simp) _).alloc (by simp; omega) _
  have hH1 : w1.cell? ⟨w.heap.size + 1 + 1, 0, none⟩ = some (.slice (some ⟨w.heap.size + 1, 0, none⟩) D D) := by
    rw [← hw1]
    have h := (cell_new' ((w.alloc (.cells #[.int .i64 (D : Int), .int .i64 (B : Int), .int .i64 (P : Int)] 23)).alloc (.cells cs 105)) (.slice (some ⟨w.heap.size + 1, 0, none⟩) D D) 60).1
    rw [World.size_alloc, World.size_alloc] at h
    exact h
  have hD1 : w1.heap[w.heap.size + 1]? = some (.cells cs 105 (0, 0)) := by
    rw [← hw1]
    refine (Below.heap_alloc _ _ _ (by simp)).trans ?_
    have h := World.alloc_heap_new (w.alloc (.cells #[.int .i64 (D : Int), .int .i64 (B : Int), .int .i64 (P : Int)] 23)) (.cells cs 105)
    rw [World.size_alloc] at h
    exact h
  have hE1 : w1.heap[w.heap.size]? = some (.cells #[.int .i64 (D : Int), .int .i64 (B : Int), .int .i64 (P : Int)] 23 (0, 0)) := by
    rw [← hw1]
    exact (Below.heap_alloc _ _ _ (by simp; omega)).trans ((Below.heap_alloc _ _ _ (by simp)).trans (World.alloc_heap_new w _))
  rw [hw1]
  clear hw1
  have HB1 := hide hB1
  have HH1 := hide hH1
  have HD1 := hide hD1
  have HE1 := hide hE1
  have hz1a := Nat.le_of_eq hz1
  have hz1b := Nat.le_of_eq hz1.symm
  clear hB1 hH1 hD1 hE1 hz1
  refine ⟨trivial, (callsIn_wide.2 (allD_any _ w1)).mono ?_⟩
  rintro e w2 ⟨rfl, hc2, hz2, hb2⟩
  have HB2 := hide ((unhide HB1).trans (hb2.mono (by omega)))
  have HH2 := hide ((hb2.cell (p := ⟨w.heap.size + 1 + 1, 0, none⟩) (by show w.heap.size + 1 + 1 < _; omega)).trans (unhide HH1))
  have HD2 := hide ((hb2.block _ (by omega)).trans (unhide HD1))
  have HE2 := hide ((hb2.block _ (by omega)).trans (unhide HE1))
  have hz2a := Nat.le_of_eq hz2
  have hz2b := Nat.le_of_eq hz2.symm
  obtain ⟨he, hq⟩ := allD_x (fun k => k = w.heap.size + 1 + 1 ∨ k = w1.heap.size) w1.heap.size (w.heap.size + 1 + 1) 0 (w.heap.size + 1) D D (by omega) w2 hc2 (unhide HH2) (.inr rfl) (.inl rfl)
  have HE := hide he
  have HQ := hide hq
  clear hc2 hz2 hb2 HB1 HH1 HD1 HE1 he hq
  gi_wp2
  refine wpIn_range_yH (gf := 71) (lb := #[.pointer (some ⟨w1.heap.size, 0, none⟩)]) rfl (unhide HE) (unhide HQ) (fun k hk => by rcases hk with h | h <;> omega) (fun _ => rfl)
    (fun pre A => ∃ bs ps hv, DiesAt A (fun d => d ∈ pre.map Fin.val) (w2.heap.size + 2 + 0) (w.heap.size + 1) D B P bs ps hv ∧ A.heap[w.heap.size]? = some (.cells #[.int .i64 (D : Int), .int .i64 (B : Int), .int .i64 (P : Int)] 23 (0, 0)) ∧ A.cell? ⟨w.heap.size + 1 + 1, 0, none⟩ = some (.slice (some ⟨w.heap.size + 1, 0, none⟩) D D) ∧ Below w.heap.size w A ∧ w2.heap.size ≤ A.heap.size)
    (fun s A B h hb => by
      obtain ⟨bs, ps, hv, h1, h2, h3, h4, h5⟩ := h
      have hb' := hb.below (by omega)
      exact ⟨bs, ps, hv, h1.keep (Nat.le_refl _) (hb'.block _ (by omega)) (fun k hk hl => hb.block k hl (by omega)), (hb'.block _ (by omega)).trans h2, hb.cell h3 (by dsimp only; omega), h4.trans (hb'.mono (by omega)), Nat.le_trans h5 hb.size⟩)
    ⟨fun _ => 0, fun _ _ => 0, fun _ _ _ => .slice none 0 0, ⟨⟨cs, unhide HD2, fun d hd => ⟨_, unhide HCS d hd, fun h => by simp at h⟩⟩, fun d hd h => by simp at h, fun d hd h => by simp at h, fun d _ _ _ h => by simp at h, fun d _ _ _ _ _ _ _ h => by simp at h⟩, unhide HE2, unhide HH2, unhide HB2, Nat.le_refl _⟩ ?round ?done
  case done =>
    rintro D1 xs A hD1 hD2 hxs ⟨bs, ps, hv, h1, h2, h3, h4, h5⟩ hK
    have H1 := hide h1
    have HB := hide h4
    have HX := hide hxs
    clear h1 h2 h4 hxs
    gi_wp2
    refine ⟨by simp, .inl ⟨_, _, rfl, run_takeDeferred hK, ?_⟩⟩
    have hput : ∀ k : Nat, k ≠ D1 → (A.putObj D1 (Obj.deferred none)).heap[k]? = A.heap[k]? := fun k hk => World.putObj_heap_other hk
    have hfin := (unhide H1).keep (w' := A.putObj D1 (Obj.deferred none)) (M' := w.heap.size) (by omega) (hput _ (by omega)) (fun k hk hl => hput k (by omega))
    refine ⟨_, results_tmp rfl _ _ _, w.heap.size + 1, bs, ps, hv, rfl, by omega, ?_, (unhide HB).trans (below_put _ _ (by omega))⟩
    have hin : ∀ d, d < D → d ∈ xs.map Fin.val := fun d hd => by rw [unhide HX]; exact List.mem_range.2 hd
    exact ⟨by
      obtain ⟨cur, g1, g2⟩ := hfin.cells
      exact ⟨cur, g1, fun d hd => by obtain ⟨v, g3, g4⟩ := g2 d hd; exact ⟨v, g3, fun _ => g4 (hin d hd)⟩⟩,
      fun d hd _ => hfin.die d hd (hin d hd), fun d hd _ => hfin.low d hd (hin d hd), fun d d' hd hd' _ _ => hfin.inj1 d d' hd hd' (hin d hd) (hin d' hd'), fun d b d' b' hd hb hd' hb' _ _ => hfin.inj2 d b d' b' hd hb hd' hb' (hin d hd) (hin d' hd')⟩
  case round =>
    rintro l pre x A ⟨bs, ps, hv, h1, h2, h3, h4, h5⟩ hlen hs2A
    have hx := x.isLt
    gi_wp2
    refine ⟨⟨Ky.refl _ _ _ _, bs, ps, hv, h1, h2, h3, h4, h5⟩, ?_⟩
    clear h1 h2 h3 h4 h5 bs ps hv
    rintro W₂ hsz2 - - hrec hl ⟨bs, ps, hv, h1, h2, h3, h4, h5⟩
    have hs3 : w2.heap.size + 2 + 0 ≤ W₂.heap.size := by omega
    subst hl
    clear hsz2 hs2A
    obtain ⟨i, hi⟩ : ∃ i, x.val = i := ⟨_, rfl⟩
    have HI := hide hi
    rw [hi] at hx ⊢
    clear hi
    have H1 := hide h1
    have H2 := hide h2
    have H3 := hide h3
    have H4 := hide h4
    have HREC := hide hrec
    have hg1 : W₂.cell? ⟨w.heap.size, 1, none⟩ = some (.int .i64 (B : Int)) := cell_blk h2 rfl
    obtain ⟨cb, hmk0, hcb⟩ := made_blocks B W₂
    have hmk := hmk0 (by omega)
    have HCB := hide hcb
    obtain ⟨v1, hv1, hvf⟩ := h1.c1 hx
    have hkA : Below W₂.heap.size W₂ (W₂.alloc (.cells cb 71)) := (Below.refl _ _).alloc (Nat.le_refl _) _
    have hv1' := (hkA.cell (p := ⟨w.heap.size + 1, i, none⟩) (by show w.heap.size + 1 < _; omega)).trans hv1
    have hvf' : (W₂.alloc (.cells cb 71)).frozen? ⟨w.heap.size + 1, i, none⟩ = false := (hkA.frozen (p := ⟨w.heap.size + 1, i, none⟩) (by show w.heap.size + 1 < _; omega)).trans hvf
    have HKA := hide hkA
    clear h1 h2 h3 h4 hmk0 hcb hv1 hvf hrec hkA
    gi_wp2
    obtain ⟨W3, hW3⟩ : ∃ W3, (W₂.alloc (.cells cb 71)).setCell ⟨w.heap.size + 1, i, none⟩ (.slice (some ⟨W₂.heap.size, 0, none⟩) B B) = W3 := ⟨_, rfl⟩
    have hz3 : W3.heap.size = W₂.heap.size + 1 := by rw [← hW3]; simp [World.setCell]
    have hc3 : W3.cell? ⟨w.heap.size + 1, i, none⟩ = some (.slice (some ⟨W₂.heap.size, 0, none⟩) B B) := by
      rw [← hW3]
      obtain ⟨cur, g1, g2⟩ := (unhide H1).cells
      obtain ⟨v, g3, _⟩ := g2 i hx
      have g4 : (W₂.alloc (.cells cb 71)).heap[w.heap.size + 1]? = some (.cells cur 105 (0, 0)) := ((unhide HKA).block _ (by omega)).trans g1
      refine cell_blk (heap_setCell_same _ _ _ _ _ _ g4) ?_
      rw [Array.getElem?_setIfInBounds, if_pos rfl, if_pos (Array.getElem?_eq_some_iff.1 g3).1]
    have hb3 : W3.heap[W₂.heap.size]? = some (.cells cb 71 (0, 0)) := by
      rw [← hW3]
      exact (Below.heap_setCell _ _ _ _ (by show W₂.heap.size ≠ w.heap.size + 1; omega)).trans (World.alloc_heap_new W₂ _)
    have ho3 : ∀ k : Nat, k < W₂.heap.size → k ≠ w.heap.size + 1 → W3.heap[k]? = W₂.heap[k]? := fun k hk hne => by
      rw [← hW3]
      exact (Below.heap_setCell _ _ _ _ hne).trans ((unhide HKA).block k hk)
    have hx3 : W3.os = W₂.os ∧ W3.tape = W₂.tape ∧ W3.output = W₂.output := by rw [← hW3]; exact ⟨rfl, rfl, rfl⟩
    have HW3 := hide hW3
    rw [hW3]
    have HO3 := hide ho3
    have HX3 := hide hx3
    have hz3a := Nat.le_of_eq hz3
    have hz3b := Nat.le_of_eq hz3.symm
    clear hW3 hmk hv1' hvf' hg1 hz3 ho3 hx3
    refine ⟨trivial, rfl, CallsIn.inRound _ ((callsIn_wide.2 (allB_any _ W3)).mono ?_)⟩
    rintro e W4 ⟨rfl, hc4, hz4, hb4⟩
    have hH4 := (hb4.cell (p := ⟨w.heap.size + 1, i, none⟩) (by show w.heap.size + 1 < _; omega)).trans hc3
    have hb34 := (hb4.block W₂.heap.size (by omega)).trans hb3
    have hz4a := Nat.le_of_eq hz4
    have hz4b := Nat.le_of_eq hz4.symm
    have HO4 : Hid (∀ k : Nat, k < W₂.heap.size → k ≠ w.heap.size + 1 → W4.heap[k]? = W₂.heap[k]?) := fun k hk hne => (hb4.block k (by omega)).trans (unhide HO3 k hk hne)
    have HRE4 : Hid (∃ r, W4.heap[w2.heap.size + 1]? = some (.loop r)) := by
      obtain ⟨r, hr⟩ := unhide HREC
      exact ⟨r, (unhide HO4 _ (by omega) (by omega)).trans hr⟩
    obtain ⟨he, hq⟩ := allB_x (fun k => k = w.heap.size + 1 ∨ k = W3.heap.size) W3.heap.size (w.heap.size + 1) i W₂.heap.size B B (by omega) W4 hc4 hH4 (.inr rfl) (.inl rfl)
    have HEB := hide he
    have HQB := hide hq
    have HH4 := hide hH4
    have HB4 := hide hb4
    have HD4 := hide hb34
    clear he hq hH4 hb34 hc4 hz4 hb4 hb3 hc3
    gi_wp2
    refine wpIn_range_yN (unhide HRE4) (gf := 72) (lb := #[.pointer (some ⟨W3.heap.size, 0, none⟩)]) rfl (unhide HEB) (unhide HQB) (fun k hk => by rcases hk with h | h <;> omega) (fun _ => rfl)
      (fun pre A => ∃ pw hw, DieAt A (fun b => b ∈ pre.map Fin.val) (W4.heap.size + 1 + 0) W₂.heap.size B P pw hw ∧ Below W₂.heap.size W4 A ∧ W4.heap.size ≤ A.heap.size)
      (fun s A B h hb => by
        obtain ⟨pw, hw, h1, h2, h3⟩ := h
        have hb' := hb.below (by omega)
        exact ⟨pw, hw, h1.keep (Nat.le_refl _) (hb'.block _ (by omega)) (fun k hk hl => hb.block k hl (by omega)), h2.trans (hb'.mono (by omega)), Nat.le_trans h3 hb.size⟩)
      ⟨fun _ => 0, fun _ _ => .slice none 0 0, ⟨⟨cb, unhide HD4, fun b hb => by obtain ⟨g1, g2, g3, g4⟩ := unhide HCB b hb; exact ⟨g1, ⟨_, g2, fun h => by simp at h⟩, g3, g4⟩⟩, fun b hb h => by simp at h, fun b hb h => by simp at h, fun b hb h => by simp at h, fun b _ _ _ h => by simp at h⟩, Below.refl _ _, Nat.le_refl _⟩ ?round2 ?done2
    case done2 =>
      rintro xs A5 hxs ⟨pw, hw, h1, h2, h3⟩
      have HX := hide hxs
      have hin : ∀ b, b < B → b ∈ xs.map Fin.val := fun b hb => by rw [unhide HX]; exact List.mem_range.2 hb
      have hdie : DieAt A5 (fun _ => True) W₂.heap.size W₂.heap.size B P pw hw := by
        have h1' := h1.keep (w' := A5) (M' := W₂.heap.size) (by omega) rfl (fun _ _ _ => rfl)
        exact ⟨by
          obtain ⟨cur, g1, g2⟩ := h1'.cells
          exact ⟨cur, g1, fun b hb => by obtain ⟨g3, ⟨v, g4, g5⟩, g6⟩ := g2 b hb; exact ⟨g3, ⟨v, g4, fun _ => g5 (hin b hb)⟩, g6⟩⟩,
          fun b hb _ => h1'.low b hb (hin b hb), fun b hb _ => h1'.pages b hb (hin b hb), fun b hb _ => h1'.held b hb (hin b hb), fun b b' hb hb' _ _ => h1'.inj b b' hb hb' (hin b hb) (hin b' hb')⟩
      have hall : ∀ k : Nat, k < W₂.heap.size → A5.heap[k]? = W3.heap[k]? := fun k hk => (h2.block k hk).trans ((unhide HB4).block k (by omega))
      have hput := (unhide H1).put (S' := fun d => d ∈ (pre ++ [x]).map Fin.val) (w1 := W₂.alloc (.cells cb 71)) (w' := A5) (q := W₂.heap.size) hx (unhide HKA) (fun k hk => by rw [unhide HW3]; exact hall k hk) (Nat.le_refl _) (by omega) (by omega) hdie (fun b hb => by
        rw [List.map_append, List.mem_append] at hb
        rcases hb with h | h
        · exact .inl h
        · exact .inr (by have : b = x.val := by simpa using h
                         rw [this]; exact unhide HI))
      have hsame : ∀ k : Nat, k < W₂.heap.size → k ≠ w.heap.size + 1 → A5.heap[k]? = W₂.heap[k]? := fun k hk hne => (hall k hk).trans (unhide HO3 k hk hne)
      obtain ⟨x1, x2, x3⟩ := unhide HX3
      have hbel : Below w.heap.size W₂ A5 := ⟨h2.os.trans ((unhide HB4).os.trans x1), h2.tape.trans ((unhide HB4).tape.trans x2), h2.output.trans ((unhide HB4).output.trans x3), by omega, fun k hk => hsame k (by omega) (by omega)⟩
      have hR : postY w2.heap.size (fun k => k = w.heap.size + 1 + 1 ∨ k = w1.heap.size) 0 (fun pre A => ∃ bs ps hv, DiesAt A (fun d => d ∈ pre.map Fin.val) (w2.heap.size + 2 + 0) (w.heap.size + 1) D B P bs ps hv ∧ A.heap[w.heap.size]? = some (.cells #[.int .i64 (D : Int), .int .i64 (B : Int), .int .i64 (P : Int)] 23 (0, 0)) ∧ A.cell? ⟨w.heap.size + 1 + 1, 0, none⟩ = some (.slice (some ⟨w.heap.size + 1, 0, none⟩) D D) ∧ Below w.heap.size w A ∧ w2.heap.size ≤ A.heap.size) (pre ++ [x]) W₂ .normal { tmps := #[], defers := [] } A5 := by
        refine ⟨⟨by omega, fun k hk hor => hsame k hk (by rcases hor with h | h | h <;> omega)⟩, _, _, _, hput, (hsame _ (by omega) (by omega)).trans (unhide H2), (World.cell?_of_block (hsame (w.heap.size + 1 + 1) (by omega) (by omega))).trans (unhide H3), (unhide H4).trans (hbel.mono (Nat.le_refl _)), by omega⟩
      have HR := hide hR
      clear hR hbel hsame hput hall hdie hin h1 h2
      gi_wp2
      exact unhide HR
    case round2 =>
      rintro l2 pre2 y A ⟨pw, hw, h1, h2, h3⟩ hlen2 hs2A
      have hy := y.isLt
      gi_wp2
      refine ⟨⟨Ky.refl _ _ _ _, pw, hw, h1, h2, h3⟩, ?_⟩
      clear h1 h2 h3 pw hw
      rintro W5 hsz5 - - ⟨pw, hw, h1, h2, h3⟩
      have hs5 : W4.heap.size + 1 + 0 ≤ W5.heap.size := by omega
      clear hsz5 hs2A
      obtain ⟨j, hj⟩ : ∃ j, y.val = j := ⟨_, rfl⟩
      have HJ := hide hj
      rw [hj] at hy ⊢
      clear hj
      have hg2 : W5.cell? ⟨w.heap.size, 2, none⟩ = some (.int .i64 (P : Int)) := cell_blk ((h2.block _ (by omega)).trans ((unhide HO4 _ (by omega) (by omega)).trans (unhide H2))) rfl
      have G1 := hide h1
      have G2 := hide h2
      clear h1 h2
      gi_wp2
      refine ⟨trivial, rfl, CallsIn.inRound _ ((callsIn_wide.2 (blankPages_any P hP W5)).mono ?_)⟩
      rintro e W6 ⟨q6, hw6, rfl, hq6, hp6, hf6, hb6⟩
      have hput := (unhide G1).put (S' := fun d => d ∈ (pre2 ++ [y]).map Fin.val) hy hb6 hq6 (by omega) hp6 hf6 (by omega) (fun b hb => by
        rw [List.map_append, List.mem_append] at hb
        rcases hb with h | h
        · exact .inl h
        · exact .inr (by have : b = y.val := by simpa using h
                         rw [this]; exact unhide HJ))
      obtain ⟨vv, hvv, hvf⟩ := ((unhide G1).keep (w' := W6) (Nat.le_refl _) (hb6.block _ (by omega)) (fun k _ hl => hb6.block k hl)).c1 hy
      have hR : postN W4.heap.size (fun k => k = w.heap.size + 1 ∨ k = W3.heap.size) 0 (fun pre A => ∃ pw hw, DieAt A (fun b => b ∈ pre.map Fin.val) (W4.heap.size + 1 + 0) W₂.heap.size B P pw hw ∧ Below W₂.heap.size W4 A ∧ W4.heap.size ≤ A.heap.size) (pre2 ++ [y]) W5 .normal { tmps := #[], defers := [] } (W6.setCell ⟨W₂.heap.size, j * 4 + 1, none⟩ (.slice (some ⟨q6, 0, none⟩) P P)) := by
        refine ⟨⟨by have := hb6.size; simp [World.setCell]; omega, fun k hk hor => (Below.heap_setCell _ _ _ _ (by show k ≠ W₂.heap.size; rcases hor with h | h | h <;> omega)).trans (hb6.block k hk)⟩, _, _, hput, ?_, by have := hb6.size; simp [World.setCell]; omega⟩
        exact ((unhide G2).trans (hb6.mono (by omega))).trans ⟨rfl, rfl, rfl, by simp [World.setCell], fun k hk => Below.heap_setCell _ _ _ _ (by show k ≠ W₂.heap.size; omega)⟩
      have HR := hide hR
      clear hR hput hb6 hf6 hp6
      gi_wp2
      exact unhide HR

end Go.Proofs.Ytnondiaefpdlpaa

namespace Go.Proofs.Ytnondiaefpdlpaa
open Go.RowKit Go.Shelf

set_option maxRecDepth 100000 in
set_option maxHeartbeats 2000000 in
theorem nwithin_any (n a b : Int) (w : World) : Calls Try.prog 56 #[.int .i64 n, .int .i64 a, .int .i64 b] w fun e w' => e = .returned (.bool (decide (a ≤ n ∧ n ≤ b))) ∧ w' = w := by
  by_cases h1 : a ≤ n
  · by_cases h2 : n ≤ b
    · rw [decide_eq_true (⟨h1, h2⟩ : a ≤ n ∧ n ≤ b)]
      go_enter Try.func56, Try.ntmps56
      go_wp2_with fail
      go_ret
      exact ⟨rfl, rfl⟩
    · rw [decide_eq_false (fun h : a ≤ n ∧ n ≤ b => h2 h.2)]
      have h3 : b < n := by omega
      go_enter Try.func56, Try.ntmps56
      go_wp2_with fail
      go_ret
      exact ⟨rfl, rfl⟩
  · rw [decide_eq_false (fun h : a ≤ n ∧ n ≤ b => h1 h.1)]
    have h3 : n < a := by omega
    go_enter Try.func56, Try.ntmps56
    go_wp2_with fail
    go_ret
    exact ⟨rfl, rfl⟩

/-- A geometry that may be. -/
def okG (D B P : Int) : Prop := (6 ≤ D ∧ D ≤ 8) ∧ (8 ≤ B ∧ B ≤ 12) ∧ 4 ≤ P ∧ P ≤ 8
instance (D B P : Int) : Decidable (okG D B P) := by unfold okG; infer_instance

set_option maxRecDepth 100000 in
set_option maxHeartbeats 2000000 in
theorem allowed_any (D B P : Int) (w : World) : Calls Try.prog 32 #[.agg #[.int .i64 D, .int .i64 B, .int .i64 P]] w fun e w' => e = .returned (.bool (decide (okG D B P))) ∧ Below w.heap.size w w' := by
  obtain ⟨W, hW⟩ : ∃ W, w.alloc (.cells #[.int .i64 D, .int .i64 B, .int .i64 P] 23) = W := ⟨_, rfl⟩
  have hn : W.heap[w.heap.size]? = some (.cells #[.int .i64 D, .int .i64 B, .int .i64 P] 23 (0, 0)) := by rw [← hW]; exact World.alloc_heap_new w _
  have c0 : W.cell? ⟨w.heap.size, 0, none⟩ = some (.int .i64 D) := cell_blk hn rfl
  have c1 : W.cell? ⟨w.heap.size, 1, none⟩ = some (.int .i64 B) := cell_blk hn rfl
  have c2 : W.cell? ⟨w.heap.size, 2, none⟩ = some (.int .i64 P) := cell_blk hn rfl
  have HB : Hid (Below w.heap.size w W) := by rw [← hW]; exact (Below.refl _ _).alloc (Nat.le_refl _) _
  have HC1 := hide c1
  have HC2 := hide c2
  clear hn c1 c2
  by_cases h1 : 6 ≤ D ∧ D ≤ 8
  · by_cases h2 : 8 ≤ B ∧ B ≤ 12
    · have e3 : decide (okG D B P) = decide (4 ≤ P ∧ P ≤ 8) := by
        by_cases h3 : 4 ≤ P ∧ P ≤ 8
        · rw [decide_eq_true h3, decide_eq_true (show okG D B P from ⟨h1, h2, h3⟩)]
        · rw [decide_eq_false h3, decide_eq_false (show ¬ okG D B P from fun h => h3 h.2.2)]
      rw [e3]
      obtain ⟨b3, hb3⟩ : ∃ b, decide (4 ≤ P ∧ P ≤ 8) = b := ⟨_, rfl⟩
      rw [hb3]
      have E3 := hide hb3
      clear hb3
      have e1 := decide_eq_true h1
      have e2 := decide_eq_true h2
      have E1 := hide e1
      have E2 := hide e2
      clear e1 e2 e3 h1 h2
      go_enter Try.func32, Try.ntmps32
      go_wp2_with fail
      refine (nwithin_any _ _ _ W).mono ?_
      rintro e W ⟨rfl, rfl⟩
      rw [unhide E1]
      have c1 := unhide HC1
      go_wp2_with fail
      refine (nwithin_any _ _ _ W).mono ?_
      rintro e W ⟨rfl, rfl⟩
      rw [unhide E2]
      have c2 := unhide HC2
      go_wp2_with fail
      refine (nwithin_any _ _ _ W).mono ?_
      rintro e W ⟨rfl, rfl⟩
      rw [unhide E3]
      go_wp2_with fail
      go_ret
      exact ⟨rfl, unhide HB⟩
    · have e3 : decide (okG D B P) = false := decide_eq_false (fun h => h2 h.2.1)
      rw [e3]
      have e1 := decide_eq_true h1
      have e2 := decide_eq_false h2
      have E1 := hide e1
      have E2 := hide e2
      clear e1 e2 e3 h1 h2
      go_enter Try.func32, Try.ntmps32
      go_wp2_with fail
      refine (nwithin_any _ _ _ W).mono ?_
      rintro e W ⟨rfl, rfl⟩
      rw [unhide E1]
      have c1 := unhide HC1
      go_wp2_with fail
      refine (nwithin_any _ _ _ W).mono ?_
      rintro e W ⟨rfl, rfl⟩
      rw [unhide E2]
      go_wp2_with fail
      go_ret
      exact ⟨rfl, unhide HB⟩
  · have e3 : decide (okG D B P) = false := decide_eq_false (fun h => h1 h.1)
    rw [e3]
    have E1 := hide (decide_eq_false h1)
    clear e3 h1
    go_enter Try.func32, Try.ntmps32
    go_wp2_with fail
    refine (nwithin_any _ _ _ W).mono ?_
    rintro e W ⟨rfl, rfl⟩
    rw [unhide E1]
    go_wp2_with fail
    go_ret
    exact ⟨rfl, unhide HB⟩

/-- Flash that is blank, but for those that are bad. -/
def blank (D B P : Nat) (bad : Nat → Nat → Bool) : Nd := { D, B, P, bad, next := fun _ _ => 0, era := fun _ _ => 0, held := fun _ _ _ => ones60, noise := fun _ _ _ => [], left := 0, mask := [], dead := false, ops := 0, wrong := 0 }
theorem blank_ok {D B P : Nat} (bad : Nat → Nat → Bool) (hD : D ≤ 8) (hB : B ≤ 12) (hP : P ≤ 8) : (blank D B P bad).Ok := ⟨hD, hB, hP, fun _ _ _ => ones60_len, fun _ _ _ => ones60_bs, fun _ _ => Nat.zero_le _, Nat.zero_le _⟩

theorem NA.made {m : Nat} {w : World} {n g D B P M : Nat} {bs : Nat → Nat} {ps : Nat → Nat → Nat} {hv : Nat → Nat → Nat → Value} (h : DiesAt w (fun _ => True) M g D B P bs ps hv) (hD : D ≤ 8) (hB : B ≤ 12) (hP : P ≤ 8) (hM : m ≤ M) (hn : m ≤ n) (hg : m ≤ g)
    (htop : w.heap[n]? = some (.cells #[.int .i64 (D : Int), .int .i64 (B : Int), .int .i64 (P : Int), .slice (some ⟨g, 0, none⟩) D D, .bool false, .int .i64 0, .slice none 0 0, .int .i64 0, .int .i64 0] 65 (0, 0))) :
    NA m w { n, ds := g, bs, ps, hv, nv := fun _ _ _ => .slice none 0 0, mv := .slice none 0 0 } (blank D B P (fun _ _ => false)) where
  ok := blank_ok _ hD hB hP
  top := htop
  dies := by obtain ⟨cur, h1, h2⟩ := h.cells; exact ⟨cur, h1, fun d hd => by obtain ⟨v, h3, h4⟩ := h2 d hd; rw [h3, h4 trivial]; rfl⟩
  blocks := fun d hd => by
    obtain ⟨cur, h1, h2⟩ := (h.die d hd trivial).cells
    refine ⟨cur, h1, fun b hb j hj => ?_⟩
    obtain ⟨g1, ⟨v, g2, g3⟩, g4, g5⟩ := h2 b hb
    match j, hj with
    | 0, _ => exact g1
    | 1, _ => rw [g2, g3 trivial]; rfl
    | 2, _ => exact g4
    | 3, _ => exact g5
  pages := fun d b hd hb => by
    obtain ⟨cur, h1, h2⟩ := (h.die d hd trivial).pages b hb trivial
    refine ⟨cur, h1, fun p hp j hj => ?_⟩
    match j, hj with
    | 0, _ => exact (h2 p hp).1
    | 1, _ => exact (h2 p hp).2
  hold := fun d b p hd hb hp => ((h.die d hd trivial).held b hb trivial p hp).low
  nois := fun d b p hd hb hp => ⟨[], OwnI.nil 0 w, by simp, fun _ _ _ => rfl⟩
  msk := ⟨[], .inl ⟨rfl, rfl⟩, Bs.nil, by simp, fun h => absurd rfl h⟩
  inj1 := fun d d' hd hd' e => h.inj1 d d' hd hd' trivial trivial e
  inj2 := fun d b d' b' hd hb hd' hb' e => h.inj2 d b d' b' hd hb hd' hb' trivial trivial e
  low0 := hn
  low1 := hg
  low2 := fun d hd => Nat.le_trans hM (h.low d hd trivial)
  low3 := fun d b hd hb => Nat.le_trans hM ((h.die d hd trivial).low b hb trivial)

/-- Places (die, block) in memory. -/
structure PArg (w : World) (v : Value) (g : Nat) (l : List (Int × Int)) : Prop where
  ex : ∃ ao c, v = .slice ao l.length c ∧ l.length ≤ c ∧ c ≤ maxLen ∧ (l ≠ [] → ∃ o, ao = some ⟨g, o, none⟩ ∧ ∀ i, i < l.length → w.cell? ⟨g, o + i * 2, none⟩ = some (.int .i64 (l.getD i (0, 0)).1) ∧ w.cell? ⟨g, o + i * 2 + 1, none⟩ = some (.int .i64 (l.getD i (0, 0)).2))
theorem PArg.below {w w' : World} {v : Value} {g m : Nat} {l : List (Int × Int)} (h : PArg w v g l) (k : Below m w w') (hm : l ≠ [] → g < m) : PArg w' v g l := by
  obtain ⟨ao, c, h1, h2, h3, h4⟩ := h
  refine ⟨ao, c, h1, h2, h3, fun hne => ?_⟩
  obtain ⟨o, h5, h6⟩ := h4 hne
  exact ⟨o, h5, fun i hi => ⟨(k.cell (hm hne)).trans (h6 i hi).1, (k.cell (hm hne)).trans (h6 i hi).2⟩⟩
theorem PArg.nil (w : World) : PArg w (.slice none 0 0) 0 [] := ⟨none, 0, rfl, by simp, by simp, fun h => absurd rfl h⟩
theorem PArg.lt {w : World} {v : Value} {g : Nat} {l : List (Int × Int)} (h : PArg w v g l) (hne : l ≠ []) : g < w.heap.size := by
  obtain ⟨ao, c, h1, h2, h3, h4⟩ := h
  obtain ⟨o, h5, h6⟩ := h4 hne
  exact block_lt_of_cell (h6 0 (List.length_pos_iff.2 hne)).1

/-- All these blocks are there. -/
def okB (D B : Int) (l : List (Int × Int)) : Prop := ∀ p ∈ l, (0 ≤ p.1 ∧ p.1 < D) ∧ 0 ≤ p.2 ∧ p.2 < B
instance (D B : Int) (l : List (Int × Int)) : Decidable (okB D B l) := by unfold okB; infer_instance
def badOf (l : List (Int × Int)) (d b : Nat) : Bool := decide (((d : Int), (b : Int)) ∈ l)

theorem badOf_snoc {l : List (Int × Int)} {i : Nat} (hi : i < l.length) (d b : Nat) : badOf (l.take (i + 1)) d b = if ((d : Int), (b : Int)) = l.getD i (0, 0) then true else badOf (l.take i) d b := by
  have e : l.take (i + 1) = l.take i ++ [l.getD i (0, 0)] := by
    rw [List.take_succ_eq_append_getElem hi, List.getD_eq_getElem?_getD, List.getElem?_eq_getElem hi]; rfl
  unfold badOf
  rw [e]
  by_cases h : ((d : Int), (b : Int)) = l.getD i (0, 0)
  · rw [if_pos h]; simp [h]
  · rw [if_neg h]
    exact decide_eq_decide.2 ⟨fun hm => (List.mem_append.1 hm).resolve_right (fun h2 => h (List.mem_singleton.1 h2)), fun hm => List.mem_append_left _ hm⟩

theorem okB_snoc {D B : Int} {l : List (Int × Int)} {i : Nat} (hi : i < l.length) : okB D B (l.take (i + 1)) ↔ okB D B (l.take i) ∧ ((0 ≤ (l.getD i (0, 0)).1 ∧ (l.getD i (0, 0)).1 < D) ∧ 0 ≤ (l.getD i (0, 0)).2 ∧ (l.getD i (0, 0)).2 < B) := by
  have e : l.take (i + 1) = l.take i ++ [l.getD i (0, 0)] := by
    rw [List.take_succ_eq_append_getElem hi, List.getD_eq_getElem?_getD, List.getElem?_eq_getElem hi]; rfl
  unfold okB
  rw [e]
  constructor
  · intro h
    exact ⟨fun p hp => h p (List.mem_append_left _ hp), h _ (List.mem_append_right _ (List.mem_singleton.2 rfl))⟩
  · rintro ⟨h1, h2⟩ p hp
    rcases List.mem_append.1 hp with h | h
    · exact h1 p h
    · rw [List.mem_singleton.1 h]; exact h2

set_option maxRecDepth 100000 in
set_option maxHeartbeats 4000000 in
theorem new_not (D B P : Int) (v : Value) (w : World) (h : ¬ okG D B P) : Calls Try.prog 12 #[.agg #[.int .i64 D, .int .i64 B, .int .i64 P], v] w fun e w' => e = .returned (.tuple #[.pointer none, .int .i64 1]) ∧ Below w.heap.size w w' := by
  have HO := hide (decide_eq_false h)
  have HB : Hid (Below w.heap.size w (w.alloc (.cells #[.int .i64 D, .int .i64 B, .int .i64 P] 23))) := (Below.refl _ _).alloc (Nat.le_refl _) _
  clear h
  go_enter Try.func12, Try.ntmps12
  go_wp2_with fail
  refine (allowed_any _ _ _ _).mono ?_
  rintro e W2 ⟨rfl, hb⟩
  rw [unhide HO]
  have HB2 := hide ((unhide HB).trans (hb.mono (unhide HB).size))
  clear hb
  go_wp2_with fail
  go_returns
  exact ⟨rfl, unhide HB2⟩

end Go.Proofs.Ytnondiaefpdlpaa
