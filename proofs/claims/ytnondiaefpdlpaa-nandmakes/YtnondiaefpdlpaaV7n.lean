/-
  nand.blankPages.
-/
import Derived.Test.YtnondiaefpdlpaaV7i
import Derived.Test.YtnondiaefpdlpaaV7w
namespace Go.Proofs.Ytnondiaefpdlpaa
open Go.RowKit Go.Shelf
attribute [local go_sem] Oper.semAt_some

def ones60 : List Nat := List.replicate 60 255
theorem ones60_bs : Bs ones60 := Bs.of (fun x hx => by rw [List.eq_of_mem_replicate hx]; omega)
theorem ones60_len : ones60.length = 60 := by simp [ones60]

theorem ones_shape {n : Nat} {w : World} {v : Value} (h : Fr n w v (List.replicate 60 255)) : ∃ g c, v = .slice (some ⟨g, 0, none⟩) 60 c := by
  obtain ⟨g, c, h1, _⟩ := h.blk (by simp)
  exact ⟨g, c, by rw [h1, List.length_replicate]⟩

theorem infoP : (Try.prog.info? 95).map (fun i => (i.zero, i.size, i.bytes)) = some (some (.agg #[.slice none 0 0, .slice none 0 0]), 2, 48) := by kernel_rfl

/-- Block g bears P pages. -/
def PgAt (w : World) (g P : Nat) (hv nv : Nat → Value) : Prop := ∃ cur, w.heap[g]? = some (.cells cur 95 (0, 0)) ∧ ∀ p, p < P → cur[p * 2]? = some (hv p) ∧ cur[p * 2 + 1]? = some (nv p)

theorem made_pages (P : Nat) (w : World) : ∃ cs : Array Value, (P ≤ 1000 → (Instr.makeSlice 69 (.int .i64 (P : Int)) (.int .i64 (P : Int))).run Try.prog w = .ok (.slice (some ⟨w.heap.size, 0, none⟩) P P) (w.alloc (.cells cs 95))) ∧ ∀ p, p < P → cs[p * 2]? = some (.slice none 0 0) ∧ cs[p * 2 + 1]? = some (.slice none 0 0) := by
  obtain ⟨i0, hi0, hz0, hz1, hz2⟩ := info_parts infoP
  refine ⟨madeCells (Value.cells (.agg #[.slice none 0 0, .slice none 0 0])) (P * 2), fun hP => ?_, fun p hp => ?_⟩
  · have h := run_make (P := Try.prog) w 69 95 i0 (.agg #[.slice none 0 0, .slice none 0 0]) Try.underlying69 hi0 hz0 .i64 .i64 P P (by omega) (by omega) (by rw [hz2]; omega) (by omega)
    rw [hz1, Int.toNat_natCast] at h
    exact h
  · have e1 : p * 2 < P * 2 := by omega
    have e2 : p * 2 + 1 < P * 2 := by omega
    have e3 : p * 2 % 2 = 0 := by omega
    have e4 : (p * 2 + 1) % 2 = 1 := by omega
    simp [madeCells, Value.cells, e1, e2, e3, e4]

theorem Fr.ka {n a b : Nat} {A B : World} {v : Value} {s : List Nat} (h : Fr n A v s) (k : Ka a b A B) (hb : b ≤ n) : Fr n B v s := by
  rcases h with h | ⟨g, c, h1, h2, h3, h4, h5⟩
  · exact .inl h
  · exact .inr ⟨g, c, h1, h2, h3, h4.of (k.block g h4.lt (by omega)), h5⟩
theorem PgAt.of {w w' : World} {g P : Nat} {hv nv : Nat → Value} (h : PgAt w g P hv nv) (e : w'.heap[g]? = w.heap[g]?) : PgAt w' g P hv nv := by
  obtain ⟨cur, h1, h2⟩ := h
  exact ⟨cur, e.trans h1, h2⟩
theorem PgAt.lt {w : World} {g P : Nat} {hv nv : Nat → Value} (h : PgAt w g P hv nv) : g < w.heap.size := by
  obtain ⟨cur, h1, h2⟩ := h
  exact lt_of_block h1
theorem PgAt.setH {w : World} {g P p : Nat} {hv nv : Nat → Value} (h : PgAt w g P hv nv) (hp : p < P) (v : Value) : PgAt (w.setCell ⟨g, p * 2, none⟩ v) g P (fun q => if q = p then v else hv q) nv := by
  obtain ⟨cur, h1, h2⟩ := h
  refine ⟨cur.setIfInBounds (p * 2) v, heap_setCell_same w _ _ _ _ _ h1, fun q hq => ?_⟩
  have hsz : p * 2 < cur.size := (Array.getElem?_eq_some_iff.1 (h2 p hp).1).1
  rw [Array.getElem?_setIfInBounds, Array.getElem?_setIfInBounds, if_neg (by omega : ¬ p * 2 = q * 2 + 1)]
  refine ⟨?_, (h2 q hq).2⟩
  by_cases e : q = p
  · subst e; rw [if_pos rfl, if_pos hsz]; simp
  · rw [if_neg (by omega)]; simp only [if_neg e]; exact (h2 q hq).1
theorem PgAt.c0 {w : World} {g P p : Nat} {hv nv : Nat → Value} (h : PgAt w g P hv nv) (hp : p < P) : w.cell? ⟨g, p * 2, none⟩ = some (hv p) ∧ w.frozen? ⟨g, p * 2, none⟩ = false := by
  obtain ⟨cur, h1, h2⟩ := h
  exact ⟨cell_blk h1 (h2 p hp).1, free_blk h1⟩

set_option maxRecDepth 100000 in
set_option maxHeartbeats 8000000 in
theorem blankPages_any (P : Nat) (hP : P ≤ 8) (w : World) :
    Calls Try.prog 59 #[.int .i64 (P : Int)] w fun e w' => ∃ g hv, e = .returned (.slice (some ⟨g, 0, none⟩) P P) ∧ w.heap.size ≤ g ∧ PgAt w' g P hv (fun _ => .slice none 0 0) ∧ (∀ p, p < P → Fr w.heap.size w' (hv p) ones60) ∧ Below w.heap.size w w' := by
  obtain ⟨cs, hmk0, hcs⟩ := made_pages P w
  have hmk := hmk0 (by omega)
  have HCS := hide hcs
  clear hmk0 hcs
  refine (callsIn_wide (n := 3)).1 ?_
  refine callsIn_of_wp_marks Try.func59 rfl trivial ?_ rfl
  simp only [Try.ntmps59, List.size_toArray, List.length_cons, List.length_nil, Nat.reduceAdd, Nat.reduceSub, Array.replicate_succ, Array.replicate_zero, List.push_toArray, List.append_toArray, List.nil_append, List.cons_append]
  gi_wp2
  clear hmk
  obtain ⟨w1, hw1⟩ : ∃ w1, (w.alloc (.cells cs 95)).alloc (.cells #[.slice (some ⟨w.heap.size, 0, none⟩) P P] 69) = w1 := ⟨_, rfl⟩
  have hz1 : w1.heap.size = w.heap.size + 2 := by rw [← hw1]; simp
  have hB1 : Below w.heap.size w w1 := by rw [← hw1]; exact ((Below.refl _ w).alloc (Nat.le_refl _) _).alloc (by simp) _
  have hH1 : w1.cell? ⟨w.heap.size + 1, 0, none⟩ = some (.slice (some ⟨w.heap.size, 0, none⟩) P P) := by
    rw [← hw1]
    have h := (cell_new' (w.alloc (.cells cs 95)) (.slice (some ⟨w.heap.size, 0, none⟩) P P) 69).1
    rw [World.size_alloc] at h
    exact h
  have hG1 : PgAt w1 w.heap.size P (fun _ => .slice none 0 0) (fun _ => .slice none 0 0) := ⟨cs, by rw [← hw1]; exact (Below.heap_alloc _ _ _ (by simp)).trans (World.alloc_heap_new w _), unhide HCS⟩
  rw [hw1]
  clear hw1 HCS
  have HB1 := hide hB1
  have HH1 := hide hH1
  have HG1 := hide hG1
  have hz1a := Nat.le_of_eq hz1
  have hz1b := Nat.le_of_eq hz1.symm
  clear hB1 hH1 hG1 hz1
  refine ⟨trivial, (callsIn_wide.2 (allP_any _ w1)).mono ?_⟩
  rintro e w2 ⟨rfl, hc2, hz2, hb2⟩
  have HB2 := hide ((unhide HB1).trans (hb2.mono (by omega)))
  have HH2 := hide ((hb2.cell (p := ⟨w.heap.size + 1, 0, none⟩) (by show w.heap.size + 1 < _; omega)).trans (unhide HH1))
  have HG2 := hide ((unhide HG1).of (hb2.block _ (by omega)))
  have hz2a := Nat.le_of_eq hz2
  have hz2b := Nat.le_of_eq hz2.symm
  obtain ⟨he, hq⟩ := allP_x (fun k => k = w.heap.size + 1 ∨ k = w1.heap.size) w1.heap.size (w.heap.size + 1) 0 w.heap.size P P (by omega) w2 hc2 (unhide HH2) (.inr rfl) (.inl rfl)
  have HE := hide he
  have HQ := hide hq
  have HC2 := hide hc2
  clear hc2 hz2 hb2 HB1 HH1 HG1 he hq
  gi_wp2
  refine wpIn_range_y (gf := 67) (lb := #[.pointer (some ⟨w1.heap.size, 0, none⟩)]) rfl (unhide HE) (unhide HQ) (fun k hk => by rcases hk with h | h <;> omega) (fun _ => rfl)
    (fun pre A => ∃ hv : Nat → Value, PgAt A w.heap.size P hv (fun _ => .slice none 0 0) ∧ (∀ p, p ∈ pre.map Fin.val → Fr (w2.heap.size + 2 + 0) A (hv p) ones60) ∧ A.cell? ⟨w.heap.size + 1, 0, none⟩ = some (.slice (some ⟨w.heap.size, 0, none⟩) P P) ∧ Below w.heap.size w A ∧ w2.heap.size ≤ A.heap.size)
    (fun s A B h hb => by
      obtain ⟨hv, h1, h2, h3, h4, h5⟩ := h
      have hb' := hb.below (by omega)
      exact ⟨hv, h1.of (hb'.block _ (by omega)), fun p hp => (h2 p hp).ka hb (by omega), hb.cell h3 (by dsimp only; omega), h4.trans (hb'.mono (by omega)), Nat.le_trans h5 hb.size⟩)
    ⟨_, unhide HG2, fun p hp => by simp at hp, unhide HH2, unhide HB2, Nat.le_refl _⟩ ?round ?done
  case done =>
    rintro D1 xs A hD hD2 hxs ⟨hv, h1, h2, h3, h4, h5⟩ hK
    have H1 := hide h1
    have H2 := hide h2
    have HB := hide h4
    have HX := hide hxs
    clear h1 h2 h4 hxs
    gi_wp2
    refine ⟨by simp, .inl ⟨_, _, rfl, run_takeDeferred hK, ?_⟩⟩
    refine ⟨_, results_tmp rfl _ _ _, w.heap.size, hv, rfl, Nat.le_refl _, (unhide H1).of (World.putObj_heap_other (by omega)), fun p hp => ?_, (unhide HB).trans (below_put _ _ (by omega))⟩
    have hF := unhide H2 p (by rw [unhide HX]; exact List.mem_range.2 hp)
    rcases hF with h | ⟨g, c, h1, h2, h3, h4, h5⟩
    · exact .inl h
    · exact .inr ⟨g, c, h1, h2, h3, h4.of (World.putObj_heap_other (by omega)), by omega⟩
  case round =>
    rintro l pre x A ⟨hv, h1, h2, h3, h4, h5⟩ hlen hs2A
    have hx := x.isLt
    gi_wp2
    refine ⟨⟨Ky.refl _ _ _ _, hv, h1, h2, h3, h4, h5⟩, ?_⟩
    clear h1 h2 h3 h4 h5 hv
    rintro W₂ hsz2 - - ⟨hv, h1, h2, h3, h4, h5⟩
    have hs3 : w2.heap.size + 2 + 0 ≤ W₂.heap.size := by omega
    clear hsz2 hs2A
    obtain ⟨i, hi⟩ : ∃ i, x.val = i := ⟨_, rfl⟩
    have HI := hide hi
    rw [hi] at hx ⊢
    clear hi
    have H1 := hide h1
    have H2 := hide h2
    have H3 := hide h3
    have H4 := hide h4
    clear h1 h2 h3 h4
    gi_wp2
    refine ⟨trivial, rfl, (callsIn_wide.2 (allOnes_any W₂)).mono ?_⟩
    rintro e W3 ⟨v, rfl, hF, hb⟩
    obtain ⟨go, co, rfl⟩ := ones_shape hF
    obtain ⟨v, hv0⟩ : ∃ v, Value.slice (some ⟨go, 0, none⟩) 60 co = v := ⟨_, rfl⟩
    have HV0 := hide hv0
    rw [hv0] at hF
    have hG3 := (unhide H1).of (hb.block _ (unhide H1).lt)
    obtain ⟨hc0, hf0⟩ := hG3.c0 hx
    have hG4 := hG3.setH hx v
    have hk4 : Below w.heap.size W3 (W3.setCell ⟨w.heap.size, i * 2, none⟩ v) := ⟨rfl, rfl, rfl, by simp [World.setCell], fun k hk => Below.heap_setCell _ _ _ _ (by show k ≠ w.heap.size; omega)⟩
    have hoth : ∀ k : Nat, k ≠ w.heap.size → (W3.setCell ⟨w.heap.size, i * 2, none⟩ v).heap[k]? = W3.heap[k]? := fun k hk => Below.heap_setCell _ _ _ _ hk
    have hsz4 : (W3.setCell ⟨w.heap.size, i * 2, none⟩ v).heap.size = W3.heap.size := by simp [World.setCell]
    have hlt := (unhide H1).lt
    have hR : postY w2.heap.size (fun k => k = w.heap.size + 1 ∨ k = w1.heap.size) 0 (fun pre A => ∃ hv : Nat → Value, PgAt A w.heap.size P hv (fun _ => .slice none 0 0) ∧ (∀ p, p ∈ pre.map Fin.val → Fr (w2.heap.size + 2 + 0) A (hv p) ones60) ∧ A.cell? ⟨w.heap.size + 1, 0, none⟩ = some (.slice (some ⟨w.heap.size, 0, none⟩) P P) ∧ Below w.heap.size w A ∧ w2.heap.size ≤ A.heap.size) (pre ++ [x]) W₂ .normal { tmps := #[], defers := [] } (W3.setCell ⟨w.heap.size, i * 2, none⟩ v) := by
      refine ⟨⟨by have := hb.size; omega, fun k hk hor => (hoth k (by rcases hor with h | h | h <;> omega)).trans (hb.block k hk)⟩, _, hG4, fun p hp => ?_, ?_, ((unhide H4).trans (hb.mono (unhide H4).size)).trans hk4, by have := hb.size; omega⟩
      · rw [List.map_append, List.mem_append] at hp
        have hfr : ∀ {u s}, Fr (w2.heap.size + 2 + 0) W3 u s → Fr (w2.heap.size + 2 + 0) (W3.setCell ⟨w.heap.size, i * 2, none⟩ v) u s := fun {u s} h => by
          rcases h with h | ⟨g, c, h1, h2, h3, h4, h5⟩
          · exact .inl h
          · exact .inr ⟨g, c, h1, h2, h3, h4.of (hoth g (by omega)), h5⟩
        by_cases e : p = i
        · simp only [if_pos e]
          exact hfr (hF.below (Below.refl _ _) hs3)
        · simp only [if_neg e]
          rcases hp with hp | hp
          · exact hfr ((unhide H2 p hp).below hb (Nat.le_refl _))
          · have : p = x.val := by simpa using hp
            exact absurd (this.trans (unhide HI)) e
      · exact (World.cell?_of_block (hoth _ (by show w.heap.size + 1 ≠ _; omega))).trans ((hb.cell (p := ⟨w.heap.size + 1, 0, none⟩) (by show w.heap.size + 1 < _; omega)).trans (unhide H3))
    have HR := hide hR
    rw [← hv0] at HR
    clear hv0
    clear hR hG3 hG4 hk4 hoth hsz4 hF hb
    gi_wp2
    exact unhide HR

end Go.Proofs.Ytnondiaefpdlpaa
