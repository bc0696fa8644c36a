/-
  The laws' own Started, SameRow.
-/
import Derived.Test.YtjdikhelabibnaaGreatR11q
namespace Go.Proofs.YtjdikhelabibnaaGreat
open Go Go.RowKit Go.Shelf

theorem run_load_agg11 {o : Oper} {a : Act} {W : World} {ty : TypeId} {x : Operand} {ad : Addr} {cs : Array Value} (ho : o.op = .load ty x) (hx : a.eval x = .pointer (some ad)) (hl : (loadVar ty ad).run Tryz.prog W = .ok (.agg cs) W) : (execOp a.eval o).run Tryz.prog W = .ok (.value (.agg cs)) W := run_load_agg9 ho hx hl
set_option maxRecDepth 100000 in
set_option maxHeartbeats 8000000 in
theorem started_any (ao : Option Addr) (n c g : Nat) (l : List PV) (w : World) (hL : PgArg w (.slice ao n c) g l) :
    Calls Tryz.prog 38 #[.slice ao n c] w fun e w' => e = .returned (.bool (l.any (fun p => !(p.st == 0)))) ∧ w' = w := by
  obtain ⟨ao', c', hv, hnc, hcm, -, hr⟩ := hL.ex
  obtain ⟨rfl, hnl, rfl⟩ : ao = ao' ∧ n = l.length ∧ c = c' := by cases hv; exact ⟨rfl, rfl, rfl⟩
  have HNL := hide hnl
  have HR := hide hr
  have hnm : (n : Int) ≤ 9223372036854775807 := by unfold maxLen at hcm; omega
  clear hv hr hL hnl hnc hcm
  go_enter Tryz.func38, Tryz.ntmps38
  go_wp2_with fail
  go_loopw [3] (fun i wr => ∃ (k : Nat), k ≤ n ∧ i = .int .i64 k ∧ wr = w ∧ ∀ j, j < k → (l.getD j zPV).st = 0) (fun i _ => n - (intOf i).toNat)
  case atStart => exact ⟨0, by omega, rfl, rfl, by omega⟩
  case round =>
    obtain ⟨k, hkn, rfl, rfl, hz⟩ := hrel
    have HZ := hide hz
    clear hz
    by_cases hlt : k < n
    · have hi1 : (k : Int) < (n : Int) := by omega
      have hlt2 : k < l.length := by rw [← unhide HNL]; exact hlt
      obtain ⟨o, rfl, hcl⟩ := (unhide HR) (fun h => by rw [h] at hlt2; simp at hlt2)
      have hc : wr.cell? ⟨g, o + k * 2, none⟩ = some (.int .i64 (l.getD k zPV).st) := hcl k hlt2 0 _ rfl
      clear hcl
      by_cases hs : (l.getD k zPV).st = 0
      · rw [hs] at hc
        have HS := hide hs
        clear hs hlt2
        go_wp2_with fail
        go_roundw
        case rel => exact ⟨k + 1, by omega, by go_num, trivial, fun j hj => by
          by_cases e : j = k
          · rw [e]; exact unhide HS
          · exact unhide HZ j (by omega)⟩
        case measure => simp [intOf]; omega
      · have HF : Hid (l.any (fun p => !(p.st == 0)) = true) := by
          show _ = true
          rw [List.any_eq_true]
          exact ⟨_, getD_mem11 (z := zPV) hlt2, by simpa using hs⟩
        obtain ⟨s, hse⟩ : ∃ s, (l.getD k zPV).st = s := ⟨_, rfl⟩
        rw [hse] at hc hs
        clear hse hlt2
        go_wp2_with fail
        go_ret
        rw [unhide HF]
        exact ⟨rfl, rfl⟩
    · have hi1 : (n : Int) ≤ (k : Int) := by omega
      have HF : Hid (l.any (fun p => !(p.st == 0)) = false) := by
        show _ = false
        rw [List.any_eq_false]
        intro p hp
        obtain ⟨i, hi, he⟩ := mem_getD11 (z := zPV) hp
        have := unhide HZ i (by have := unhide HNL; omega)
        rw [he] at this
        simp [this]
      go_wp2_with fail
      go_ret
      rw [unhide HF]
      exact ⟨rfl, rfl⟩
/-- Rows are the same. -/
def sameRV (a b : RowV) : Prop := a.se = b.se ∧ a.at' = b.at' ∧ a.sl = b.sl
theorem ev_eq {a b : EV} : a = b ↔ (decide (a.k = b.k) && (decide (a.l = b.l) && (decide (a.s = b.s) && decide (a.d = b.d)))) = true := by
  obtain ⟨k, l, s, d⟩ := a
  obtain ⟨k', l', s', d'⟩ := b
  simp
set_option maxRecDepth 100000 in
set_option maxHeartbeats 16000000 in
theorem samerow_any (x x' : RowV) (ao ao' : Option Addr) (n n' c c' g g' : Nat) (w : World) (h : EArg w (.slice ao n c) g x.sl) (h' : EArg w (.slice ao' n' c') g' x'.sl) (r : Bool) (hr : r = true ↔ sameRV x x') :
    Calls Tryz.prog 18 #[.agg #[.int .i64 x.se, .int .i64 x.at', .slice ao n c], .agg #[.int .i64 x'.se, .int .i64 x'.at', .slice ao' n' c']] w fun e w' => e = .returned (.bool r) ∧ Below w.heap.size w w' := by
  obtain ⟨s, a, l⟩ := x
  obtain ⟨s', a', l'⟩ := x'
  dsimp only at h h' hr ⊢
  obtain ⟨ao1, c1, hv, hnc, hcm, -, hrw⟩ := h.ex
  obtain ⟨rfl, hnl, rfl⟩ : ao = ao1 ∧ n = l.length ∧ c = c1 := by cases hv; exact ⟨rfl, rfl, rfl⟩
  obtain ⟨ao2, c2, hv', hnc', hcm', -, hrw'⟩ := h'.ex
  obtain ⟨rfl, hnl', rfl⟩ : ao' = ao2 ∧ n' = l'.length ∧ c' = c2 := by cases hv'; exact ⟨rfl, rfl, rfl⟩
  have HOK : Hid (∀ i, (l.getD i zEV).Ok) := h.get_ok
  have HOK' : Hid (∀ i, (l'.getD i zEV).Ok) := h'.get_ok
  have HN := hide hnl
  have HN' := hide hnl'
  have HRW := hide hrw
  have HRW' := hide hrw'
  have hb1 : (n : Int) ≤ 9223372036854775807 := by unfold maxLen at hcm; omega
  have hb2 : (n' : Int) ≤ 9223372036854775807 := by unfold maxLen at hcm'; omega
  have HG : Hid (l ≠ [] → g < w.heap.size) := h.lt
  have HG' : Hid (l' ≠ [] → g' < w.heap.size) := h'.lt
  clear hv hv' hnl hnl' hrw hrw' h h' hcm hcm' hnc hnc'
  have HF : Hid (¬ (s = s' ∧ a = a' ∧ n = n') → r = false) := fun hn => by
    cases r
    · rfl
    · obtain ⟨h1, h2, h3⟩ := hr.1 rfl
      exact absurd ⟨h1, h2, by rw [unhide HN, unhide HN']; exact congrArg List.length h3⟩ hn
  have HRR := hide hr
  clear hr
  by_cases h1 : s = s'
  rotate_left 1
  · have := unhide HF (fun h => h1 h.1)
    subst this
    have hne : (s != s') = true := by simpa using h1
    go_enter Tryz.func18, Tryz.ntmps18
    go_wp2_with fail
    go_ret
    exact ⟨rfl, ((Below.refl _ w).alloc (Nat.le_refl _) _).alloc (by simp) _⟩
  by_cases h2 : a = a'
  rotate_left 1
  · have := unhide HF (fun h => h2 h.2.1)
    subst this
    subst h1
    have hne : (a != a') = true := by simpa using h2
    have hnf : (s != s) = false := by simp
    go_enter Tryz.func18, Tryz.ntmps18
    go_wp2_with fail
    go_ret
    exact ⟨rfl, ((Below.refl _ w).alloc (Nat.le_refl _) _).alloc (by simp) _⟩
  by_cases h3 : n = n'
  rotate_left 1
  · have := unhide HF (fun h => h3 h.2.2)
    subst this
    subst h1
    subst h2
    have hne : ((n : Int) != (n' : Int)) = true := by rw [bne_iff_ne]; omega
    have hnf : (s != s) = false := by simp
    have hnf2 : (a != a) = false := by simp
    go_enter Tryz.func18, Tryz.ntmps18
    go_wp2_with fail
    go_ret
    exact ⟨rfl, ((Below.refl _ w).alloc (Nat.le_refl _) _).alloc (by simp) _⟩
  subst h1
  subst h2
  subst h3
  clear HF
  have hnf : (s != s) = false := by simp
  have hnf2 : (a != a) = false := by simp
  have hnf3 : ((n : Int) != (n : Int)) = false := by simp
  go_enter Tryz.func18, Tryz.ntmps18
  go_wp2_with fail
  obtain ⟨w1, hw1⟩ : ∃ w1, (w.alloc (.cells #[.int .i64 s, .int .i64 a, .slice ao n c] 37)).alloc (.cells #[.int .i64 s, .int .i64 a, .slice ao' n c'] 37) = w1 := ⟨_, rfl⟩
  have Q1 : Hid (RwAt w1 w.heap.size s a (.slice ao n c)) := ⟨by rw [← hw1]; exact (Below.heap_alloc _ _ _ (by simp)).trans (World.alloc_heap_new w _)⟩
  have Q2 : Hid (RwAt w1 (w.heap.size + 1) s a (.slice ao' n c')) := ⟨by
    have h := World.alloc_heap_new (w.alloc (.cells #[.int .i64 s, .int .i64 a, .slice ao n c] 37)) (.cells #[.int .i64 s, .int .i64 a, .slice ao' n c'] 37)
    rw [World.size_alloc] at h
    rw [← hw1]; exact h⟩
  have HB : Hid (Below w.heap.size w w1) := by rw [← hw1]; exact ((Below.refl _ w).alloc (Nat.le_refl _) _).alloc (by simp) _
  rw [hw1]
  clear hw1 hnf hnf2 hnf3
  go_loopw [5] (fun i wr => ∃ (k : Nat), k ≤ n ∧ i = .int .i64 k ∧ Below w1.heap.size w1 wr ∧ ∀ j, j < k → l.getD j zEV = l'.getD j zEV) (fun i _ => n - (intOf i).toNat)
  case atStart => exact ⟨0, by omega, rfl, Below.refl _ _, by omega⟩
  case round =>
    obtain ⟨k, hkn, rfl, hB, hz⟩ := hrel
    have HZ := hide hz
    have HB2 := hide hB
    have q1 := (unhide Q1).below hB
    have q2 := (unhide Q2).below hB
    obtain ⟨-, -, hc1⟩ := q1.cells
    obtain ⟨-, -, hc2⟩ := q2.cells
    have H1 := hide q1
    have H2 := hide q2
    clear hz hB q1 q2
    by_cases hlt : k < n
    · have hi1 : (k : Int) < (n : Int) := by omega
      have hl1 : k < l.length := by rw [← unhide HN]; exact hlt
      have hl2 : k < l'.length := by rw [← unhide HN']; exact hlt
      obtain ⟨o, rfl, hcl⟩ := (unhide HRW) (fun h => by rw [h] at hl1; simp at hl1)
      obtain ⟨o', rfl, hcl'⟩ := (unhide HRW') (fun h => by rw [h] at hl2; simp at hl2)
      have hbb := (unhide HB).trans ((unhide HB2).mono (unhide HB).size)
      have HE1 : Hid (wr.rangeAt g (o + k * 19) (l.getD k zEV).cs) := fun j v hv => (hbb.cell (block_lt_of_cell (hcl k hl1 j v hv))).trans (hcl k hl1 j v hv)
      have HE2 : Hid (wr.rangeAt g' (o' + k * 19) (l'.getD k zEV).cs) := fun j v hv => (hbb.cell (block_lt_of_cell (hcl' k hl2 j v hv))).trans (hcl' k hl2 j v hv)
      have HL1 : Hid (g < wr.heap.size) := by have h1 := unhide HG (fun h => by rw [h] at hl1; simp at hl1); have h2 := hbb.size; show _ < _; omega
      have HL2 : Hid (g' < wr.heap.size) := by have h1 := unhide HG' (fun h => by rw [h] at hl2; simp at hl2); have h2 := hbb.size; show _ < _; omega
      clear hcl hcl' hbb hl1 hl2
      have ho1 := hide (unhide HOK k)
      have ho2 := hide (unhide HOK' k)
      obtain ⟨e, he⟩ : ∃ e, l.getD k zEV = e := ⟨_, rfl⟩
      obtain ⟨e', he'⟩ : ∃ e, l'.getD k zEV = e := ⟨_, rfl⟩
      rw [he] at HE1 ho1
      rw [he'] at HE2 ho2
      have HEE : Hid (l.getD k zEV = e ∧ l'.getD k zEV = e') := ⟨he, he'⟩
      clear he he'
      obtain ⟨q, hq⟩ : ∃ q, (!(decide (e.k = e'.k) && (decide (e.l = e'.l) && (decide (e.s = e'.s) && decide (e.d = e'.d))))) = q := ⟨_, rfl⟩
      have HNE : Hid (∀ W, (binOp .neq 44 (.agg e.ar) (.agg e'.ar)).run Tryz.prog W = .ok (.bool q) W) := fun W => neTE e.k e.l e.s e'.k e'.l e'.s e.d e'.d (unhide ho1).len (unhide ho2).len q hq W
      have HQ : Hid (q = false ↔ e = e') := by
        show _ ↔ _
        rw [ev_eq, ← hq]
        simp
      clear hq
      go_wp2_with fail
      refine wp_region_noPanic ?_
      refine wp_region_held_drew (S := fun W => Below wr.heap.size wr W) (by kernel_rfl) (Below.refl _ wr).drew (fun hHeld => ?_)
      have HH := hide hHeld
      clear hHeld
      refine takeL (i := 0) (v := ?_) rfl (by kernel_rfl) (by kernel_rfl) (by kernel_rfl) (fun _ _ _ h => h) (Or.inl ⟨by rfl, ?_⟩) (unhide HH) ?_
      rotate_left 1
      · intro W hSW; go_simp; all_goals (with_reducible rfl)
      (try simp only [Act.put, List.setIfInBounds_toArray, List.set_cons_zero, List.set_cons_succ])
      refine takeL (i := 1) (v := .slice (some ⟨g, o, none⟩) n c) rfl (by kernel_rfl) (by kernel_rfl) (by kernel_rfl) (fun _ _ _ h => h) (Or.inl ⟨by rfl, ?_⟩) (unhide HH) ?_
      · intro W1 hSW; have hc := (hSW.cell (p := ⟨w.heap.size, 2, none⟩) (unhide H1).lt).trans (unhide H1).cells.2.2; clear hSW; go_simp; all_goals (with_reducible rfl)
      (try simp only [Act.put, List.setIfInBounds_toArray, List.set_cons_zero, List.set_cons_succ])
      refine takeL (i := 2) (v := ?_) rfl (by kernel_rfl) (by kernel_rfl) (by kernel_rfl) (fun _ _ _ h => h) (Or.inl ⟨by rfl, ?_⟩) (unhide HH) ?_
      rotate_left 1
      · intro W hSW; go_simp; all_goals (with_reducible rfl)
      (try simp only [Act.put, List.setIfInBounds_toArray, List.set_cons_zero, List.set_cons_succ])
      refine takeL (i := 3) (v := ?_) rfl (by kernel_rfl) (by kernel_rfl) (by kernel_rfl) (fun _ _ _ h => h) (Or.inl ⟨by rfl, ?_⟩) (unhide HH) ?_
      rotate_left 1
      · intro W hSW; go_simp; all_goals (with_reducible rfl)
      (try simp only [Act.put, List.setIfInBounds_toArray, List.set_cons_zero, List.set_cons_succ])
      refine takeL (i := 4) (v := .agg (e.ar)) rfl (by kernel_rfl) (by kernel_rfl) (by kernel_rfl) (fun _ _ _ h => h) (Or.inl ⟨by rfl, fun W1 hSW => run_load_agg9 rfl rfl (load_ev (fun j v hv => (hSW.cell (unhide HL1)).trans (unhide HE1 j v hv)) (unhide ho1))⟩) (unhide HH) ?_
      (try simp only [Act.put, List.setIfInBounds_toArray, List.set_cons_zero, List.set_cons_succ])
      refine takeL (i := 5) (v := ?_) rfl (by kernel_rfl) (by kernel_rfl) (by kernel_rfl) (fun _ _ _ h => h) (Or.inl ⟨by rfl, ?_⟩) (unhide HH) ?_
      rotate_left 1
      · intro W hSW; go_simp; all_goals (with_reducible rfl)
      (try simp only [Act.put, List.setIfInBounds_toArray, List.set_cons_zero, List.set_cons_succ])
      refine takeL (i := 6) (v := .slice (some ⟨g', o', none⟩) n c') rfl (by kernel_rfl) (by kernel_rfl) (by kernel_rfl) (fun _ _ _ h => h) (Or.inl ⟨by rfl, ?_⟩) (unhide HH) ?_
      · intro W1 hSW; have hc := (hSW.cell (p := ⟨w.heap.size + 1, 2, none⟩) (unhide H2).lt).trans (unhide H2).cells.2.2; clear hSW; go_simp; all_goals (with_reducible rfl)
      (try simp only [Act.put, List.setIfInBounds_toArray, List.set_cons_zero, List.set_cons_succ])
      refine takeL (i := 7) (v := ?_) rfl (by kernel_rfl) (by kernel_rfl) (by kernel_rfl) (fun _ _ _ h => h) (Or.inl ⟨by rfl, ?_⟩) (unhide HH) ?_
      rotate_left 1
      · intro W hSW; go_simp; all_goals (with_reducible rfl)
      (try simp only [Act.put, List.setIfInBounds_toArray, List.set_cons_zero, List.set_cons_succ])
      refine takeL (i := 8) (v := ?_) rfl (by kernel_rfl) (by kernel_rfl) (by kernel_rfl) (fun _ _ _ h => h) (Or.inl ⟨by rfl, ?_⟩) (unhide HH) ?_
      rotate_left 1
      · intro W hSW; go_simp; all_goals (with_reducible rfl)
      (try simp only [Act.put, List.setIfInBounds_toArray, List.set_cons_zero, List.set_cons_succ])
      refine takeL (i := 9) (v := .agg (e'.ar)) rfl (by kernel_rfl) (by kernel_rfl) (by kernel_rfl) (fun _ _ _ h => h) (Or.inl ⟨by rfl, fun W1 hSW => run_load_agg9 rfl rfl (load_ev (fun j v hv => (hSW.cell (unhide HL2)).trans (unhide HE2 j v hv)) (unhide ho2))⟩) (unhide HH) ?_
      (try simp only [Act.put, List.setIfInBounds_toArray, List.set_cons_zero, List.set_cons_succ])
      refine takeL (i := 10) (v := .bool q) rfl (by kernel_rfl) (by kernel_rfl) (by kernel_rfl) (fun _ _ _ h => h) (Or.inl ⟨by rfl, fun W1 hSW => run_bin11 rfl rfl rfl (guard_TE _ _ _ _ _ _) (unhide HNE W1)⟩) (unhide HH) ?_
      (try simp only [Act.put, List.setIfInBounds_toArray, List.set_cons_zero, List.set_cons_succ])
      refine wpAnyH_done (by kernel_rfl) ?_ _
      refine NoPanic.normal ?_
      cases q with
      | false =>
        go_wp2_with fail
        go_roundw
        case rel => exact ⟨k + 1, by omega, by go_num, (unhide HB2).drew, fun j hj => by
          by_cases hjk : j = k
          · rw [hjk, (unhide HEE).1, (unhide HEE).2]; exact (unhide HQ).1 rfl
          · exact unhide HZ j (by omega)⟩
        case measure => simp [intOf]; omega
      | true =>
        go_wp2_with fail
        go_ret
        refine ⟨?_, (unhide HB).trans ((unhide HB2).drew.mono (unhide HB).size)⟩
        cases r with
        | false => rfl
        | true =>
          have h3 : l = l' := ((unhide HRR).1 rfl).2.2
          have h4 : e = e' := by rw [← (unhide HEE).1, ← (unhide HEE).2, h3]
          have h5 := (unhide HQ).2 h4
          cases h5
    · have hi1 : (n : Int) ≤ (k : Int) := by omega
      have HFIN : Hid (r = true) := by
        refine (unhide HRR).2 ⟨rfl, rfl, ?_⟩
        refine List.ext_getElem (by rw [← unhide HN, ← unhide HN']) (fun i h1 h2 => ?_)
        have h1' : i < l.length := h1
        have := unhide HZ i (by have h9 := unhide HN; omega)
        rw [List.getD_eq_getElem?_getD, List.getD_eq_getElem?_getD, List.getElem?_eq_getElem h1, List.getElem?_eq_getElem h2] at this
        exact this
      go_wp2_with fail
      go_ret
      exact ⟨by rw [unhide HFIN]; rfl, (unhide HB).trans ((unhide HB2).mono (unhide HB).size)⟩

end Go.Proofs.YtjdikhelabibnaaGreat
