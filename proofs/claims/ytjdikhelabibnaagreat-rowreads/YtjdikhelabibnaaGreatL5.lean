/-
  What the laws of stage 5 want: rows put together, parities of few bytes.
-/
import Derived.Test.YtjdikhelabibnaaGreatH5
namespace Go.Proofs.YtjdikhelabibnaaGreat
open Go.RowKit

theorem own_empty (w : World) : OwnR w.heap.size (w.alloc (.cells #[] 47)) (.slice (some ⟨w.heap.size, 0, none⟩) 0 0) [] [] := by
  refine ⟨rfl, ⟨rfl, .inr ⟨w.heap.size, 0, #[], rfl, Nat.le_refl _, World.alloc_heap_new w _, by simp, by simp, rfl, rfl⟩⟩, fun i hi => by simp at hi⟩
/-- All of them go behind nothing. -/
theorem OwnR.app {base : Nat} {w w' : World} {v v' : Value} {ps : List (Option Addr × Nat)} {l : List (List Nat)} {m : Nat} (h : OwnR base w v [] []) (hl : l.length = m) (hp : ps.length = l.length)
    (ho : w'.ownsRow base 47 1 v' m (vals5 ps l)) (hrows : ∀ i, i < l.length → ∃ g, Arg w' (.slice (psA ps i) (l.getD i []).length (psC ps i)) g (l.getD i [])) : OwnR base w' v' ps l := by
  have := h
  refine ⟨hp, ?_, hrows⟩
  rw [← hl] at ho
  exact ho
theorem Arg.grown {w w' : World} {v : Value} {g : Nat} {s : List Nat} {row : Option Nat} (h : Arg w v g s) (hg : w.grownBy w' row) (hr : s ≠ [] → row ≠ some g) : Arg w' v g s := by
  by_cases hs : s = []
  · subst hs
    obtain ⟨⟨ao, c, h1, h2, h3, h4, _⟩, hb⟩ := h
    exact ⟨⟨ao, c, h1, h2, h3, h4, .inl rfl⟩, hb⟩
  · have hlt := h.lt hs
    obtain ⟨⟨ao, c, h1, h2, h3, h4, h5⟩, hb⟩ := h
    refine ⟨⟨ao, c, h1, h2, h3, h4, ?_⟩, hb⟩
    rcases h5 with h0 | ⟨o, rfl, hc⟩
    · exact .inl h0
    · exact .inr ⟨o, rfl, fun j hj => (World.cell?_of_block (hg.block g hlt (fun e => hr hs e.symm))).trans (hc j hj)⟩

theorem sm_next (c : Nat → Nat) (l : List (List Nat)) (i k : Nat) : sm c l (List.range (i + 1)) k = sm c l (List.range i) k ^^^ gmul (rc l i k) (c i) := by
  unfold sm
  rw [List.range_succ, xsum_append]
  simp
theorem sm_snoc (c : Nat → Nat) (l : List (List Nat)) (r : List Nat) (n k : Nat) (h : n ≤ l.length) : sm c (l ++ [r]) (List.range n) k = sm c l (List.range n) k := xsum_congr (fun i hi => by
  have := List.mem_range.1 hi
  show gmul (rc (l ++ [r]) i k) (c i) = _
  unfold rc
  rw [getD_snoc (by omega)])
theorem smL_one (c : Nat → Nat) (l : List (List Nat)) (is : List Nat) : smL c l is 1 = [sm c l is 0] := rfl
theorem okP_of {l : List (List Nat)} {n s : Nat} (hl : l.length = n) (h1 : 2 ≤ n) (h2 : n ≤ 14) (hs : ∀ i, i < n → (l.getD i []).length = s) : okP l = true ∧ size l = s := by
  refine ⟨?_, hs 0 (by omega)⟩
  unfold okP
  rw [(evn_iff l).2 (evn_of (n := s) (fun i hi => hs i (by omega))), hl]
  simp
  omega
theorem par_of {l : List (List Nat)} (h : okP l = true) : pP l = smL (fun _ => 1) l (List.range l.length) (size l) ∧ pQ l = smL E l (List.range l.length) (size l) := by
  unfold pP pQ
  rw [if_pos h, if_pos h]
  exact ⟨rfl, rfl⟩
theorem par_bs {l : List (List Nat)} (h : ∀ i, Bs (l.getD i [])) : Bs (pP l) ∧ Bs (pQ l) := by
  unfold pP pQ
  refine ⟨?_, ?_⟩
  · split
    · exact smL_bs h
    · exact Bs.nil
  · split
    · exact smL_bs h
    · exact Bs.nil
theorem OwnR.bs {base : Nat} {w : World} {v : Value} {ps : List (Option Addr × Nat)} {l : List (List Nat)} (h : OwnR base w v ps l) (i : Nat) : Bs (l.getD i []) := by
  obtain ⟨G, hG, _⟩ := h.arg
  exact hG.bs i
theorem len_of {l : List (List Nat)} {n s : Nat} (hl : l.length = n) (hs : ∀ i, i < n → (l.getD i []).length = s) (h5 : s ≤ 100000) (i : Nat) : (l.getD i []).length ≤ 100000 := by
  by_cases h : i < n
  · rw [hs i h]; exact h5
  · rw [List.getD_eq_getElem?_getD, List.getElem?_eq_none (by omega)]; simp

theorem OwnR.src {base g n c : Nat} {w : World} {ps : List (Option Addr × Nat)} {l : List (List Nat)} (h : OwnR base w (.slice (some ⟨g, 0, none⟩) n c) ps l) : SrcV w (some ⟨g, 0, none⟩) g (vals5 ps l) := by
  rcases h.shape with ⟨h1, _⟩ | ⟨q, cap, h1, _, _, _, _, _, h2⟩
  · cases h1
  · cases h1
    refine .inr ⟨0, rfl, fun j u hu => ?_⟩
    have hj : j < l.length := by
      have := (List.getElem?_eq_some_iff.1 hu).1
      rwa [vals_len h.len] at this
    rw [vals_get h.len hj] at hu
    cases hu
    rw [Nat.zero_add]
    exact h2 j hj
/-- Rows that the call owns, some of them: their slice. -/
theorem OwnR.some {base : Nat} {w : World} {v : Value} {ps : List (Option Addr × Nat)} {l : List (List Nat)} {n : Nat} (h : OwnR base w v ps l) (hl : l.length = n) (hn : 0 < n) : ∃ g cap, v = .slice (some ⟨g, 0, none⟩) n cap ∧ base ≤ g ∧ g < w.heap.size ∧ n ≤ cap ∧ cap ≤ maxLen ∧
    ∀ j, j < n → w.cell? ⟨g, j, none⟩ = some (.slice (psA ps j) (l.getD j []).length (psC ps j)) := by
  rcases h.shape with ⟨_, h2⟩ | ⟨g, cap, h1, h2, h3, h4, h5, _, h6⟩
  · rw [h2] at hl; simp at hl; omega
  · rw [hl] at h1 h4 h6
    exact ⟨g, cap, h1, h2, h3, h4, h5, h6⟩
theorem Arg.first {w : World} {ao : Option Addr} {n c g : Nat} {s : List Nat} (h : Arg w (.slice ao n c) g s) (hs : 0 < s.length) : ∃ o, ao = some ⟨g, o, none⟩ ∧ w.cell? ⟨g, o, none⟩ = some (.int .u8 ((cf s 0 : Nat) : Int)) := by
  obtain ⟨o, h1, h2⟩ := h.cells (fun e => by rw [e] at hs; simp at hs)
  exact ⟨o, h1, h2 0 hs⟩

/-- Bytes that are filled in, so many so far. -/
def fillK (n : Nat) (f : Nat → Nat) (k : Nat) : List Nat := (List.range n).map (fun j => if j < k then f j else 0)
theorem fillK_len (n : Nat) (f : Nat → Nat) (k : Nat) : (fillK n f k).length = n := by simp [fillK]
theorem cf_fillK (n : Nat) (f : Nat → Nat) (k j : Nat) : cf (fillK n f k) j = if j < n then (if j < k then f j else 0) else 0 := cf_range _ _ _
theorem fillK_zero (n : Nat) (f : Nat → Nat) : fillK n f 0 = List.replicate n 0 := by
  refine eq_of_cf (by simp [fillK]) (fun j => ?_)
  rw [cf_fillK, cf_replicate]
  simp
theorem fillK_step {n : Nat} {f : Nat → Nat} {k : Nat} (hk : k < n) : (fillK n f k).set k (f k) = fillK n f (k + 1) := by
  refine eq_of_cf (by simp [fillK]) (fun j => ?_)
  rw [cf_set _ _ _ _ (by rw [fillK_len]; exact hk), cf_fillK, cf_fillK]
  by_cases h : j = k
  · subst h; rw [if_pos rfl, if_pos hk, if_pos (by omega)]
  · rw [if_neg h]
    by_cases h' : j < n
    · rw [if_pos h', if_pos h']
      by_cases h2 : j < k
      · rw [if_pos h2, if_pos (by omega)]
      · rw [if_neg h2, if_neg (by omega)]
    · rw [if_neg h', if_neg h']
theorem fillK_bs {n : Nat} {f : Nat → Nat} {k : Nat} (h : ∀ j, f j < 256) : Bs (fillK n f k) := fun j => by
  rw [cf_fillK]
  split
  · split
    · exact h j
    · omega
  · omega
theorem sm_lin {c : Nat → Nat} {x y z : List (List Nat)} {is : List Nat} {k : Nat} (hc : ∀ i, c i < 256) (hx : ∀ i, Bs (x.getD i [])) (hy : ∀ i, Bs (y.getD i [])) (h : ∀ i ∈ is, rc z i k = rc x i k ^^^ rc y i k) : sm c z is k = sm c x is k ^^^ sm c y is k := by
  unfold sm
  rw [← xsum_xor]
  exact xsum_congr (fun i hi => by show gmul (rc z i k) (c i) = _; rw [h i hi]; exact xor_gmul (hx i k) (hy i k) (hc i))

theorem below_kp {n : Nat} {S : List Nat} {a b c : World} (h : Below n a b) (k : Kp S b c) (hs : ∀ s ∈ S, n ≤ s) (hn : n ≤ b.heap.size) : Below n a c :=
  ⟨k.os.trans h.os, k.tape.trans h.tape, k.output.trans h.output, Nat.le_trans h.size k.size, fun i hi => (k.block i (by omega) (fun hm => by have := hs i hm; omega)).trans (h.block i hi)⟩
/-- A row's byte, where it lies. -/
theorem own_byte {base : Nat} {w : World} {g n cap : Nat} {ps : List (Option Addr × Nat)} {l : List (List Nat)} {s : Nat} (h : OwnR base w (.slice (some ⟨g, 0, none⟩) n cap) ps l) (hl : l.length = n) {i : Nat} (hi : i < n) (hs : (l.getD i []).length = s) (h0 : 0 < s) :
    ∃ gx ox cx, w.cell? ⟨g, i, none⟩ = some (.slice (some ⟨gx, ox, none⟩) s cx) ∧ ∀ k, k < s → w.cell? ⟨gx, ox + k, none⟩ = some (.int .u8 ((rc l i k : Nat) : Int)) := by
  obtain ⟨_, _, hsh, _, _, _, _, hcl⟩ := h.some hl (by omega)
  cases hsh
  have hc := hcl i hi
  obtain ⟨gx, hA⟩ := h.rows i (by omega)
  obtain ⟨o, hao, hb⟩ := hA.cells (fun e => by rw [e] at hs; simp at hs; omega)
  rw [hao, hs] at hc
  exact ⟨gx, o, _, hc, fun k hk => hb k (by rw [hs]; exact hk)⟩

/-- Bytes do not lie where slices lie. -/
theorem blk_ne_own {base g : Nat} {w : World} {v : Value} {ps : List (Option Addr × Nat)} {l : List (List Nat)} {r : List Nat} (h : OwnR base w v ps l) (hb : Blk w g r) : v.ownBlock ≠ Option.some g := by
  intro e
  obtain ⟨cur, h1, _⟩ := hb
  rcases h.shape with ⟨h2, _⟩ | ⟨q, cap, h2, _, _, _, _, ⟨cur2, h3, _⟩, _⟩
  · rw [h2] at e; cases e
  · rw [h2] at e
    have e2 : q = g := Option.some.inj e
    rw [e2, h1] at h3
    simp at h3
theorem Blk.grown {g : Nat} {w w' : World} {r : List Nat} {row : Option Nat} (h : Blk w g r) (hg : w.grownBy w' row) (hr : row ≠ Option.some g) : Blk w' g r := h.of (hg.block g h.lt (fun e => hr e.symm))

end Go.Proofs.YtjdikhelabibnaaGreat
