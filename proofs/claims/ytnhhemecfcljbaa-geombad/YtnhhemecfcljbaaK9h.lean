/-
  Rows of rows of ints that a call makes; geom.rank.
-/
import Derived.Test.YtnhhemecfcljbaaK9a
import Derived.Test.YtnhhemecfcljbaaG9
namespace Go.Proofs.Ytnhhemecfcljbaa
open Go.RowKit Go.Shelf

theorem infoRL : (Try.prog.info? 25).map (fun i => (i.zero, i.size, i.bytes)) = some (some (.slice none 0 0), 1, 24) := by kernel_rfl
theorem OwnI.keepT {base : Nat} {w w' : World} {v : Value} {l : List Nat} (h : OwnI base w v l) (k : ∀ (g : Nat) (cur : Array Value), base ≤ g → w.heap[g]? = some (.cells cur 3 (0, 0)) → w'.heap[g]? = w.heap[g]?) : OwnI base w' v l := by
  refine ⟨h.1, ?_⟩
  rcases h.2 with h' | ⟨g, cap, cur, h1, h2, h3, h4⟩
  · exact .inl h'
  · exact .inr ⟨g, cap, cur, h1, h2, (k g cur h2 h3).trans h3, h4⟩
theorem OwnI.sl {base : Nat} {w : World} {v : Value} {l : List Nat} (h : OwnI base w v l) : ∃ a c, v = .slice a l.length c := by
  rcases h.shape with ⟨h1, h2⟩ | ⟨q, cq, h1, _⟩
  · exact ⟨none, 0, by rw [h1, h2]; rfl⟩
  · exact ⟨_, _, h1⟩
/-- An item of such a row. -/
theorem OwnI.at9 {base : Nat} {w : World} {v : Value} {l : List Nat} (h : OwnI base w v l) {d : Nat} (hd : d < l.length) : ∃ q c, v = .slice (some ⟨q, 0, none⟩) l.length c ∧ w.cell? ⟨q, d, none⟩ = some (.int .i64 ((cf l d : Nat) : Int)) := by
  rcases h.shape with ⟨h1, h2⟩ | ⟨q, cq, h1, h2, h3, h4, h5, h6⟩
  · rw [h2] at hd; simp at hd
  · exact ⟨q, cq, h1, h6 d hd⟩
theorem OwnI.rowb {base : Nat} {w : World} {v : Value} {l : List Nat} (h : OwnI base w v l) (k : Nat) (hk : v.ownBlock = some k) : base ≤ k := by
  rcases h.shape with ⟨h1, _⟩ | ⟨q, cq, h1, h2, _⟩
  · rw [h1] at hk; cases hk
  · rw [h1] at hk; cases hk; exact h2

/-- The call owns these rows, and the row of their slices. -/
def OwnRI (base : Nat) (w : World) (v : Value) (ls : List (List Nat)) : Prop := ∃ f : Nat → Value, OwnC base w 25 v ls.length f ∧ ∀ i, i < ls.length → OwnI base w (f i) (ls.getD i [])
theorem OwnRI.nil (base : Nat) (w : World) : OwnRI base w (.slice none 0 0) [] := ⟨fun _ => undef, OwnC.nil _ _ _ _, fun i hi => by simp at hi⟩
theorem OwnRI.keep {base : Nat} {w w' : World} {v : Value} {ls : List (List Nat)} (h : OwnRI base w v ls) (k : ∀ (g : Nat) (cur : Array Value) (e : TypeId), base ≤ g → (e = 25 ∨ e = 3) → w.heap[g]? = some (.cells cur e (0, 0)) → w'.heap[g]? = w.heap[g]?) : OwnRI base w' v ls := by
  obtain ⟨f, h1, h2⟩ := h
  exact ⟨f, h1.keep (fun g cur a b => k g cur _ a (.inl rfl) b), fun i hi => (h2 i hi).keepT (fun g cur a b => k g cur _ a (.inr rfl) b)⟩
theorem OwnRI.below {base : Nat} {w w' : World} {v : Value} {ls : List (List Nat)} (h : OwnRI base w v ls) (k : Below w.heap.size w w') : OwnRI base w' v ls := h.keep (fun g _ _ _ _ h1 => k.block g (lt_of_block h1))
theorem OwnRI.mono {base b' : Nat} {w : World} {v : Value} {ls : List (List Nat)} (h : OwnRI base w v ls) (hb : b' ≤ base) : OwnRI b' w v ls := by
  obtain ⟨f, h1, h2⟩ := h
  exact ⟨f, h1.mono hb, fun i hi => (h2 i hi).mono hb⟩
theorem OwnRI.sl {base : Nat} {w : World} {v : Value} {ls : List (List Nat)} (h : OwnRI base w v ls) : ∃ a c, v = .slice a ls.length c := by
  obtain ⟨f, h1, _⟩ := h
  exact h1.shape
/-- A row of them. -/
theorem OwnRI.at {base : Nat} {w : World} {v : Value} {ls : List (List Nat)} (h : OwnRI base w v ls) {i : Nat} (hi : i < ls.length) : ∃ G c u, v = .slice (some ⟨G, 0, none⟩) ls.length c ∧ w.cell? ⟨G, i, none⟩ = some u ∧ OwnI base w u (ls.getD i []) := by
  obtain ⟨f, h1, h2⟩ := h
  obtain ⟨G, c, h3, h4, h5, h6, h7⟩ := h1.row (by omega)
  exact ⟨G, c, f i, h3, h7.cell hi, h2 i hi⟩
/-- One row more. -/
theorem OwnRI.snoc {base : Nat} {w w' : World} {v' u : Value} {ls : List (List Nat)} {r : List Nat} {f : Nat → Value} (h : ∀ i, i < ls.length → OwnI base w (f i) (ls.getD i []))
    (ho : OwnC base w' 25 v' (ls.length + 1) (fun i => if i = ls.length then u else f i)) (hk : ∀ (g : Nat) (cur : Array Value), base ≤ g → w.heap[g]? = some (.cells cur 3 (0, 0)) → w'.heap[g]? = w.heap[g]?) (hr : OwnI base w' u r) : OwnRI base w' v' (ls ++ [r]) := by
  refine ⟨_, by rw [List.length_append]; exact ho, fun i hi => ?_⟩
  rw [List.length_append] at hi
  by_cases e : i = ls.length
  · subst e
    rw [if_pos rfl, List.getD_eq_getElem?_getD, List.getElem?_append_right (Nat.le_refl _), Nat.sub_self]
    exact hr
  · have hi2 : i < ls.length := by simp at hi; omega
    rw [if_neg e, List.getD_eq_getElem?_getD, List.getElem?_append_left hi2, ← List.getD_eq_getElem?_getD]
    exact (h i hi2).keepT hk

/-- What rank answers: nothing, where a list lacks it. -/
def rkR (ls : List (List Nat)) (i : Nat) : List Nat := if ∀ l ∈ ls, i < l.length then rk9 ls i else []
theorem take_rows {ls : List (List Nat)} {k : Nat} (hk : k < ls.length) : ls.take (k + 1) = ls.take k ++ [ls.getD k []] := by
  rw [List.take_succ_eq_append_getElem hk, List.getD_eq_getElem?_getD, List.getElem?_eq_getElem hk]; rfl
theorem rk9_snoc (ls : List (List Nat)) (r : List Nat) (i : Nat) : rk9 (ls ++ [r]) i = rk9 ls i ++ [cf r i] := by simp [rk9]

set_option maxRecDepth 100000 in
set_option maxHeartbeats 4000000 in
theorem rank_any (base : Nat) (v : Value) (ls : List (List Nat)) (i : Nat) (w : World) (h : OwnRI base w v ls) (hls : ls.length ≤ 1000) :
    Calls Try.prog 29 #[v, .int .i64 (i : Int)] w fun e w' => ∃ u, e = .returned u ∧ OwnI w.heap.size w' u (rkR ls i) ∧ Below w.heap.size w w' := by
  obtain ⟨a, c, hv⟩ := h.sl
  subst hv
  obtain ⟨n, hn⟩ : ∃ n, ls.length = n := ⟨_, rfl⟩
  have HN := hide hn
  have HA := hide h
  rw [hn] at HA hls ⊢
  clear hn h
  obtain ⟨i0, hi0, hz0, hzz1, hz2⟩ := info_parts infoI
  have HI := hide hi0
  clear hi0
  go_enter Try.func29, Try.ntmps29
  go_wp2_with fail
  go_loopw [5, 10] (fun q5 q wr => ∃ k : Nat, q = .int .i64 k ∧ k ≤ n ∧ Hid (∀ l ∈ ls.take k, i < l.length) ∧ Hid (OwnI w.heap.size wr q5 (rk9 (ls.take k) i)) ∧ Hid (Below w.heap.size w wr)) (fun _ q _ => n - (intOf q).toNat)
  case atStart => exact ⟨0, rfl, by omega, (fun l h => by simp at h), OwnI.nil _ _, Below.refl _ _⟩
  case round =>
    obtain ⟨k, rfl, hk, HF, HO, HB⟩ := hrel
    by_cases hlt : k < n
    · have hk1 : (k : Int) < (n : Int) := by omega
      obtain ⟨G, c', u, hv, hc, hu⟩ := ((unhide HA).below (unhide HB)).at (i := k) (by rw [unhide HN]; exact hlt)
      obtain ⟨au, cu, hu2⟩ := hu.sl
      subst hu2
      have hrw : ls.take (k + 1) = ls.take k ++ [ls.getD k []] := take_rows (by rw [unhide HN]; exact hlt)
      have HMEM : Hid (ls.getD k [] ∈ ls) := by
        show _ ∈ _
        rw [List.getD_eq_getElem?_getD, List.getElem?_eq_getElem (by rw [unhide HN]; exact hlt)]
        exact List.getElem_mem _
      obtain ⟨r, hr⟩ : ∃ r, ls.getD k [] = r := ⟨_, rfl⟩
      rw [hr] at hc hu hrw HMEM
      have HRW := hide hrw
      obtain ⟨m, hm⟩ : ∃ m, r.length = m := ⟨_, rfl⟩
      have HM := hide hm
      have HU := hide hu
      rw [hm] at hc HU
      have hcc : a = some ⟨G, 0, none⟩ := by cases hv; rfl
      subst hcc
      clear hr hm hu hrw hv
      by_cases him : m ≤ i
      · have him1 : (m : Int) ≤ (i : Int) := by omega
        have HE : Hid (rkR ls i = []) := by show _ = _; rw [rkR, if_neg (fun h => by have := h r (unhide HMEM); have := unhide HM; omega)]
        go_wp2_with fail
        go_ret
        exact ⟨_, rfl, by rw [unhide HE]; exact OwnI.nil _ _, unhide HB⟩
      · have him1 : (i : Int) < (m : Int) := by omega
        obtain ⟨q, cq, hq, hcq⟩ := (unhide HU).at9 (d := i) (by rw [unhide HM]; omega)
        have hau : au = some ⟨q, 0, none⟩ := by cases hq; rfl
        subst hau
        obtain ⟨vo, vc, hvo⟩ := (unhide HO).sl
        subst hvo
        have hlr : (rk9 (ls.take k) i).length = k := by rw [rk9_len, List.length_take, unhide HN]; omega
        have HSN : Hid (rk9 (ls.take (k + 1)) i = rk9 (ls.take k) i ++ [cf r i]) := by show _ = _; rw [unhide HRW, rk9_snoc]
        have HF2 : Hid (∀ l ∈ ls.take (k + 1), i < l.length) := by
          intro l hl
          rw [unhide HRW] at hl
          rcases List.mem_append.1 hl with h | h
          · exact unhide HF l h
          · rw [List.mem_singleton.1 h, unhide HM]; omega
        obtain ⟨x, hx⟩ : ∃ x, cf r i = x := ⟨_, rfl⟩
        rw [hx] at hcq HSN
        obtain ⟨A, hA⟩ : ∃ A, rk9 (ls.take k) i = A := ⟨_, rfl⟩
        rw [hA] at HO HSN hlr ⊢
        have HLR := hide hlr
        rw [hlr] at HO ⊢
        have HAL : Hid (Below wr.heap.size wr (wr.alloc (.cells #[.int .i64 (x : Int)] 3))) := (Below.refl _ _).alloc (Nat.le_refl _) _
        have HO2 := hide ((unhide HO).below (unhide HAL))
        have HC2 := hide (cell_new' wr (.int .i64 (x : Int)) 3).1
        have hkl : A.length ≤ 1000 := by omega
        clear hx hA hq hlr
        go_wp2_with (at_builtin; refine wpList_append_int _ rfl _ _ 25 rfl w.heap.size 3 i0 Try.underlying25 (unhide HI) hz0 hzz1 hz2 (.slice vo k vc) A.length _ rfl (unhide HO2) wr.heap.size (x : Int) rfl (unhide HC2) (by omega) (by have := (unhide HB).size; simp; omega) ?_)
        intro v3 w3 ho hg
        have HO3 := hide (OwnI.snoc ho)
        have HB3 := hide (below_grown ((unhide HB).trans ((unhide HAL).mono (unhide HB).size)) hg (by have := (unhide HB).size; simp; omega) (fun k hk => (unhide HO2).rowb k hk))
        clear ho hg hcq
        go_wp2_with fail
        go_roundw
        case rel => exact ⟨k + 1, by go_num, by omega, HF2, by rw [unhide HSN]; exact HO3, HB3⟩
        case measure => simp [intOf]; omega
    · have hk2 : k = n := by omega
      subst hk2
      have HE : Hid (rkR ls i = rk9 (ls.take k) i) := by
        have h := unhide HF
        have e : ls.take k = ls := List.take_of_length_le (by rw [unhide HN]; omega)
        rw [e] at h
        show _ = _
        rw [rkR, if_pos h, e]
      obtain ⟨vo, vc, hvo⟩ := (unhide HO).sl
      subst hvo
      go_wp2_with fail
      go_ret
      exact ⟨_, rfl, by rw [unhide HE]; exact unhide HO, unhide HB⟩

end Go.Proofs.Ytnhhemecfcljbaa
