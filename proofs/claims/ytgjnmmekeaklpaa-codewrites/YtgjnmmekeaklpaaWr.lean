/-
  Steps of a region that draws its order: an empty slice is made; bytes are appended to it.
-/
import Derived.Test.YtgjnmmekeaklpaaRefW
import Derived.Test.YtgjnmmekeaklpaaDrive
namespace Go.Proofs.Ytgjnmmekeaklpaa
open Go.RowKit

theorem row_blk {w W : World} {ao : Option Addr} {g : Nat} {zs : List Int} (hr : Row w ao g zs) (h : W.heap[g]? = w.heap[g]?) : Row W ao g zs := by
  rcases hr with h0 | ⟨o, rfl, hc⟩
  · exact .inl h0
  · exact .inr ⟨o, rfl, fun j hj => by rw [World.cell?_of_block (w := w) h]; exact hc j hj⟩

theorem Kp.at {S : List Nat} {w w' : World} (h : Kp S w w') {k : Nat} (hk : k < w.heap.size) (hn : k ∉ S) : w'.heap[k]? = w.heap[k]? := h.block k hk hn

theorem wp_build0 {o : Oper} {a : Act} {w : World} {K : Act → World → Prop} {Q : Exit → Act → World → Prop} (ho : o.op = .buildSlice 22 0 #[])
    (h : ∀ W', W'.ownsRow w.heap.size 5 1 (.slice (some ⟨w.heap.size, 0, none⟩) 0 0) 0 [] → Kp [] w W' → w.heap.size < W'.heap.size → K (a.put o.dst (.slice (some ⟨w.heap.size, 0, none⟩) 0 0)) W') : o.wp Try.prog a w K Q := by
  have := h (w.alloc (.cells #[] 5)) (World.ownsRow_lit w #[] 0 (Nat.le_refl _) (by unfold maxLen; omega) rfl) ((Kp.refl _ _).alloc _) (by simp)
  unfold Oper.wp execOp
  simp only [ho]
  go_simp
  exact this

theorem wp_append_at {o : Oper} {a : Act} {w : World} {K : Act → World → Prop} {Q : Exit → Act → World → Prop} (s x : Operand) (ho : o.op = .call { callee := .builtin .append, args := #[s, x], argTypes := #[22, 22] })
    (base h : Nat) (ao : Option Addr) (g m c : Nat) (zs : List Int) (hs : a.eval s = .slice (some ⟨h, 0, none⟩) 0 0) (hx : a.eval x = .slice ao m c) (hown : w.ownsRow base 5 1 (.slice (some ⟨h, 0, none⟩) 0 0) 0 [])
    (hl : zs.length = m) (hrow : Row w ao g zs) (hnil : ao = none → m = 0 ∧ c = 0) (hm : m ≤ 1000) (hbase : base ≤ w.heap.size)
    (hK : ∀ g' c' W', W'.ownsRow base 5 1 (.slice (some ⟨g', 0, none⟩) m c') m (zs.map (Value.int .u8)) → Kp [h] w W' → (g' = h ∨ w.heap.size ≤ g') → K (a.put o.dst (.slice (some ⟨g', 0, none⟩) m c')) W') : o.wp Try.prog a w K Q := by
  obtain ⟨i0, hi, hz0, hz1, hz2⟩ := info_parts infoE
  obtain ⟨g', c', W', hr, h2, h3, h4⟩ : ∃ g' c' W', (Builtin.append_ #[22, 22] o.type #[.slice (some ⟨h, 0, none⟩) 0 0, .slice ao m c]).run Try.prog w = .ok (.slice (some ⟨g', 0, none⟩) m c') W' ∧
      W'.ownsRow base 5 1 (.slice (some ⟨g', 0, none⟩) m c') m (zs.map (Value.int .u8)) ∧ Kp [h] w W' ∧ (g' = h ∨ w.heap.size ≤ g') := by
    cases ao with
    | none =>
      obtain ⟨rfl, rfl⟩ := hnil rfl
      have hz0 : zs = [] := List.eq_nil_of_length_eq_zero hl
      subst hz0
      exact ⟨h, 0, w, run_append_owned_none (P := Try.prog) w base 22 o.type 5 i0 1 Try.underlying22 hi _ 0 [] hown, hown, Kp.refl _ _, .inl rfl⟩
    | some ad =>
      obtain ⟨v', W', hr, ho2, hg, hv, hat⟩ := run_append_own_at (P := Try.prog) w base 22 o.type 5 i0 (.int .u8 0) 1 1 Try.underlying22 hi hz0 hz1 hz2 rfl (by decide) _ 0 [] hown ad m c (zs.map (Value.int .u8)) (by simp [hl])
        (fun j u hu => by
          obtain ⟨hj, hu⟩ := List.getElem?_eq_some_iff.1 hu
          simp only [List.length_map] at hj
          rcases hrow with rfl | ⟨o, ho, hc⟩
          · simp at hj
          · cases ho
            rw [Addr.add_lit, hc j hj]
            simp [← hu, List.getD_eq_getElem?_getD, hj]) (ints_oneCell _ _) (by unfold maxLen; omega) (by omega) hbase
      rw [Nat.zero_add, List.nil_append] at ho2
      obtain ⟨g', c', rfl, _, _⟩ := owns_shape ho2 (fun e => by have := (hv.1 e).1; simp at this)
      refine ⟨g', c', W', hr, ho2, (Kp.refl _ w).grown hg (fun k hk => .inl (by simpa [Value.ownBlock] using hk.symm)), ?_⟩
      rcases hat with h5 | h5
      · left; simpa [Value.ownBlock] using h5
      · right; simp [Value.ownBlock] at h5; omega
  unfold Oper.wp
  simp [execOp, ho, resolve, invoke, builtin, hs, hx, hr, Result.andThen]
  exact hK g' c' W' h2 h3 h4

end Go.Proofs.Ytgjnmmekeaklpaa
