/-
  bytes.Clone.
-/
import Derived.Test.YtnondiaefpdlpaaBa
namespace Go.Proofs.Ytnondiaefpdlpaa
open Go.RowKit Go.Shelf

theorem own_none (w : World) (e : TypeId) : (w.alloc (.cells #[] e)).ownsRow w.heap.size e 1 (.slice (some ⟨w.heap.size, 0, none⟩) 0 0) 0 [] := by
  exact ⟨rfl, .inr ⟨w.heap.size, 0, #[], rfl, Nat.le_refl _, World.alloc_heap_new w _, by simp, by simp, rfl, rfl⟩⟩
theorem below_grown {n : Nat} {a w w' : World} {row : Option Nat} (h : Below n a w) (hg : w.grownBy w' row) (hn : n ≤ w.heap.size) (hr : ∀ k, row = some k → n ≤ k) : Below n a w' :=
  ⟨hg.os.trans h.os, hg.tape.trans h.tape, hg.output.trans h.output, Nat.le_trans h.size hg.size, fun k hk => (hg.block k (by omega) (fun e => by have := hr k e.symm; omega)).trans (h.block k hk)⟩

set_option maxRecDepth 100000 in
set_option maxHeartbeats 2000000 in
theorem cloneB_any (v : Value) (g : Nat) (s : List Nat) (w : World) (hA : Arg w v g s) (hs : s.length ≤ 100000) :
    Calls Try.prog 55 #[v] w fun e w' => ∃ v', e = .returned v' ∧ Fr w.heap.size w' v' s ∧ Below w.heap.size w w' := by
  obtain ⟨ao, c, hv, hc1, hc2, hnil, hr⟩ := hA.ex
  subst hv
  obtain ⟨i0, hi0, hz0, hz1, hz2⟩ := info_parts infoE
  have HI := hide hi0
  have HR := hide hr
  have HN := hide hnil
  clear hi0 hr hnil hA
  cases ao with
  | none =>
    have h0 : s = [] := by
      rcases unhide HR with h | ⟨o, h, _⟩
      · exact List.eq_nil_of_length_eq_zero (by rw [← ints_len, h]; rfl)
      · cases h
    have hc0 := unhide HN rfl
    subst h0
    subst hc0
    have hq : ∀ w : World, (binOp .eql 38 (.slice none 0 0) (.slice none 0 0)).run Try.prog w = .ok (.bool true) w := fun _ => by kernel_rfl
    rw [show ([] : List Nat).length = 0 from rfl]
    go_enter Try.func55, Try.ntmps55
    go_wp2_with fail
    go_ret
    exact ⟨_, rfl, .inl ⟨rfl, rfl⟩, Below.refl _ _⟩
  | some ad =>
    obtain ⟨n, hn⟩ : ∃ n, s.length = n := ⟨_, rfl⟩
    rw [hn] at hc1 ⊢
    have HL := hide hn
    rw [hn] at hs
    clear hn
    have hq : ∀ w : World, (binOp .eql 38 (.slice (some ad) n c) (.slice none 0 0)).run Try.prog w = .ok (.bool false) w := fun _ => by kernel_rfl
    have HE := hide (own_none w 5)
    have HKE : Hid (Below w.heap.size w (w.alloc (.cells #[] 5))) := (Below.refl _ _).alloc (Nat.le_refl _) _
    have HSRC : Hid (Row (w.alloc (.cells #[] 5)) (some ad) g (ints s)) := (unhide HR).below (unhide HKE)
    go_enter Try.func55, Try.ntmps55
    go_wp2_with (at_builtin; refine wpList_append_row _ rfl _ _ 38 rfl w.heap.size 5 i0 Try.underlying38 (unhide HI) hz0 hz1 hz2 (.slice (some ⟨w.heap.size, 0, none⟩) 0 0) 0 [] rfl (unhide HE) (some ad) g n c (ints s) rfl (by rw [ints_len]; exact unhide HL) (unhide HSRC) (fun h => by cases h) (by omega) (by simp) ?_)
    intro v2 w2 ho hg _
    have HB := hide (below_grown (unhide HKE) hg (by simp) (fun k hk => by have e2 : w.heap.size = k := Option.some.inj hk; omega))
    have HF := hide (owns_fr ho).2
    clear ho hg
    go_wp2_with fail
    go_ret
    exact ⟨_, rfl, unhide HF, unhide HB⟩

theorem Fr.shape {n : Nat} {w : World} {v : Value} {s : List Nat} (h : Fr n w v s) : ∃ to c, v = .slice to s.length c := by
  rcases h with ⟨rfl, rfl⟩ | ⟨g, c, rfl, _⟩
  · exact ⟨none, 0, rfl⟩
  · exact ⟨_, _, rfl⟩

end Go.Proofs.Ytnondiaefpdlpaa
