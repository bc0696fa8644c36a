/-
  The laws' own known.
-/
import Derived.Test.YtoljplfijopcmaaB6d
namespace Go.Proofs.Ytoljplfijopcmaa
open Go.RowKit Go.Shelf

theorem blk_one (w : World) (x : Nat) : Blk (w.alloc (.cells #[.int .u8 (x : Int)] 5)) w.heap.size [x] :=
  ⟨_, World.alloc_heap_new w _, fun j hj => by
    have : j = 0 := by simpa using hj
    subst this
    rfl⟩
theorem arg_one (w : World) (x : Nat) (hx : x < 256) : Arg (w.alloc (.cells #[.int .u8 (x : Int)] 5)) (.slice (some ⟨w.heap.size, 0, none⟩) 1 1) w.heap.size [x] :=
  (blk_one w x).arg (c := 1) (Bs.cons hx Bs.nil) (by simp) (by unfold maxLen; omega)

theorem known_apart : apL [1] [2] = [0, 1] := by decide +kernel

theorem OwnI.cells {base : Nat} {w : World} {v : Value} {l : List Nat} (h : OwnI base w v l) (hl : l ≠ []) : ∃ g c, v = .slice (some ⟨g, 0, none⟩) l.length c ∧ ∀ j, j < l.length → w.cell? ⟨g, j, none⟩ = some (.int .i64 ((cf l j : Nat) : Int)) := by
  rcases h.shape with ⟨_, h2⟩ | ⟨q, cq, h1, _, _, _, _, h6⟩
  · exact absurd h2 hl
  · exact ⟨q, cq, h1, h6⟩

theorem known_args (w W : World) (hW : (w.alloc (.cells #[.int .u8 1] 5)).alloc (.cells #[.int .u8 2] 5) = W) :
    Arg W (.slice (some ⟨w.heap.size, 0, none⟩) 1 1) w.heap.size [1] ∧ Arg W (.slice (some ⟨w.heap.size + 1, 0, none⟩) 1 1) (w.heap.size + 1) [2] ∧ Below w.heap.size w W := by
  subst hW
  refine ⟨(arg_one w 1 (by omega)).below ((Below.refl _ _).alloc (Nat.le_refl _) _), ?_, ((Below.refl _ w).alloc (Nat.le_refl _) _).alloc (by simp) _⟩
  have h := arg_one (w.alloc (.cells #[.int .u8 1] 5)) 2 (by omega)
  rwa [World.size_alloc] at h

set_option maxHeartbeats 1000000 in
theorem known_any (w : World) : Calls Try.prog 9 #[] w fun e w' => e = .returned (.bool true) ∧ Below w.heap.size w w' := by
  obtain ⟨W, hW⟩ : ∃ W, (w.alloc (.cells #[.int .u8 1] 5)).alloc (.cells #[.int .u8 2] 5) = W := ⟨_, rfl⟩
  obtain ⟨h1, h2, h3⟩ := known_args w W hW
  have H1 := hide h1
  have H2 := hide h2
  have H3 := hide h3
  clear h1 h2 h3
  go_enter Try.func9, Try.ntmps9
  go_wp2_with fail
  refine (apart_any _ _ _ _ [1] [2] _ (unhide H1) (unhide H2) (by simp)).mono ?_
  rintro e w2 ⟨r, rfl, hO, hk⟩
  rw [known_apart] at hO
  obtain ⟨g, c, rfl, hc⟩ := hO.cells (by simp)
  have c0 := hc 0 (by simp)
  have c1 := hc 1 (by simp)
  have HB := hide ((unhide H3).trans (hk.mono (unhide H3).size))
  clear hO hk hc
  have c0' : w2.cell? ⟨g, 0, none⟩ = some (.int .i64 0) := c0
  have c1' : w2.cell? ⟨g, 1, none⟩ = some (.int .i64 1) := c1
  clear c0 c1
  rw [show ([0, 1] : List Nat).length = 2 from rfl]
  go_wp2
  go_ret
  exact ⟨rfl, unhide HB⟩

end Go.Proofs.Ytoljplfijopcmaa
