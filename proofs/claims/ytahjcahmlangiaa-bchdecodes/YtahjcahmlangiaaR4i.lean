/-
  The second telling's single (ramekinref4).
-/
import Derived.Test.YtahjcahmlangiaaR4d
import Derived.Test.YtahjcahmlangiaaLp
namespace Go.Proofs.Ytahjcahmlangiaa
open Go.RowKit

/-- The table of logarithms (of nought: nought). -/
def lgv (x : Nat) : Nat := if x = 0 then 0 else L x
def lgA : Array Value := ((List.range 256).map (fun x => Value.int .i64 ((lgv x : Nat) : Int))).toArray
theorem lgA_size : lgA.size = 256 := by simp [lgA]
theorem lgA_get {i : Nat} (h : i < 256) : lgA[i]? = some (.int .i64 ((lgv i : Nat) : Int)) := by simp [lgA, h]
theorem lgA_cell {w : World} {b k : Nat} (h : w.heap[b]? = some (.cells lgA 91 (0, 0))) (hk : k < 256) : w.cell? ⟨b, k, none⟩ = some (.int .i64 ((lgv k : Nat) : Int)) := by
  have := lgA_get hk
  simp [World.cell?, h, this]
theorem lgA_one : lgA.all (·.oneCell') = true := by
  rw [Array.all_eq_true_iff_forall_mem]
  intro v hv
  simp only [lgA, List.mem_toArray, List.mem_map] at hv
  obtain ⟨i, _, rfl⟩ := hv
  rfl
theorem sizeG : (Try.prog.info? 91).map (·.size) = some 256 := by kernel_rfl

/-- Eight bytes as syndromes. -/
def Sf (s : List Nat) (e : Nat) : Nat := cf s (e - 1)
theorem Sf_zero (s : List Nat) : ZeroS (Sf s) ↔ zb s = true := by
  rw [zb_iff]
  constructor
  · intro h j hj
    have := h (j + 1) (by omega) (by omega)
    simpa [Sf] using this
  · intro h e h1 h8
    exact h (e - 1) (by omega)
theorem Sf_tL (s : List Nat) (k : Nat) {e : Nat} (h1 : 1 ≤ e) (h8 : e ≤ 8) : Sf (tL s k) e = tS (Sf s) k e := by
  unfold Sf tS
  rw [tL_cf s k (by omega), show e - 1 + 1 = e from by omega]
theorem Good.congr {S T : Nat → Nat} {l : List Nat} (h : Good S l) (e : ∀ k, 1 ≤ k → k ≤ 8 → S k = T k) : Good T l := ⟨h.nd, h.lt, fun k h1 h8 => (h.eq k h1 h8).trans (e k h1 h8)⟩
theorem ZeroS.congr {S T : Nat → Nat} (h : ZeroS S) (e : ∀ k, 1 ≤ k → k ≤ 8 → S k = T k) : ZeroS T := fun k h1 h8 => (e k h1 h8).symm.trans (h k h1 h8)
theorem zb_tL (s : List Nat) (k : Nat) : zb (tL s k) = true ↔ ZeroS (tS (Sf s) k) := by
  rw [← Sf_zero]
  exact ⟨fun h => h.congr (fun _ h1 h8 => Sf_tL s k h1 h8), fun h => h.congr (fun _ h1 h8 => (Sf_tL s k h1 h8).symm)⟩
theorem Good_tL {s l : List Nat} {k : Nat} : Good (Sf (tL s k)) l ↔ Good (tS (Sf s) k) l :=
  ⟨fun h => h.congr (fun _ h1 h8 => Sf_tL s k h1 h8), fun h => h.congr (fun _ h1 h8 => (Sf_tL s k h1 h8).symm)⟩

theorem arg_at {w : World} {g o n c : Nat} {s : List Nat} (h : Arg w (.slice (some ⟨g, o, none⟩) n c) g s) {j : Nat} (hj : j < s.length) : w.cell? ⟨g, o + j, none⟩ = some (.int .u8 ((cf s j : Nat) : Int)) := by
  obtain ⟨o', e, hc⟩ := h.cells (fun e => by rw [e] at hj; simp at hj)
  cases e
  exact hc j hj

/-- What single tells. -/
def SingleR (s : List Nat) (r : Int) : Prop := (∃ k : Nat, r = (k : Int) ∧ Good (Sf s) [k]) ∨ (r = -1 ∧ ∀ k, ¬ Good (Sf s) [k])

set_option maxRecDepth 100000 in
set_option maxHeartbeats 8000000 in
theorem single_any (v : Value) (g : Nat) (s : List Nat) (w : World) (hA : Arg w v g s) (hl : s.length = 8) :
    Calls Try.prog 62 #[v, .agg pwA, .agg lgA] w fun e w' => ∃ r : Int, e = .returned (.int .i64 r) ∧ SingleR s r ∧ Below w.heap.size w w' := by
  have HA0 := hide hA
  obtain ⟨⟨ao, c, rfl, hc1, hc2, hnil, hr⟩, hbs⟩ := hA
  obtain ⟨o, rfl⟩ := row_some hr (by omega)
  have HA := hide (show Arg w (.slice (some ⟨g, o, none⟩) 8 c) g s from by rw [← hl]; exact unhide HA0)
  have HL := hide hl
  have hB0 : Below w.heap.size w ((w.alloc (.cells pwA 50)).alloc (.cells lgA 91)) := ((Below.refl _ w).alloc (Nat.le_refl _) _).alloc (by simp) _
  have HB := hide hB0
  have HP : Hid (((w.alloc (.cells pwA 50)).alloc (.cells lgA 91)).heap[w.heap.size]? = some (.cells pwA 50 (0, 0))) := (Below.heap_alloc _ _ _ (by simp)).trans (World.alloc_heap_new w _)
  have HG : Hid (((w.alloc (.cells pwA 50)).alloc (.cells lgA 91)).heap[w.heap.size + 1]? = some (.cells lgA 91 (0, 0))) := by
    have h := World.alloc_heap_new (w.alloc (.cells pwA 50)) (.cells lgA 91)
    rw [World.size_alloc] at h
    exact h
  have hc0 := arg_at ((unhide HA).below hB0) (j := 0) (by omega)
  rw [Nat.add_zero] at hc0
  have hx256 := hbs 0
  obtain ⟨x, hx⟩ : ∃ x, cf s 0 = x := ⟨_, rfl⟩
  rw [hx] at hc0 hx256
  have hS1 : Sf s 1 = x := hx
  have HX := hide hS1
  have hcl := lgA_cell (unhide HG) hx256
  have hx255 : (x : Int) < 256 := by omega
  rw [hl]
  clear hr hnil hl hx hS1 hB0
  by_cases h0 : x = 0
  · subst h0
    have hno : SingleR s (-1) := .inr ⟨rfl, fun k hk => (single_find hk).1 (unhide HX)⟩
    have HN := hide hno
    clear hno
    go_enter Try.func62, Try.ntmps62
    go_wp2
    go_ret
    exact ⟨_, rfl, unhide HN, unhide HB⟩
  · have hlg : lgv x = L x := if_neg h0
    rw [hlg] at hcl
    obtain ⟨y, hy⟩ : ∃ y, L x = y := ⟨_, rfl⟩
    rw [hy] at hcl
    have HY := hide hy
    have hy255 : y < 255 := by rw [← hy]; exact (E_L (by omega) hx256).2
    have hx0 : ((x : Int) == 0) = false := by rw [beq_eq_false_iff_ne]; omega
    clear hlg hy
    by_cases h224 : y < 224
    · have hyd : decide ((224 : Int) ≤ (y : Int)) = false := by rw [decide_eq_false_iff_not]; omega
      have HA2 := hide ((unhide HA).below (unhide HB))
      go_enter Try.func62, Try.ntmps62
      go_wp2_with fail
      refine wp_load_row 50 _ rfl w.heap.size rfl 50 pwA _ _ (unhide HP) Try.underlying50 rfl (by rw [sizeA, pwA_size]) ?_
      rename_i hK0
      refine hK0 _ _ ?_
      (try simp only [Act.put, List.setIfInBounds_toArray, List.set_cons_zero, List.set_cons_succ])
      go_wp2_with fail
      refine (turned_any _ _ s y _ (unhide HA2) (unhide HL) (by omega)).mono ?_
      rintro e w3 ⟨v3, rfl, hF, hk⟩
      obtain ⟨g3, hA3, _⟩ := hF.arg (tL_bs hbs y)
      have HA3 := hide hA3
      have HB3 := hide ((unhide HB).trans (hk.mono (unhide HB).size))
      clear hF hk hA3 hc0 hcl
      go_wp2_with fail
      refine (zero_any _ _ (tL s y) w3 (unhide HA3) (tL_len s y)).mono ?_
      rintro e w4 ⟨rfl, hw4⟩
      subst hw4
      obtain ⟨b, hb⟩ : ∃ b, zb (tL s y) = b := ⟨_, rfl⟩
      have HZB := hide hb
      rw [hb]
      clear hb
      cases b with
      | true =>
        have hg : SingleR s (y : Int) := .inl ⟨y, rfl, by
          have h := single_good (S := Sf s) (by rw [unhide HX, unhide HY]; exact h224) (by rw [unhide HX, unhide HY]; exact (zb_tL s y).1 (unhide HZB))
          rw [unhide HX, unhide HY] at h
          exact h⟩
        have HN := hide hg
        clear hg
        go_wp2
        go_ret
        exact ⟨_, rfl, unhide HN, unhide HB3⟩
      | false =>
        have hno : SingleR s (-1) := .inr ⟨rfl, fun k hk => by
          obtain ⟨_, h2, h3⟩ := single_find hk
          rw [unhide HX, unhide HY] at h2
          rw [← h2] at h3
          have := (zb_tL s y).2 h3
          rw [unhide HZB] at this
          cases this⟩
        have HN := hide hno
        clear hno
        go_wp2
        go_ret
        exact ⟨_, rfl, unhide HN, unhide HB3⟩
    · have hy1 : (224 : Int) ≤ (y : Int) := by omega
      have hno : SingleR s (-1) := .inr ⟨rfl, fun k hk => by
        obtain ⟨_, h2, _⟩ := single_find hk
        rw [unhide HX, unhide HY] at h2
        have := hk.lt k (by simp)
        omega⟩
      have HN := hide hno
      clear hno
      go_enter Try.func62, Try.ntmps62
      go_wp2
      go_ret
      exact ⟨_, rfl, unhide HN, unhide HB⟩

end Go.Proofs.Ytahjcahmlangiaa
