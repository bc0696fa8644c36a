/-
  Package poly's small functions: numbers, line.trimmed, line.said, slices.Backward.
-/
import Derived.Test.YtahjcahmlangiaaCore
import Derived.Test.YtahjcahmlangiaaPolB
import Derived.Test.YtahjcahmlangiaaGr3
import Derived.Test.YtahjcahmlangiaaRnd
namespace Go.Proofs.Ytahjcahmlangiaa
open Go.RowKit Go.Shelf
attribute [local go_sem] Oper.semAt_some

/-- As integers. -/
def ints (s : List Nat) : List Int := s.map (fun n : Nat => (n : Int))
theorem ints_len (s : List Nat) : (ints s).length = s.length := by simp [ints]
theorem ints_getD (s : List Nat) (j : Nat) : (ints s).getD j 0 = ((cf s j : Nat) : Int) := by
  rw [← cf_getD, ints, List.getD_eq_getElem?_getD, List.getD_eq_getElem?_getD, List.getElem?_map]
  cases s[j]? <;> rfl

theorem row_cell {w : World} {g g' o : Nat} {s : List Nat} (hr : Row w (some ⟨g', o, none⟩) g (ints s)) {j : Nat} (hj : j < s.length) : w.cell? ⟨g', o + j, none⟩ = some (.int .u8 ((cf s j : Nat) : Int)) := by
  rcases hr with h | ⟨o', h, hc⟩
  · rw [← ints_len, h] at hj; simp at hj
  · cases h
    rw [hc j (by rw [ints_len]; exact hj), ints_getD]

theorem row_some {w : World} {ao : Option Addr} {g : Nat} {s : List Nat} (hr : Row w ao g (ints s)) (hs : 0 < s.length) : ∃ o, ao = some ⟨g, o, none⟩ := by
  rcases hr with h | ⟨o', h, _⟩
  · rw [← ints_len, h] at hs; simp at hs
  · exact ⟨o', h⟩

theorem row_sub {w : World} {g o k : Nat} {s t : List Nat} (h : ∀ j, j < t.length → k + j < s.length ∧ cf t j = cf s (k + j)) (hr : Row w (some ⟨g, o, none⟩) g (ints s)) : Row w (some ⟨g, o + k, none⟩) g (ints t) := by
  refine .inr ⟨o + k, rfl, fun j hj => ?_⟩
  rw [ints_len] at hj
  rw [Nat.add_assoc, row_cell hr (h j hj).1, ints_getD, (h j hj).2]

theorem row_front {w : World} {ao : Option Addr} {g e : Nat} {s : List Nat} (hr : Row w ao g (ints s)) : Row w ao g (ints (s.take e)) := by
  rcases hr with h | ⟨o, rfl, hc⟩
  · left
    have : s = [] := List.eq_nil_of_length_eq_zero (by rw [← ints_len, h]; rfl)
    rw [this]; simp [ints]
  · refine .inr ⟨o, rfl, fun j hj => ?_⟩
    rw [ints_len, List.length_take] at hj
    rw [hc j (by rw [ints_len]; omega), ints_getD, ints_getD, cf_take, if_pos (by omega)]

theorem row_trim {w : World} {ao : Option Addr} {g : Nat} {s : List Nat} (hr : Row w ao g (ints s)) : Row w ao g (ints (trim s)) := by
  have h : trim s = s.take (trim s).length := by
    refine trim_take (trim_len s) (fun j hj => ?_) ?_
    · rw [← cf_trim, cf_ge hj]
    · by_cases h0 : trim s = []
      · left; rw [h0]; rfl
      · exact .inr (trim_last h0)
  rw [h]
  exact row_front hr

set_option maxHeartbeats 1000000 in
theorem numbers_any (v : Value) (w : World) : Calls Try.prog 42 #[v] w fun e w' => e = .returned v ∧ w' = w := by
  go_enter Try.func42, Try.ntmps42
  go_wp2
  go_ret
  exact ⟨rfl, rfl⟩

set_option maxRecDepth 100000 in
set_option maxHeartbeats 2000000 in
theorem trimmed_any (ao : Option Addr) (g n c : Nat) (s : List Nat) (w : World) (hl : s.length = n) (hr : Row w ao g (ints s)) (hnc : n ≤ c) (hcm : c ≤ maxLen) (hnil : ao = none → c = 0) :
    Calls Try.prog 43 #[.slice ao n c] w fun e w' => e = .returned (.slice ao (trim s).length c) ∧ w' = w := by
  have HR := hide hr
  have HN := hide hnil
  have HL := hide hl
  unfold maxLen at hcm
  clear hr hnil hl
  go_enter Try.func43, Try.ntmps43
  go_wp2_with fail
  go_loop [4] (fun p => ∃ e : Nat, p = .int .i64 e ∧ e ≤ n ∧ ∀ j, e ≤ j → cf s j = 0) (fun p => (intOf p).toNat)
  case atStart => exact ⟨n, rfl, Nat.le_refl _, fun j hj => cf_ge (by rw [unhide HL]; exact hj)⟩
  case round =>
    obtain ⟨e, rfl, he, hz⟩ := hrel
    have HZ := hide hz
    clear hz
    by_cases h0 : e = 0
    · subst h0
      have ht : Hid (trim s = []) := by show _ = _; rw [trim_take (Nat.zero_le _) (unhide HZ) (.inl rfl)]; rfl
      cases ao with
      | none =>
        obtain rfl := unhide HN rfl
        go_wp2
        go_ret
        rw [unhide ht]
        exact ⟨rfl, rfl⟩
      | some ad =>
        go_wp2
        go_ret
        rw [unhide ht]
        exact ⟨rfl, rfl⟩
    · obtain ⟨k, rfl⟩ : ∃ k, e = k + 1 := ⟨e - 1, by omega⟩
      have HL' := unhide HL
      obtain ⟨o, rfl⟩ := row_some (unhide HR) (by omega)
      have hc := row_cell (unhide HR) (j := k) (by omega)
      have h3 : (k : Int) < (n : Int) := by omega
      have h4 : (k : Int) + 1 ≤ (c : Int) := by omega
      clear HL' h0
      by_cases hk : cf s k = 0
      · have hk' : (((cf s k : Nat) : Int) == 0) = true := by rw [hk]; rfl
        go_wp2
        go_round
        case rel => exact ⟨k, by go_num, by omega, fun j hj => by
          by_cases e : j = k
          · rw [e]; exact hk
          · exact unhide HZ j (by omega)⟩
        case measure => simp [intOf]
      · have hk' : (((cf s k : Nat) : Int) == 0) = false := by rw [beq_eq_false_iff_ne]; omega
        have ht : Hid (trim s = s.take (k + 1)) := trim_take (by rw [unhide HL]; exact he) (unhide HZ) (.inr hk)
        go_wp2
        go_ret
        rw [unhide ht, List.length_take, unhide HL, Nat.min_eq_left he]
        exact ⟨rfl, rfl⟩

end Go.Proofs.Ytahjcahmlangiaa
