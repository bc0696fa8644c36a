/-
  The laws' own within, bytes.
-/
import Derived.Test.YtnondiaefpdlpaaMd
namespace Go.Proofs.Ytnondiaefpdlpaa
open Go.RowKit Go.Shelf

theorem within7_any (a n : Int) (w : World) (hn : 0 < n) (hn2 : n < 100000) :
    Calls Try.prog 20 #[.int .i64 a, .int .i64 n] w fun e w' => e = .returned (.int .i64 (a % n)) ∧ w' = w := by
  obtain ⟨h1, h2, h3, h4⟩ := tmod_emod a n hn
  have H1 := hide h1
  have H2 := hide h2
  clear h1 h2
  go_enter Try.func20, Try.ntmps20
  go_wp2
  · have h5 : a.tmod n < 0 := by assumption
    go_ret
    exact ⟨by rw [← unhide H1 h5]; rfl, rfl⟩
  · have h5 : 0 ≤ a.tmod n := by assumption
    go_ret
    exact ⟨by rw [← unhide H2 h5]; rfl, rfl⟩

/-- Sixty bytes, of some again and again. -/
def by60 (b : List Nat) : List Nat := (List.range 60).map (fun i => cf b (i % b.length))
theorem by60_len (b : List Nat) : (by60 b).length = 60 := by simp [by60]
theorem cf_map_range {f : Nat → Nat} {n i : Nat} (h : i < n) : cf ((List.range n).map f) i = f i := by
  have h1 : i < ((List.range n).map f).length := by simpa using h
  have h2 := cf_get h1
  rw [List.getElem?_map, List.getElem?_range h] at h2
  exact (Option.some.inj h2).symm
theorem by60_bs {b : List Nat} (h : Bs b) : Bs (by60 b) := Bs.of (fun x hx => by
  obtain ⟨i, _, rfl⟩ := List.mem_map.1 hx
  exact h _)
theorem cf_by60 (b : List Nat) {i : Nat} (h : i < 60) : cf (by60 b) i = cf b (i % b.length) := cf_map_range h
theorem by60_one (x : Nat) : by60 [x] = List.replicate 60 x := by
  refine eq_of_cf (by rw [by60_len, List.length_replicate]) (fun i => ?_)
  by_cases h : i < 60
  · rw [cf_by60 _ h, cf_rep x h, show i % [x].length = 0 from Nat.mod_one i]; rfl
  · rw [cf_ge (by rw [by60_len]; omega), cf_ge (by rw [List.length_replicate]; omega)]
theorem by60_nil : by60 [] = List.replicate 60 0 := by
  refine eq_of_cf (by rw [by60_len, List.length_replicate]) (fun i => ?_)
  by_cases h : i < 60
  · rw [cf_by60 _ h, cf_rep 0 h]; rfl
  · rw [cf_ge (by rw [by60_len]; omega), cf_ge (by rw [List.length_replicate]; omega)]
def byI (b : List Nat) (n : Nat) : List Nat := (List.range 60).map (fun i => if i < n then cf b (i % b.length) else 0)
theorem byI_len (b : List Nat) (n : Nat) : (byI b n).length = 60 := by simp [byI]
theorem byI_step (b : List Nat) {n : Nat} (h : n < 60) : (byI b n).set n (cf b (n % b.length)) = byI b (n + 1) := by
  refine eq_of_cf (by rw [List.length_set, byI_len, byI_len]) (fun i => ?_)
  rw [cf_set _ _ _ _ (by rw [byI_len]; exact h)]
  by_cases hi : i < 60
  · rw [byI, byI, cf_map_range hi, cf_map_range hi]
    by_cases e : i = n
    · rw [if_pos e, if_pos (by omega), e]
    · rw [if_neg e]
      by_cases e2 : i < n
      · rw [if_pos e2, if_pos (by omega)]
      · rw [if_neg e2, if_neg (by omega)]
  · rw [if_neg (by omega), cf_ge (by rw [byI_len]; omega), cf_ge (by rw [byI_len]; omega)]
theorem byI_zero (b : List Nat) : byI b 0 = List.replicate 60 0 := by
  refine eq_of_cf (by rw [byI_len, List.length_replicate]) (fun i => ?_)
  by_cases h : i < 60
  · rw [byI, cf_map_range h, cf_rep 0 h, if_neg (by omega)]
  · rw [cf_ge (by rw [byI_len]; omega), cf_ge (by rw [List.length_replicate]; omega)]
theorem byI_all (b : List Nat) : byI b 60 = by60 b := by
  refine eq_of_cf (by rw [byI_len, by60_len]) (fun i => ?_)
  by_cases h : i < 60
  · rw [byI, cf_map_range h, cf_by60 _ h, if_pos h]
  · rw [cf_ge (by rw [byI_len]; omega), cf_ge (by rw [by60_len]; omega)]

set_option maxRecDepth 100000 in
set_option maxHeartbeats 4000000 in
theorem bytes7_any (v : Value) (g : Nat) (b : List Nat) (w : World) (hA : Arg w v g b) :
    Calls Try.prog 23 #[v, .int .i64 60] w fun e w' => ∃ r, e = .returned r ∧ Fr w.heap.size w' r (by60 b) ∧ Below w.heap.size w w' := by
  obtain ⟨⟨ao, c, rfl, hc1, hc2, hnil, hr⟩, hbs⟩ := hA
  have hmk : ∀ w : World, (Instr.makeSlice 38 (.int .i64 60) (.int .i64 60)).run Try.prog w = .ok (.slice (some ⟨w.heap.size, 0, none⟩) 60 60) (w.alloc (.cells (List.replicate 60 (Value.int .u8 0)).toArray 5)) := run_zeros 60 (by omega)
  have hzb := blk_zeros 60 w
  have hal : Below w.heap.size w (w.alloc (.cells (List.replicate 60 (Value.int .u8 0)).toArray 5)) := (Below.refl _ _).alloc (Nat.le_refl _) _
  have HK1 := hide hal
  have HZ := hide hzb
  have HR := hide hr
  obtain ⟨z60, hz60⟩ : ∃ z, (List.replicate 60 (Value.int .u8 0)).toArray = z := ⟨_, rfl⟩
  rw [hz60] at HZ HK1
  simp only [hz60] at hmk
  clear hz60 hal hzb hr hnil
  obtain ⟨n, hn⟩ : ∃ n, b.length = n := ⟨_, rfl⟩
  have HL := hide hn
  rw [hn] at hc1 ⊢
  clear hn
  by_cases h0 : n = 0
  · subst h0
    have hb0 : b = [] := List.eq_nil_of_length_eq_zero (unhide HL)
    subst hb0
    rw [by60_nil]
    go_enter Try.func23, Try.ntmps23
    go_wp2_with fail
    go_loopw [6] (fun p wr => p = .int .i64 0 ∧ Hid (Blk wr w.heap.size (List.replicate 60 0)) ∧ Hid (Below w.heap.size w wr)) (fun _ _ => 0)
    case atStart => exact ⟨rfl, HZ, HK1⟩
    case round =>
      obtain ⟨rfl, HB, HK⟩ := hrel
      go_wp2_with fail
      go_ret
      exact ⟨_, rfl, .inr ⟨w.heap.size, 60, by simp, by simp, by unfold maxLen; omega, unhide HB, Nat.le_refl _⟩, unhide HK⟩
  · have hn0 : (0 : Int) < (n : Int) := by omega
    have hn00 : ((n : Int) == 0) = false := by rw [beq_eq_false_iff_ne]; omega
    have hnm : (n : Int) ≤ 9223372036854775807 := by unfold maxLen at hc2; omega
    obtain ⟨o, rfl⟩ := row_some (unhide HR) (by rw [unhide HL]; omega)
    have HGL := hide ((unhide HR).block_lt (fun e => by have := unhide HL; rw [e] at this; simp at this; omega))
    go_enter Try.func23, Try.ntmps23
    go_wp2_with fail
    go_loopw [6] (fun p wr => ∃ i : Nat, p = .int .i64 i ∧ i ≤ 60 ∧ Hid (Blk wr w.heap.size (byI b i)) ∧ Hid (Below w.heap.size w wr)) (fun p _ => 60 - (intOf p).toNat)
    case atStart => exact ⟨0, rfl, by omega, by rw [byI_zero]; exact HZ, HK1⟩
    case round =>
      obtain ⟨i, rfl, hi, HB, HK⟩ := hrel
      by_cases hlt : i < 60
      · have hi1 : (i : Int) < 60 := by omega
        obtain ⟨r, hr⟩ : ∃ r, i % n = r := ⟨_, rfl⟩
        have hrn : r < n := by rw [← hr]; exact Nat.mod_lt _ (by omega)
        have hrn1 : (r : Int) < (n : Int) := by omega
        have q1 : (i : Int) % (n : Int) = (r : Int) := by rw [← hr]; simp
        have q2 : (i : Int).tmod (n : Int) = (r : Int) := by rw [Int.tmod_eq_emod_of_nonneg (by omega), q1]
        have HST := hide (byI_step b hlt)
        rw [unhide HL, hr] at HST
        have hca := row_cell ((unhide HR).below (w' := wr) ⟨(unhide HK).os, (unhide HK).tape, (unhide HK).output, (unhide HK).size, (unhide HK).block⟩) (j := r) (by rw [unhide HL]; exact hrn)
        have hcb := (unhide HB).cell (j := i) (by rw [byI_len]; exact hlt)
        have hfb := (unhide HB).free (j := i)
        have HB2 := hide ((unhide HB).set i (cf b r) (by rw [byI_len]; exact hlt))
        have HK2 := hide ((unhide HK).setCell (p := ⟨w.heap.size, i, none⟩) (Nat.le_refl _) (.int .u8 ((cf b r : Nat) : Int)))
        clear hr
        go_wp2_with fail
        go_roundw
        case rel => exact ⟨i + 1, by go_num, by omega, by rw [← unhide HST]; exact HB2, HK2⟩
        case measure => simp [intOf]; omega
      · obtain rfl : i = 60 := by omega
        go_wp2_with fail
        go_ret
        refine ⟨_, rfl, .inr ⟨w.heap.size, 60, by rw [by60_len]; rfl, by rw [by60_len]; omega, by unfold maxLen; omega, ?_, Nat.le_refl _⟩, unhide HK⟩
        rw [← byI_all]
        exact unhide HB

end Go.Proofs.Ytnondiaefpdlpaa
