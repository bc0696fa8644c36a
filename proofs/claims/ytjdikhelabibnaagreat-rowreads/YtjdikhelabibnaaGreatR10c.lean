/-
  ramekinref10.Check.
-/
import Derived.Test.YtjdikhelabibnaaGreatE10a
namespace Go.Proofs.YtjdikhelabibnaaGreat
open Go.RowKit Go.Shelf

/-- Sixteen noughts. -/
def zer16 : List Nat := List.replicate 16 0
theorem zer16_len : zer16.length = 16 := rfl
theorem build_TD (w : World) : (Instr.build 42 #[]).run Tryz.prog w = .ok (.agg #[.int .u8 0, .int .u8 0, .int .u8 0, .int .u8 0, .int .u8 0, .int .u8 0, .int .u8 0, .int .u8 0, .int .u8 0, .int .u8 0, .int .u8 0, .int .u8 0, .int .u8 0, .int .u8 0, .int .u8 0, .int .u8 0]) w := run_build w 42 _ _ (by kernel_rfl)
theorem datA16 {d : List Nat} (h : d.length = 16) : (datL d).toArray = #[.int .u8 ((cf d 0 : Nat) : Int), .int .u8 ((cf d 1 : Nat) : Int), .int .u8 ((cf d 2 : Nat) : Int), .int .u8 ((cf d 3 : Nat) : Int), .int .u8 ((cf d 4 : Nat) : Int), .int .u8 ((cf d 5 : Nat) : Int), .int .u8 ((cf d 6 : Nat) : Int), .int .u8 ((cf d 7 : Nat) : Int), .int .u8 ((cf d 8 : Nat) : Int), .int .u8 ((cf d 9 : Nat) : Int), .int .u8 ((cf d 10 : Nat) : Int), .int .u8 ((cf d 11 : Nat) : Int), .int .u8 ((cf d 12 : Nat) : Int), .int .u8 ((cf d 13 : Nat) : Int), .int .u8 ((cf d 14 : Nat) : Int), .int .u8 ((cf d 15 : Nat) : Int)] := by
  obtain ⟨a0, a1, a2, a3, a4, a5, a6, a7, a8, a9, a10, a11, a12, a13, a14, a15, rfl⟩ := len16 h
  rfl
theorem datZ16 : (datL zer16).toArray = #[.int .u8 0, .int .u8 0, .int .u8 0, .int .u8 0, .int .u8 0, .int .u8 0, .int .u8 0, .int .u8 0, .int .u8 0, .int .u8 0, .int .u8 0, .int .u8 0, .int .u8 0, .int .u8 0, .int .u8 0, .int .u8 0] := rfl
/-- A slot that may be. -/
def okE (k l s : Int) (d : List Nat) : Prop := (0 ≤ k ∧ k ≤ 3) ∧ ((k = 1 ∨ k = 2) → (0 ≤ l ∧ l ≤ 65536) ∧ 1 ≤ s ∧ s ≤ 1099511627776) ∧ (¬ (k = 1 ∨ k = 2) → l = 0 ∧ s = 0) ∧ (k ≠ 1 → d = zer16)
instance (k l s : Int) (d : List Nat) : Decidable (okE k l s d) := by unfold okE; infer_instance
def chkE (k l s : Int) (d : List Nat) : Int := if okE k l s d then 0 else 1
theorem chkE_ok {k l s : Int} {d : List Nat} (h : okE k l s d) : chkE k l s d = 0 := if_pos h
theorem chkE_not {k l s : Int} {d : List Nat} (h : ¬ okE k l s d) : chkE k l s d = 1 := if_neg h

set_option maxRecDepth 100000 in
set_option maxHeartbeats 8000000 in
theorem rcheckE_any (k l s : Int) (d : List Nat) (hd : d.length = 16) (w : World) : Calls Tryz.prog 30 #[.agg (entA k l s d)] w fun e w' => e = .returned (.int .i64 (chkE k l s d)) ∧ Below w.heap.size w w' := by
  obtain ⟨W, hW, hE, hb⟩ := EntAt.new w k l s d
  have HB := hide hb
  have c0 := hE.c0
  have c1 := hE.c1
  have c2 := hE.c2
  have f0 : W.cell? ⟨w.heap.size, 3, none⟩ = some (.int .u8 ((cf d 0 : Nat) : Int)) := hE.range 0 _ (datL_get (by omega))
  have f1 : W.cell? ⟨w.heap.size, 4, none⟩ = some (.int .u8 ((cf d 1 : Nat) : Int)) := hE.range 1 _ (datL_get (by omega))
  have f2 : W.cell? ⟨w.heap.size, 5, none⟩ = some (.int .u8 ((cf d 2 : Nat) : Int)) := hE.range 2 _ (datL_get (by omega))
  have f3 : W.cell? ⟨w.heap.size, 6, none⟩ = some (.int .u8 ((cf d 3 : Nat) : Int)) := hE.range 3 _ (datL_get (by omega))
  have f4 : W.cell? ⟨w.heap.size, 7, none⟩ = some (.int .u8 ((cf d 4 : Nat) : Int)) := hE.range 4 _ (datL_get (by omega))
  have f5 : W.cell? ⟨w.heap.size, 8, none⟩ = some (.int .u8 ((cf d 5 : Nat) : Int)) := hE.range 5 _ (datL_get (by omega))
  have f6 : W.cell? ⟨w.heap.size, 9, none⟩ = some (.int .u8 ((cf d 6 : Nat) : Int)) := hE.range 6 _ (datL_get (by omega))
  have f7 : W.cell? ⟨w.heap.size, 10, none⟩ = some (.int .u8 ((cf d 7 : Nat) : Int)) := hE.range 7 _ (datL_get (by omega))
  have f8 : W.cell? ⟨w.heap.size, 11, none⟩ = some (.int .u8 ((cf d 8 : Nat) : Int)) := hE.range 8 _ (datL_get (by omega))
  have f9 : W.cell? ⟨w.heap.size, 12, none⟩ = some (.int .u8 ((cf d 9 : Nat) : Int)) := hE.range 9 _ (datL_get (by omega))
  have f10 : W.cell? ⟨w.heap.size, 13, none⟩ = some (.int .u8 ((cf d 10 : Nat) : Int)) := hE.range 10 _ (datL_get (by omega))
  have f11 : W.cell? ⟨w.heap.size, 14, none⟩ = some (.int .u8 ((cf d 11 : Nat) : Int)) := hE.range 11 _ (datL_get (by omega))
  have f12 : W.cell? ⟨w.heap.size, 15, none⟩ = some (.int .u8 ((cf d 12 : Nat) : Int)) := hE.range 12 _ (datL_get (by omega))
  have f13 : W.cell? ⟨w.heap.size, 16, none⟩ = some (.int .u8 ((cf d 13 : Nat) : Int)) := hE.range 13 _ (datL_get (by omega))
  have f14 : W.cell? ⟨w.heap.size, 17, none⟩ = some (.int .u8 ((cf d 14 : Nat) : Int)) := hE.range 14 _ (datL_get (by omega))
  have f15 : W.cell? ⟨w.heap.size, 18, none⟩ = some (.int .u8 ((cf d 15 : Nat) : Int)) := hE.range 15 _ (datL_get (by omega))
  clear hb hE
  rcases (show k < 0 ∨ k = 0 ∨ k = 1 ∨ k = 2 ∨ k = 3 ∨ 3 < k by omega) with hk | hk | hk | hk | hk | hk
  · have q1 : (k == 1) = false := by rw [beq_eq_false_iff_ne]; omega
    have q2 : (k == 2) = false := by rw [beq_eq_false_iff_ne]; omega
    rw [chkE_not (fun h => by have := h.1; omega)]
    clear f0 f1 f2 f3 f4 f5 f6 f7 f8 f9 f10 f11 f12 f13 f14 f15
    go_enter Tryz.func30, Tryz.ntmps30
    go_wp2_with fail
    go_ret
    exact ⟨rfl, unhide HB⟩
  · subst hk
    by_cases hl : l = 0
    · subst hl
      by_cases hs : s = 0
      · subst hs
        have hq := fun W => neTD d zer16 hd zer16_len _ rfl W
        rw [datA16 hd, datZ16] at hq
        have hbz := fun W => build_TD W
        by_cases hz : d = zer16
        · rw [decide_eq_true hz] at hq
          rw [chkE_ok ⟨⟨by omega, by omega⟩, fun h => absurd h (by omega), fun _ => ⟨rfl, rfl⟩, fun _ => hz⟩]
          clear hz hd
          go_enter Tryz.func30, Tryz.ntmps30
          go_wp2_with fail
          go_ret
          exact ⟨rfl, unhide HB⟩
        · rw [decide_eq_false hz] at hq
          rw [chkE_not (fun h => hz (h.2.2.2 (by omega)))]
          clear hz hd
          go_enter Tryz.func30, Tryz.ntmps30
          go_wp2_with fail
          go_ret
          exact ⟨rfl, unhide HB⟩
      · have q2 : (s != 0) = true := by rw [bne_iff_ne]; exact hs
        rw [chkE_not (fun h => hs (h.2.2.1 (by omega)).2)]
        clear hs f0 f1 f2 f3 f4 f5 f6 f7 f8 f9 f10 f11 f12 f13 f14 f15
        go_enter Tryz.func30, Tryz.ntmps30
        go_wp2_with fail
        go_ret
        exact ⟨rfl, unhide HB⟩
    · have q1 : (l != 0) = true := by rw [bne_iff_ne]; exact hl
      rw [chkE_not (fun h => hl (h.2.2.1 (by omega)).1)]
      clear hl f0 f1 f2 f3 f4 f5 f6 f7 f8 f9 f10 f11 f12 f13 f14 f15
      go_enter Tryz.func30, Tryz.ntmps30
      go_wp2_with fail
      go_ret
      exact ⟨rfl, unhide HB⟩
  · subst hk
    rcases (show l < 0 ∨ (0 ≤ l ∧ l ≤ 65536) ∨ 65536 < l by omega) with hl | ⟨hl, hl2⟩ | hl
    · rw [chkE_not (fun h => by have := (h.2.1 (by omega)).1; omega)]
      clear f0 f1 f2 f3 f4 f5 f6 f7 f8 f9 f10 f11 f12 f13 f14 f15
      go_enter Tryz.func30, Tryz.ntmps30
      go_wp2_with fail
      go_ret
      exact ⟨rfl, unhide HB⟩
    · rcases (show s < 1 ∨ (1 ≤ s ∧ s ≤ 1099511627776) ∨ 1099511627776 < s by omega) with hs | ⟨hs, hs2⟩ | hs
      · rw [chkE_not (fun h => by have := (h.2.1 (by omega)).2; omega)]
        clear f0 f1 f2 f3 f4 f5 f6 f7 f8 f9 f10 f11 f12 f13 f14 f15
        go_enter Tryz.func30, Tryz.ntmps30
        go_wp2_with fail
        go_ret
        exact ⟨rfl, unhide HB⟩
      · rw [chkE_ok ⟨⟨by omega, by omega⟩, fun _ => ⟨⟨hl, hl2⟩, hs, hs2⟩, fun h => absurd h (by omega), fun h => absurd rfl h⟩]
        clear f0 f1 f2 f3 f4 f5 f6 f7 f8 f9 f10 f11 f12 f13 f14 f15
        go_enter Tryz.func30, Tryz.ntmps30
        go_wp2_with fail
        go_ret
        exact ⟨rfl, unhide HB⟩
      · rw [chkE_not (fun h => by have := (h.2.1 (by omega)).2; omega)]
        clear f0 f1 f2 f3 f4 f5 f6 f7 f8 f9 f10 f11 f12 f13 f14 f15
        go_enter Tryz.func30, Tryz.ntmps30
        go_wp2_with fail
        go_ret
        exact ⟨rfl, unhide HB⟩
    · rw [chkE_not (fun h => by have := (h.2.1 (by omega)).1; omega)]
      clear f0 f1 f2 f3 f4 f5 f6 f7 f8 f9 f10 f11 f12 f13 f14 f15
      go_enter Tryz.func30, Tryz.ntmps30
      go_wp2_with fail
      go_ret
      exact ⟨rfl, unhide HB⟩
  · subst hk
    rcases (show l < 0 ∨ (0 ≤ l ∧ l ≤ 65536) ∨ 65536 < l by omega) with hl | ⟨hl, hl2⟩ | hl
    · rw [chkE_not (fun h => by have := (h.2.1 (by omega)).1; omega)]
      clear f0 f1 f2 f3 f4 f5 f6 f7 f8 f9 f10 f11 f12 f13 f14 f15
      go_enter Tryz.func30, Tryz.ntmps30
      go_wp2_with fail
      go_ret
      exact ⟨rfl, unhide HB⟩
    · rcases (show s < 1 ∨ (1 ≤ s ∧ s ≤ 1099511627776) ∨ 1099511627776 < s by omega) with hs | ⟨hs, hs2⟩ | hs
      · rw [chkE_not (fun h => by have := (h.2.1 (by omega)).2; omega)]
        clear f0 f1 f2 f3 f4 f5 f6 f7 f8 f9 f10 f11 f12 f13 f14 f15
        go_enter Tryz.func30, Tryz.ntmps30
        go_wp2_with fail
        go_ret
        exact ⟨rfl, unhide HB⟩
      · have hq := fun W => neTD d zer16 hd zer16_len _ rfl W
        rw [datA16 hd, datZ16] at hq
        have hbz := fun W => build_TD W
        by_cases hz : d = zer16
        · rw [decide_eq_true hz] at hq
          rw [chkE_ok ⟨⟨by omega, by omega⟩, fun _ => ⟨⟨hl, hl2⟩, hs, hs2⟩, fun h => absurd h (by omega), fun _ => hz⟩]
          clear hz hd
          go_enter Tryz.func30, Tryz.ntmps30
          go_wp2_with fail
          go_ret
          exact ⟨rfl, unhide HB⟩
        · rw [decide_eq_false hz] at hq
          rw [chkE_not (fun h => hz (h.2.2.2 (by omega)))]
          clear hz hd
          go_enter Tryz.func30, Tryz.ntmps30
          go_wp2_with fail
          go_ret
          exact ⟨rfl, unhide HB⟩
      · rw [chkE_not (fun h => by have := (h.2.1 (by omega)).2; omega)]
        clear f0 f1 f2 f3 f4 f5 f6 f7 f8 f9 f10 f11 f12 f13 f14 f15
        go_enter Tryz.func30, Tryz.ntmps30
        go_wp2_with fail
        go_ret
        exact ⟨rfl, unhide HB⟩
    · rw [chkE_not (fun h => by have := (h.2.1 (by omega)).1; omega)]
      clear f0 f1 f2 f3 f4 f5 f6 f7 f8 f9 f10 f11 f12 f13 f14 f15
      go_enter Tryz.func30, Tryz.ntmps30
      go_wp2_with fail
      go_ret
      exact ⟨rfl, unhide HB⟩
  · subst hk
    by_cases hl : l = 0
    · subst hl
      by_cases hs : s = 0
      · subst hs
        have hq := fun W => neTD d zer16 hd zer16_len _ rfl W
        rw [datA16 hd, datZ16] at hq
        have hbz := fun W => build_TD W
        by_cases hz : d = zer16
        · rw [decide_eq_true hz] at hq
          rw [chkE_ok ⟨⟨by omega, by omega⟩, fun h => absurd h (by omega), fun _ => ⟨rfl, rfl⟩, fun _ => hz⟩]
          clear hz hd
          go_enter Tryz.func30, Tryz.ntmps30
          go_wp2_with fail
          go_ret
          exact ⟨rfl, unhide HB⟩
        · rw [decide_eq_false hz] at hq
          rw [chkE_not (fun h => hz (h.2.2.2 (by omega)))]
          clear hz hd
          go_enter Tryz.func30, Tryz.ntmps30
          go_wp2_with fail
          go_ret
          exact ⟨rfl, unhide HB⟩
      · have q2 : (s != 0) = true := by rw [bne_iff_ne]; exact hs
        rw [chkE_not (fun h => hs (h.2.2.1 (by omega)).2)]
        clear hs f0 f1 f2 f3 f4 f5 f6 f7 f8 f9 f10 f11 f12 f13 f14 f15
        go_enter Tryz.func30, Tryz.ntmps30
        go_wp2_with fail
        go_ret
        exact ⟨rfl, unhide HB⟩
    · have q1 : (l != 0) = true := by rw [bne_iff_ne]; exact hl
      rw [chkE_not (fun h => hl (h.2.2.1 (by omega)).1)]
      clear hl f0 f1 f2 f3 f4 f5 f6 f7 f8 f9 f10 f11 f12 f13 f14 f15
      go_enter Tryz.func30, Tryz.ntmps30
      go_wp2_with fail
      go_ret
      exact ⟨rfl, unhide HB⟩
  · have q1 : (k == 1) = false := by rw [beq_eq_false_iff_ne]; omega
    have q2 : (k == 2) = false := by rw [beq_eq_false_iff_ne]; omega
    rw [chkE_not (fun h => by have := h.1; omega)]
    clear f0 f1 f2 f3 f4 f5 f6 f7 f8 f9 f10 f11 f12 f13 f14 f15
    go_enter Tryz.func30, Tryz.ntmps30
    go_wp2_with fail
    go_ret
    exact ⟨rfl, unhide HB⟩

end Go.Proofs.YtjdikhelabibnaaGreat
