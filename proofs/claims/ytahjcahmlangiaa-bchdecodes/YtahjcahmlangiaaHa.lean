/-
  ramekinref6's bit and Apart.
-/
import Derived.Test.YtahjcahmlangiaaHi
namespace Go.Proofs.Ytahjcahmlangiaa
open Go.RowKit

theorem bit_i64 {x : Nat} (m : Nat) (hx : x < 256) : bits .and .i64 ((x : Int) / 2 ^ m) 1 = ((bt x m : Nat) : Int) := by
  rw [show (x : Int) / 2 ^ m = ((x / 2 ^ m : Nat) : Int) from by simp, and_i64 (Nat.lt_of_le_of_lt (Nat.div_le_self _ _) (by omega))]
  rfl

theorem div_wrap {x : Nat} (m : Nat) (hx : x < 256) : wrap64 ((x : Int) / 2 ^ m) = (x : Int) / 2 ^ m := by
  have h : (x : Int) / 2 ^ m = ((x / 2 ^ m : Nat) : Int) := by simp
  have h2 := Nat.div_le_self x (2 ^ m)
  rw [h]
  generalize x / 2 ^ m = y at h2
  exact IntWalk.wrap64_in _ ⟨by omega, by omega⟩

set_option maxRecDepth 100000 in
set_option maxHeartbeats 2000000 in
theorem bit6_any (v : Value) (g : Nat) (s : List Nat) (k : Nat) (w : World) (hA : Arg w v g s) (hs : s.length ≤ 1000) (hk : k < 8 * s.length) :
    Calls Try.prog 39 #[v, .int .i64 (k : Int)] w fun e w' => e = .returned (.int .i64 ((cf (wb s) k : Nat) : Int)) ∧ w' = w := by
  obtain ⟨⟨ao, c, rfl, hc1, hc2, hnil, hr⟩, hbs⟩ := hA
  obtain ⟨o, rfl⟩ := row_some hr (by omega)
  have hc := row_cell hr (j := k / 8) (by omega)
  have hk1 : (k : Int) / 8 < (s.length : Int) := by omega
  have hk8 : k / 8 < s.length := by omega
  have q1 := bit_i64 (k % 8) (hbs (k / 8))
  have q0 := div_wrap (k % 8) (hbs (k / 8))
  have HW := hide (cf_wb s k)
  clear hr hnil
  go_enter Try.func39, Try.ntmps39
  go_wp2
  go_ret
  rw [unhide HW]
  exact ⟨rfl, rfl⟩

/-- The places up to k where they differ. -/
def aps (a b : List Nat) (k : Nat) : List Nat := (List.range k).filter (fun i => cf (wb a) i != cf (wb b) i)
theorem aps_succ (a b : List Nat) (k : Nat) : aps a b (k + 1) = aps a b k ++ (if cf (wb a) k = cf (wb b) k then [] else [k]) := by
  unfold aps
  rw [List.range_succ, List.filter_append]
  congr 1
  by_cases h : cf (wb a) k = cf (wb b) k <;> simp [h]
theorem aps_le (a b : List Nat) (k : Nat) : (aps a b k).length ≤ k := by
  have := List.length_filter_le (fun i => cf (wb a) i != cf (wb b) i) (List.range k)
  rw [List.length_range] at this
  exact this
theorem aps_all {a b : List Nat} (h : a.length = b.length) : (aps a b (8 * a.length)).length = (diff a b).length := by
  refine len_eq (List.Pairwise.filter _ List.nodup_range) (diff_nodup _ _) (fun i => ?_)
  unfold aps
  rw [List.mem_filter, List.mem_range, diff_mem, bne_iff_ne]
  refine ⟨fun h => h.2, fun hne => ⟨?_, hne⟩⟩
  by_cases hi : i < 8 * a.length
  · exact hi
  · exact absurd (by rw [cf_ge (p := wb a) (by rw [wb_len]; omega), cf_ge (p := wb b) (by rw [wb_len]; omega)]) hne

set_option maxRecDepth 100000 in
set_option maxHeartbeats 4000000 in
theorem apart_any (va vb : Value) (ga gb : Nat) (a b : List Nat) (w : World) (hA : Arg w va ga a) (hB : Arg w vb gb b) (ha : a.length = 28) (hb : b.length = 28) :
    Calls Try.prog 23 #[va, vb] w fun e w' => ∃ ao c, e = .returned (.slice ao (diff a b).length c) ∧ Below w.heap.size w w' := by
  have HA := hide hA
  have HB := hide hB
  obtain ⟨⟨ao, c, rfl, _⟩, _⟩ := hA
  obtain ⟨⟨bo, d, rfl, _⟩, _⟩ := hB
  obtain ⟨i0, hi0, hz0, hz1, hz2⟩ := info_parts infoI
  have HI := hide hi0
  have HD := hide (aps_all (ha.trans hb.symm))
  have HLA := hide ha
  have HLB := hide hb
  rw [ha] at HD HA ⊢
  rw [hb] at HB ⊢
  clear hi0
  go_enter Try.func23, Try.ntmps23
  go_wp2_with fail
  go_loopw [5, 6] (fun v p wr => ∃ (k : Nat), p = .int .i64 k ∧ k ≤ 224 ∧ OwnI w.heap.size wr v (aps a b k) ∧ Kp [] w wr) (fun _ p _ => 224 - (intOf p).toNat)
  case atStart => exact ⟨0, rfl, by omega, OwnI.nil _ _, Kp.refl _ _⟩
  case round =>
    obtain ⟨k, rfl, hk, hO, hK⟩ := hrel
    have HO := hide hO
    have HK := hide hK
    have hsz := hK.size
    have hle := aps_le a b k
    obtain ⟨vo, vc, rfl⟩ : ∃ vo vc, u5 = .slice vo (aps a b k).length vc := by
      rcases hO.shape with ⟨h1, h2⟩ | ⟨q, cq, h1, h2, h3, h4, h5, h6⟩
      · exact ⟨none, 0, by rw [h1, h2]; rfl⟩
      · exact ⟨some ⟨q, 0, none⟩, cq, h1⟩
    clear hO hK
    by_cases hlt : k < 224
    · have hk1 : (k : Int) < 224 := by omega
      have hn := aps_succ a b k
      have HN := hide hn
      clear hn
      go_wp2_with fail
      refine (bit6_any _ ga a k wr ((unhide HA).below ((unhide HK).below)) (by omega) (by omega)).mono ?_
      rintro e w1 ⟨rfl, hw1⟩
      subst hw1
      go_wp2_with fail
      refine (bit6_any _ gb b k w1 ((unhide HB).below ((unhide HK).below)) (by omega) (by omega)).mono ?_
      rintro e w2 ⟨rfl, hw2⟩
      subst hw2
      obtain ⟨x, hx⟩ : ∃ x, cf (wb a) k = x := ⟨_, rfl⟩
      obtain ⟨y, hy⟩ : ∃ y, cf (wb b) k = y := ⟨_, rfl⟩
      rw [hx, hy] at HN
      rw [hx, hy]
      clear hx hy
      by_cases hxy : x = y
      · subst hxy
        rw [if_pos rfl, List.append_nil] at HN
        go_wp2_with fail
        go_roundw
        case rel => exact ⟨k + 1, by go_num, by omega, by rw [unhide HN]; exact unhide HO, unhide HK⟩
        case measure => simp [intOf]; omega
      · rw [if_neg hxy] at HN
        have hne : ((x : Int) != (y : Int)) = true := by rw [bne_iff_ne]; omega
        have HO2 : Hid (OwnI w.heap.size (w2.alloc (.cells #[.int .i64 (k : Int)] 3)) (.slice vo (aps a b k).length vc) (aps a b k)) := (unhide HO).keep (fun b _ hb => Below.heap_alloc _ _ _ hb)
        have HC2 := hide (cell_new' w2 (.int .i64 (k : Int)) 3).1
        have HK2 := hide ((unhide HK).alloc (.cells #[.int .i64 (k : Int)] 3))
        go_wp2_with (at_builtin; refine wpList_append_int _ rfl _ _ 28 rfl w.heap.size 3 i0 Try.underlying28 (unhide HI) hz0 hz1 hz2 (.slice vo (aps a b k).length vc) (aps a b k).length _ rfl (unhide HO2) w2.heap.size (k : Int) rfl (unhide HC2) (by omega) (by simp; omega) ?_)
        intro v3 w3 ho hg
        have HO3 := hide (OwnI.snoc ho)
        have HK3 := hide ((unhide HK2).grown hg (fun b e => by
          have hsh := unhide HO2
          rcases hsh.shape with ⟨h1, _⟩ | ⟨q, cq, h1, h2, _⟩
          · rw [h1] at e; cases e
          · rw [h1] at e; cases e; exact .inr h2))
        clear ho hg
        go_wp2_with fail
        go_roundw
        case rel => exact ⟨k + 1, by go_num, by omega, by rw [unhide HN]; exact unhide HO3, unhide HK3⟩
        case measure => simp [intOf]; omega
    · have hk2 : k = 224 := by omega
      subst hk2
      go_wp2
      go_ret
      exact ⟨vo, vc, by rw [← unhide HD]; rfl, (unhide HK).below⟩

end Go.Proofs.Ytahjcahmlangiaa
