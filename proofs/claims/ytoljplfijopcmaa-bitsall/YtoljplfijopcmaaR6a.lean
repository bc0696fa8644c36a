/-
  ramekinref6's bit, Ones and Apart.
-/
import Derived.Test.YtoljplfijopcmaaB6d
namespace Go.Proofs.Ytoljplfijopcmaa
open Go.RowKit Go.Shelf

theorem bit_i64 {x : Nat} (m : Nat) (hx : x < 256) : bits .and .i64 ((x : Int) / 2 ^ m) 1 = ((bt x m : Nat) : Int) := by
  rw [show (x : Int) / 2 ^ m = ((x / 2 ^ m : Nat) : Int) from by simp, and_i64 (Nat.lt_of_le_of_lt (Nat.div_le_self _ _) (by omega))]
  rfl

theorem div_wrap {x : Nat} (m : Nat) (hx : x < 256) : wrap64 ((x : Int) / 2 ^ m) = (x : Int) / 2 ^ m := by
  have h : (x : Int) / 2 ^ m = ((x / 2 ^ m : Nat) : Int) := by simp
  have h2 := Nat.div_le_self x (2 ^ m)
  rw [h]
  generalize x / 2 ^ m = y at h2
  exact IntWalk.wrap64_in _ ⟨by omega, by omega⟩

set_option maxRecDepth 100000 in
set_option maxHeartbeats 2000000 in
theorem bit6_any (v : Value) (g : Nat) (s : List Nat) (k : Nat) (w : World) (hA : Arg w v g s) (hs : s.length ≤ 1000) (hk : k < 8 * s.length) :
    Calls Try.prog 24 #[v, .int .i64 (k : Int)] w fun e w' => e = .returned (.int .i64 ((bf (cf s) k : Nat) : Int)) ∧ w' = w := by
  obtain ⟨⟨ao, c, rfl, hc1, hc2, hnil, hr⟩, hbs⟩ := hA
  obtain ⟨o, rfl⟩ := row_some hr (by omega)
  have hc := row_cell hr (j := k / 8) (by omega)
  have hk1 : (k : Int) / 8 < (s.length : Int) := by omega
  have hk8 : k / 8 < s.length := by omega
  have q1 := bit_i64 (k % 8) (hbs (k / 8))
  have q0 := div_wrap (k % 8) (hbs (k / 8))
  have HW : Hid (bf (cf s) k = bt (cf s (k / 8)) (k % 8)) := rfl
  clear hr hnil
  go_enter Try.func24, Try.ntmps24
  go_wp2
  go_ret
  rw [unhide HW]
  exact ⟨rfl, rfl⟩

/-- The places up to k where they differ. -/
def aps (a b : List Nat) (k : Nat) : List Nat := (List.range k).filter (fun i => bf (cf a) i != bf (cf b) i)
theorem aps_succ (a b : List Nat) (k : Nat) : aps a b (k + 1) = aps a b k ++ (if bf (cf a) k = bf (cf b) k then [] else [k]) := by
  unfold aps
  rw [List.range_succ, List.filter_append]
  congr 1
  by_cases h : bf (cf a) k = bf (cf b) k <;> simp [h]
theorem aps_le (a b : List Nat) (k : Nat) : (aps a b k).length ≤ k := by
  have := List.length_filter_le (fun i => bf (cf a) i != bf (cf b) i) (List.range k)
  rw [List.length_range] at this
  exact this
theorem bf_le (f : Nat → Nat) (k : Nat) : bf f k ≤ 1 := bt_le _ _
theorem bf_xor (f g : Nat → Nat) (k : Nat) : bf (fun i => f i ^^^ g i) k = bf f k ^^^ bf g k := bt_xor _ _ _
theorem bf_apart (f g : Nat → Nat) (k : Nat) : (bf (fun i => f i ^^^ g i) k == 1) = (bf f k != bf g k) := by
  rw [bf_xor]
  have h1 := bf_le f k
  have h2 := bf_le g k
  generalize bf f k = x at *
  generalize bf g k = y at *
  have hx : x = 0 ∨ x = 1 := by omega
  have hy : y = 0 ∨ y = 1 := by omega
  rcases hx with rfl | rfl <;> rcases hy with rfl | rfl <;> rfl
theorem aps_all {a b : List Nat} (h : a.length = b.length) : aps a b (8 * a.length) = apL a b := by
  rw [apL, if_pos h, onF, aps]
  exact List.filter_congr (fun k _ => (bf_apart _ _ _).symm)

/-- How many of the first k bits are ones. -/
def cnt (s : List Nat) (k : Nat) : Nat := ((List.range k).filter (fun i => bf (cf s) i == 1)).length
theorem cnt_succ (s : List Nat) (k : Nat) : cnt s (k + 1) = cnt s k + bf (cf s) k := by
  unfold cnt
  rw [List.range_succ, List.filter_append, List.length_append]
  have h := bf_le (cf s) k
  have hx : bf (cf s) k = 0 ∨ bf (cf s) k = 1 := by omega
  rcases hx with h | h <;> simp [h]
theorem cnt_le (s : List Nat) (k : Nat) : cnt s k ≤ k := by
  have := List.length_filter_le (fun i => bf (cf s) i == 1) (List.range k)
  rw [List.length_range] at this
  exact this
theorem cnt_all (s : List Nat) : cnt s (8 * s.length) = (onF (cf s) s.length).length := rfl

set_option maxRecDepth 100000 in
set_option maxHeartbeats 4000000 in
theorem rones_any (v : Value) (g : Nat) (s : List Nat) (w : World) (hA : Arg w v g s) (hs : s.length ≤ 1000) :
    Calls Try.prog 13 #[v] w fun e w' => e = .returned (.int .i64 ((onF (cf s) s.length).length : Nat)) ∧ w' = w := by
  have HA := hide hA
  obtain ⟨⟨ao, c, rfl, _⟩, _⟩ := hA
  rw [← cnt_all]
  obtain ⟨N, hN⟩ : ∃ N, s.length = N := ⟨_, rfl⟩
  have HL := hide hN
  rw [hN] at HA hs ⊢
  clear hN
  go_enter Try.func13, Try.ntmps13
  go_wp2_with fail
  go_loop [3, 4] (fun n p => ∃ k : Nat, n = .int .i64 (cnt s k : Nat) ∧ p = .int .i64 k ∧ k ≤ 8 * N) (fun _ p => 8 * N - (intOf p).toNat)
  case atStart => exact ⟨0, rfl, rfl, by omega⟩
  case round =>
    obtain ⟨k, rfl, rfl, hk⟩ := hrel
    have hle := cnt_le s k
    by_cases hlt : k < 8 * N
    · have hk1 : (k : Int) < (N : Int) * 8 := by omega
      have HN := hide (cnt_succ s k)
      have hbl := bf_le (cf s) k
      go_wp2_with fail
      refine (bit6_any _ g s k w (unhide HA) (by rw [unhide HL]; exact hs) (by rw [unhide HL]; exact hlt)).mono ?_
      rintro e w1 ⟨rfl, hw1⟩
      subst hw1
      go_wp2_with fail
      go_round
      case rel => exact ⟨k + 1, by rw [unhide HN]; go_num, by go_num, by omega⟩
      case measure => simp [intOf]; omega
    · have hk2 : k = 8 * N := by omega
      subst hk2
      go_wp2
      go_ret
      exact ⟨rfl, rfl⟩

set_option maxRecDepth 100000 in
set_option maxHeartbeats 4000000 in
theorem rapart_any (va vb : Value) (ga gb : Nat) (a b : List Nat) (w : World) (hA : Arg w va ga a) (hB : Arg w vb gb b) (hla : a.length = b.length → a.length ≤ 1000) :
    Calls Try.prog 11 #[va, vb] w fun e w' => ∃ r, e = .returned r ∧ OwnI w.heap.size w' r (apL a b) ∧ Below w.heap.size w w' := by
  have HA := hide hA
  have HB := hide hB
  obtain ⟨⟨ao, c, rfl, _⟩, _⟩ := hA
  obtain ⟨⟨bo, d, rfl, _⟩, _⟩ := hB
  obtain ⟨i0, hi0, hz0, hz1, hz2⟩ := info_parts infoI
  have HI := hide hi0
  clear hi0
  by_cases hl : a.length = b.length
  rotate_left 1
  · have hap : apL a b = [] := if_neg hl
    rw [hap]
    have hne : (((a.length : Nat) : Int) != ((b.length : Nat) : Int)) = true := by rw [bne_iff_ne]; omega
    clear hap hl
    go_enter Try.func11, Try.ntmps11
    go_wp2_with fail
    go_ret
    exact ⟨_, rfl, OwnI.nil _ _, Below.refl _ _⟩
  have HD := hide (aps_all hl)
  have hN1 := hla hl
  obtain ⟨N, hN⟩ : ∃ N, a.length = N := ⟨_, rfl⟩
  have hN2 : b.length = N := by rw [← hl]; exact hN
  have HLA := hide hN
  have HLB := hide hN2
  rw [hN] at HD HA hN1 ⊢
  rw [hN2] at HB ⊢
  clear hl hla hN hN2
  go_enter Try.func11, Try.ntmps11
  go_wp2_with fail
  go_loopw [5, 6] (fun v p wr => ∃ (k : Nat), p = .int .i64 k ∧ k ≤ 8 * N ∧ OwnI w.heap.size wr v (aps a b k) ∧ Kp [] w wr) (fun _ p _ => 8 * N - (intOf p).toNat)
  case atStart => exact ⟨0, rfl, by omega, OwnI.nil _ _, Kp.refl _ _⟩
  case round =>
    obtain ⟨k, rfl, hk, hO, hK⟩ := hrel
    have HO := hide hO
    have HK := hide hK
    have hsz := hK.size
    have hle := aps_le a b k
    obtain ⟨vo, vc, rfl⟩ : ∃ vo vc, u5 = .slice vo (aps a b k).length vc := by
      rcases hO.shape with ⟨h1, h2⟩ | ⟨q, cq, h1, h2, h3, h4, h5, h6⟩
      · exact ⟨none, 0, by rw [h1, h2]; rfl⟩
      · exact ⟨some ⟨q, 0, none⟩, cq, h1⟩
    clear hO hK
    by_cases hlt : k < 8 * N
    · have hk1 : (k : Int) < (N : Int) * 8 := by omega
      have hn := aps_succ a b k
      have HN := hide hn
      clear hn
      go_wp2_with fail
      refine (bit6_any _ ga a k wr ((unhide HA).below ((unhide HK).below)) (by rw [unhide HLA]; omega) (by rw [unhide HLA]; omega)).mono ?_
      rintro e w1 ⟨rfl, hw1⟩
      subst hw1
      go_wp2_with fail
      refine (bit6_any _ gb b k w1 ((unhide HB).below ((unhide HK).below)) (by rw [unhide HLB]; omega) (by rw [unhide HLB]; omega)).mono ?_
      rintro e w2 ⟨rfl, hw2⟩
      subst hw2
      obtain ⟨x, hx⟩ : ∃ x, bf (cf a) k = x := ⟨_, rfl⟩
      obtain ⟨y, hy⟩ : ∃ y, bf (cf b) k = y := ⟨_, rfl⟩
      rw [hx, hy] at HN
      rw [hx, hy]
      clear hx hy
      by_cases hxy : x = y
      · subst hxy
        rw [if_pos rfl, List.append_nil] at HN
        go_wp2_with fail
        go_roundw
        case rel => exact ⟨k + 1, by go_num, by omega, by rw [unhide HN]; exact unhide HO, unhide HK⟩
        case measure => simp [intOf]; omega
      · rw [if_neg hxy] at HN
        have hne : ((x : Int) != (y : Int)) = true := by rw [bne_iff_ne]; omega
        have HO2 : Hid (OwnI w.heap.size (w2.alloc (.cells #[.int .i64 (k : Int)] 3)) (.slice vo (aps a b k).length vc) (aps a b k)) := (unhide HO).keep (fun b _ hb => Below.heap_alloc _ _ _ hb)
        have HC2 := hide (cell_new' w2 (.int .i64 (k : Int)) 3).1
        have HK2 := hide ((unhide HK).alloc (.cells #[.int .i64 (k : Int)] 3))
        go_wp2_with (at_builtin; refine wpList_append_int _ rfl _ _ 23 rfl w.heap.size 3 i0 Try.underlying23 (unhide HI) hz0 hz1 hz2 (.slice vo (aps a b k).length vc) (aps a b k).length _ rfl (unhide HO2) w2.heap.size (k : Int) rfl (unhide HC2) (by omega) (by simp; omega) ?_)
        intro v3 w3 ho hg
        have HO3 := hide (OwnI.snoc ho)
        have HK3 := hide ((unhide HK2).grown hg (fun b e => by
          have hsh := unhide HO2
          rcases hsh.shape with ⟨h1, _⟩ | ⟨q, cq, h1, h2, _⟩
          · rw [h1] at e; cases e
          · rw [h1] at e; cases e; exact .inr h2))
        clear ho hg
        go_wp2_with fail
        go_roundw
        case rel => exact ⟨k + 1, by go_num, by omega, by rw [unhide HN]; exact unhide HO3, unhide HK3⟩
        case measure => simp [intOf]; omega
    · have hk2 : k = 8 * N := by omega
      subst hk2
      go_wp2
      go_ret
      exact ⟨_, rfl, by rw [← unhide HD]; exact unhide HO, (unhide HK).below⟩

end Go.Proofs.Ytoljplfijopcmaa
