/-
  The contract of chain.picked's iterator, over doubles and over squares.
-/
import Derived.Test.YtjdikhelabibnaaGreatIt3
namespace Go.Proofs.YtjdikhelabibnaaGreat
open Go.RowKit Go.Shelf
attribute [local go_sem] Oper.semAt_some


theorem and_one {y : Nat} (h : y < 18446744073709551616) : bits .and .u64 (y : Int) 1 = ((y % 2 : Nat) : Int) := by
  have := bits_and_u64_nat y 1 h (by omega)
  rw [Nat.and_one_is_mod] at this
  exact this

/-- All blocks below n but those of S are as they were. -/
structure Kq (S : List Nat) (n : Nat) (W W' : World) : Prop where
  size : W.heap.size ≤ W'.heap.size
  block : ∀ k, k < n → k ∉ S → W'.heap[k]? = W.heap[k]?

theorem Kq.refl (S : List Nat) (n : Nat) (W : World) : Kq S n W W := ⟨Nat.le_refl _, fun _ _ _ => rfl⟩

theorem Kq.trans {S : List Nat} {n : Nat} {A B C : World} (h : Kq S n A B) (k : Kq S n B C) : Kq S n A C :=
  ⟨Nat.le_trans h.size k.size, fun i hi hs => (k.block i hi hs).trans (h.block i hi hs)⟩

theorem Kq.setCell {S : List Nat} {n : Nat} {A B : World} (h : Kq S n A B) (p : Addr) (u : Value) (hp : p.block ∈ S) : Kq S n A (B.setCell p u) :=
  h.trans ⟨by simp [World.setCell], fun k _ hn => Below.heap_setCell _ _ _ _ (fun e => hn (e ▸ hp))⟩

theorem Kq.below {S : List Nat} {n : Nat} {A B C : World} (h : Kq S n A B) (k : Below B.heap.size B C) (hn : n ≤ B.heap.size) : Kq S n A C :=
  h.trans ⟨k.size, fun i hi _ => k.block i (by omega)⟩

theorem Kq.drew {S : List Nat} {n : Nat} {A B : World} (h : Kq S n A B) : Kq S n A B.drew := ⟨h.size, h.block⟩

theorem kq_b {S : List Nat} {n : Nat} {w : World} (hn : n ≤ w.heap.size) (W : World) (l : Nat) (o o' : Obj) (hl : w.heap.size ≤ l) (_ : W.heap[l]? = some o) (_ : o.isCells = false) (_ : o.isWalk = false) : Kq S n W (W.putObj l o') :=
  ⟨by simp [World.putObj], fun k hk _ => World.putObj_heap_other (by omega)⟩

theorem Cap.kq {S : List Nat} {n : Nat} {w w' : World} {Bc Bm : Nat} {a : Int} {g : Nat} {m : Value} (h : Cap w Bc Bm a g m) (k : Kq S n w w') (hc : Bc < n) (hm : Bm < n) (sc : Bc ∉ S) (sm : Bm ∉ S) : Cap w' Bc Bm a g m :=
  ⟨(World.cell?_of_block (k.block Bc hc sc)).trans h.c0, (World.cell?_of_block (k.block Bc hc sc)).trans h.c1, (World.cell?_of_block (k.block Bm hm sm)).trans h.m0⟩

theorem kept_of_below {w w' : World} (h : Below w.heap.size w w') : KeepsOthers w w' := ⟨h.size, fun k _ hk _ => (h.block k (Array.getElem?_eq_some_iff.1 hk).1).trans hk⟩

theorem grown_of_below {w w' : World} (h : Below w.heap.size w w') : w.grownBy w' none := ⟨h.os, h.tape, h.output, h.size, fun k hk _ => h.block k hk⟩

set_option maxRecDepth 100000 in
set_option maxHeartbeats 2000000 in
theorem picked_double_in (hst : ∀ (x : Nat) (w : World), x < 256 → Calls Tryz.prog 159 #[.int .u8 x] w fun e w' => e = .returned (.int .u8 (dbl x : Nat)) ∧ Below w.heap.size w w') (hlt : ∀ x, x < 256 → dbl x < 256)
    (S : List Nat) (n l Bc Bm n₀ a y k : Nat) (ha : a < 256) (hy : y < 2 ^ k) (hk : k ≤ 64) (J Jx : List (Fin 256) → World → Prop)
    (hY : ∀ pre (x : Fin 256) W, J pre W → pre.length < 64 → YieldAt Fence.wide (n - 1) Tryz.prog l #[.int .u8 x.val] W fun e W' =>
      (e = .returned (.bool true) ∧ J (pre ++ [x]) W' ∧ Kq S n₀ W W') ∨ (e = .returned (.bool false) ∧ Jx (pre ++ [x]) W'))
    (hJ : ∀ pre W W', J pre W → Below W.heap.size W W' → J pre W')
    (W : World) (hcap : Cap W Bc Bm a 159 (.int .u64 y)) (hBc : Bc < n₀) (hBm : Bm < n₀) (hn₀ : n₀ ≤ W.heap.size) (sc : Bc ∉ S) (sm : Bm ∉ S) (h0 : J [] W) :
    CallsIn Fence.wide n Tryz.prog 160 #[.func (.yield l) #[] #[], .pointer (some ⟨Bc, 0, none⟩), .pointer (some ⟨Bm, 0, none⟩)] W fun e W' => (∃ v, e = .returned v) ∧
      ((∃ ys, ys.map Fin.val = picks dbl k a y ∧ J ys W') ∨ (∃ pre, True ∧ Jx pre W')) := by
  have hc0 := hcap.c0
  have hm0 := hcap.m0
  refine callsIn_of_wp Tryz.func160 rfl trivial ?_ rfl
  simp only [Tryz.ntmps160, List.size_toArray, List.length_cons, List.length_nil, Nat.reduceAdd, Nat.reduceSub, Array.replicate_succ, Array.replicate_zero, List.push_toArray, List.append_toArray, List.nil_append, List.cons_append]
  gi_wp2
  gi_loopw [4, 5] (fun p q wr => ∃ (pre : List (Fin 256)) (x z j : Nat), p = .int .u8 x ∧ q = .int .u64 z ∧ x < 256 ∧ z < 2 ^ j ∧ pre.length + j ≤ 64 ∧ pre.map Fin.val ++ picks dbl j x z = picks dbl k a y ∧ J pre wr ∧ Cap wr Bc Bm a 159 (.int .u64 y) ∧ n₀ ≤ wr.heap.size)
    (fun _ q _ => (intOf q).toNat)
  case atStart => exact ⟨[], a, y, k, rfl, rfl, ha, hy, by simpa using hk, by simp, h0, hcap, hn₀⟩
  case round =>
    obtain ⟨pre, x, z, j, rfl, rfl, hx, hz, hl, hp, hJ1, hc, hs⟩ := hrel
    have c1 := hc.c1
    have hz64 : z < 18446744073709551616 := Nat.lt_of_lt_of_le hz (Nat.pow_le_pow_right (by omega) (by omega : j ≤ 64))
    by_cases hz0 : z = 0
    · subst hz0
      gi_wp2
      go_end0
      exact ⟨⟨_, rfl⟩, .inl ⟨pre, by rw [← hp, picks_nought, List.append_nil], hJ1⟩⟩
    · have hz1 : ((z : Int) != 0) = true := by rw [bne_iff_ne]; omega
      obtain ⟨j, rfl⟩ : ∃ i, j = i + 1 := ⟨j - 1, by
        have : j ≠ 0 := by rintro rfl; simp at hz; omega
        omega⟩
      have hz2 : z / 2 < 2 ^ j := by rw [Nat.pow_succ] at hz; omega
      by_cases hodd : z % 2 = 1
      · have hb : bits .and .u64 (z : Int) 1 = 1 := by rw [and_one hz64, hodd]; rfl
        rw [picks, if_pos hodd] at hp
        obtain ⟨fn, tmps, assign, body, hy1, hR⟩ := hY pre ⟨x, hx⟩ wr hJ1 (by omega)
        dsimp only at hy1
        gi_wp2
        refine ⟨fun h => absurd h (by simp [Fence.wide]), hR.mono ?_⟩
        rintro e W3 (⟨rfl, hJ3, hk3⟩ | ⟨rfl, hJx3⟩)
        · have hc3 := hc.kq hk3 hBc hBm sc sm
          have c3 := hc3.c1
          have hs3 := hk3.size
          gi_wp2
          refine ⟨trivial, fun h => absurd h (by simp [Fence.wide]), (callsIn_wide.2 (hst x W3 hx)).mono ?_⟩
          rintro e W4 ⟨rfl, hk4⟩
          gi_wp2
          have hs4 := hk4.size
          go_roundw
          case rel => exact ⟨pre ++ [⟨x, hx⟩], dbl x, z / 2, j, rfl, by rw [Int.natCast_ediv]; rfl, hlt x hx, hz2, by simp; omega, by rw [← hp]; simp, hJ _ _ _ hJ3 hk4, hc3.below hk4 (by omega) (by omega), by omega⟩
          case measure => simp [intOf]; omega
        · gi_wp2
          refine bodyPost_ret (results_none rfl _ _ _) rfl ?_
          exact ⟨⟨_, rfl⟩, .inr ⟨pre ++ [⟨x, hx⟩], trivial, hJx3⟩⟩
      · have hb : bits .and .u64 (z : Int) 1 = 0 := by rw [and_one hz64, show z % 2 = 0 from by omega]; rfl
        rw [picks, if_neg hodd] at hp
        gi_wp2
        refine ⟨fun _ h => (by cases h), ?_⟩
        gi_wp2
        refine ⟨trivial, fun h => absurd h (by simp [Fence.wide]), (callsIn_wide.2 (hst x wr hx)).mono ?_⟩
        rintro e W4 ⟨rfl, hk4⟩
        gi_wp2
        have hs4 := hk4.size
        go_roundw
        case rel => exact ⟨pre, dbl x, z / 2, j, rfl, by rw [Int.natCast_ediv]; rfl, hlt x hx, hz2, by omega, by rw [← hp]; simp, hJ _ _ _ hJ1 hk4, hc.below hk4 (by omega) (by omega), by omega⟩
        case measure => simp [intOf]; omega

set_option maxRecDepth 100000 in
set_option maxHeartbeats 2000000 in
theorem picked_square_in (hst : ∀ (x : Nat) (w : World), x < 256 → Calls Tryz.prog 163 #[.int .u8 x] w fun e w' => e = .returned (.int .u8 (sqr x : Nat)) ∧ Below w.heap.size w w') (hlt : ∀ x, x < 256 → sqr x < 256)
    (S : List Nat) (n l Bc Bm n₀ a y k : Nat) (ha : a < 256) (hy : y < 2 ^ k) (hk : k ≤ 64) (J Jx : List (Fin 256) → World → Prop)
    (hY : ∀ pre (x : Fin 256) W, J pre W → pre.length < 64 → YieldAt Fence.wide (n - 1) Tryz.prog l #[.int .u8 x.val] W fun e W' =>
      (e = .returned (.bool true) ∧ J (pre ++ [x]) W' ∧ Kq S n₀ W W') ∨ (e = .returned (.bool false) ∧ Jx (pre ++ [x]) W'))
    (hJ : ∀ pre W W', J pre W → Below W.heap.size W W' → J pre W')
    (W : World) (hcap : Cap W Bc Bm a 163 (.int .u64 y)) (hBc : Bc < n₀) (hBm : Bm < n₀) (hn₀ : n₀ ≤ W.heap.size) (sc : Bc ∉ S) (sm : Bm ∉ S) (h0 : J [] W) :
    CallsIn Fence.wide n Tryz.prog 160 #[.func (.yield l) #[] #[], .pointer (some ⟨Bc, 0, none⟩), .pointer (some ⟨Bm, 0, none⟩)] W fun e W' => (∃ v, e = .returned v) ∧
      ((∃ ys, ys.map Fin.val = picks sqr k a y ∧ J ys W') ∨ (∃ pre, True ∧ Jx pre W')) := by
  have hc0 := hcap.c0
  have hm0 := hcap.m0
  refine callsIn_of_wp Tryz.func160 rfl trivial ?_ rfl
  simp only [Tryz.ntmps160, List.size_toArray, List.length_cons, List.length_nil, Nat.reduceAdd, Nat.reduceSub, Array.replicate_succ, Array.replicate_zero, List.push_toArray, List.append_toArray, List.nil_append, List.cons_append]
  gi_wp2
  gi_loopw [4, 5] (fun p q wr => ∃ (pre : List (Fin 256)) (x z j : Nat), p = .int .u8 x ∧ q = .int .u64 z ∧ x < 256 ∧ z < 2 ^ j ∧ pre.length + j ≤ 64 ∧ pre.map Fin.val ++ picks sqr j x z = picks sqr k a y ∧ J pre wr ∧ Cap wr Bc Bm a 163 (.int .u64 y) ∧ n₀ ≤ wr.heap.size)
    (fun _ q _ => (intOf q).toNat)
  case atStart => exact ⟨[], a, y, k, rfl, rfl, ha, hy, by simpa using hk, by simp, h0, hcap, hn₀⟩
  case round =>
    obtain ⟨pre, x, z, j, rfl, rfl, hx, hz, hl, hp, hJ1, hc, hs⟩ := hrel
    have c1 := hc.c1
    have hz64 : z < 18446744073709551616 := Nat.lt_of_lt_of_le hz (Nat.pow_le_pow_right (by omega) (by omega : j ≤ 64))
    by_cases hz0 : z = 0
    · subst hz0
      gi_wp2
      go_end0
      exact ⟨⟨_, rfl⟩, .inl ⟨pre, by rw [← hp, picks_nought, List.append_nil], hJ1⟩⟩
    · have hz1 : ((z : Int) != 0) = true := by rw [bne_iff_ne]; omega
      obtain ⟨j, rfl⟩ : ∃ i, j = i + 1 := ⟨j - 1, by
        have : j ≠ 0 := by rintro rfl; simp at hz; omega
        omega⟩
      have hz2 : z / 2 < 2 ^ j := by rw [Nat.pow_succ] at hz; omega
      by_cases hodd : z % 2 = 1
      · have hb : bits .and .u64 (z : Int) 1 = 1 := by rw [and_one hz64, hodd]; rfl
        rw [picks, if_pos hodd] at hp
        obtain ⟨fn, tmps, assign, body, hy1, hR⟩ := hY pre ⟨x, hx⟩ wr hJ1 (by omega)
        dsimp only at hy1
        gi_wp2
        refine ⟨fun h => absurd h (by simp [Fence.wide]), hR.mono ?_⟩
        rintro e W3 (⟨rfl, hJ3, hk3⟩ | ⟨rfl, hJx3⟩)
        · have hc3 := hc.kq hk3 hBc hBm sc sm
          have c3 := hc3.c1
          have hs3 := hk3.size
          gi_wp2
          refine ⟨trivial, fun h => absurd h (by simp [Fence.wide]), (callsIn_wide.2 (hst x W3 hx)).mono ?_⟩
          rintro e W4 ⟨rfl, hk4⟩
          gi_wp2
          have hs4 := hk4.size
          go_roundw
          case rel => exact ⟨pre ++ [⟨x, hx⟩], sqr x, z / 2, j, rfl, by rw [Int.natCast_ediv]; rfl, hlt x hx, hz2, by simp; omega, by rw [← hp]; simp, hJ _ _ _ hJ3 hk4, hc3.below hk4 (by omega) (by omega), by omega⟩
          case measure => simp [intOf]; omega
        · gi_wp2
          refine bodyPost_ret (results_none rfl _ _ _) rfl ?_
          exact ⟨⟨_, rfl⟩, .inr ⟨pre ++ [⟨x, hx⟩], trivial, hJx3⟩⟩
      · have hb : bits .and .u64 (z : Int) 1 = 0 := by rw [and_one hz64, show z % 2 = 0 from by omega]; rfl
        rw [picks, if_neg hodd] at hp
        gi_wp2
        refine ⟨fun _ h => (by cases h), ?_⟩
        gi_wp2
        refine ⟨trivial, fun h => absurd h (by simp [Fence.wide]), (callsIn_wide.2 (hst x wr hx)).mono ?_⟩
        rintro e W4 ⟨rfl, hk4⟩
        gi_wp2
        have hs4 := hk4.size
        go_roundw
        case rel => exact ⟨pre, sqr x, z / 2, j, rfl, by rw [Int.natCast_ediv]; rfl, hlt x hx, hz2, by omega, by rw [← hp]; simp, hJ _ _ _ hJ1 hk4, hc.below hk4 (by omega) (by omega), by omega⟩
        case measure => simp [intOf]; omega

theorem picked_double_stops (hst : ∀ (x : Nat) (w : World), x < 256 → Calls Tryz.prog 159 #[.int .u8 x] w fun e w' => e = .returned (.int .u8 (dbl x : Nat)) ∧ Below w.heap.size w w') (hlt : ∀ x, x < 256 → dbl x < 256)
    (S : List Nat) (n Bc Bm n₀ a y k : Nat) (ha : a < 256) (hy : y < 2 ^ k) (hk : k ≤ 64) (w : World) (hcap : Cap w Bc Bm a 159 (.int .u64 y)) (hBc : Bc < n₀) (hBm : Bm < n₀) (hn₀ : n₀ ≤ w.heap.size) (sc : Bc ∉ S) (sm : Bm ∉ S) :
    SeqStopsK Fence.wide n Tryz.prog 160 #[.pointer (some ⟨Bc, 0, none⟩), .pointer (some ⟨Bm, 0, none⟩)] (fun x : Fin 256 => #[Value.int .u8 x.val]) (Kq S n₀) (fun ys => ys.map Fin.val = picks dbl k a y) (fun _ => True) 64 w := fun l J Jx W hW hJ _ hY h0 =>
  picked_double_in hst hlt S n l Bc Bm n₀ a y k ha hy hk J Jx hY (fun pre A B hj hb => hJ pre A B none hj (grown_of_below hb) (fun r e => by cases e)) W (hcap.below hW (by omega) (by omega)) hBc hBm (Nat.le_trans hn₀ hW.size) sc sm h0

theorem picked_square_stops (hst : ∀ (x : Nat) (w : World), x < 256 → Calls Tryz.prog 163 #[.int .u8 x] w fun e w' => e = .returned (.int .u8 (sqr x : Nat)) ∧ Below w.heap.size w w') (hlt : ∀ x, x < 256 → sqr x < 256)
    (S : List Nat) (n Bc Bm n₀ a y k : Nat) (ha : a < 256) (hy : y < 2 ^ k) (hk : k ≤ 64) (w : World) (hcap : Cap w Bc Bm a 163 (.int .u64 y)) (hBc : Bc < n₀) (hBm : Bm < n₀) (hn₀ : n₀ ≤ w.heap.size) (sc : Bc ∉ S) (sm : Bm ∉ S) :
    SeqStopsK Fence.wide n Tryz.prog 160 #[.pointer (some ⟨Bc, 0, none⟩), .pointer (some ⟨Bm, 0, none⟩)] (fun x : Fin 256 => #[Value.int .u8 x.val]) (Kq S n₀) (fun ys => ys.map Fin.val = picks sqr k a y) (fun _ => True) 64 w := fun l J Jx W hW hJ _ hY h0 =>
  picked_square_in hst hlt S n l Bc Bm n₀ a y k ha hy hk J Jx hY (fun pre A B hj hb => hJ pre A B none hj (grown_of_below hb) (fun r e => by cases e)) W (hcap.below hW (by omega) (by omega)) hBc hBm (Nat.le_trans hn₀ hW.size) sc sm h0

end Go.Proofs.YtjdikhelabibnaaGreat
