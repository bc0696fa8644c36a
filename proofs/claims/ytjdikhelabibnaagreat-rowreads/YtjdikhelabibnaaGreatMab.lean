/-
  
-/
import Derived.RangeFuncNested
import Derived.RangeFuncBound
import Derived.RangeFuncCalls
import Derived.RangeFuncLeaves
import Derived.Shelf.Abstract
import Derived.Shelf.RegionOpen
import Derived.WalkKit
import Derived.ProofKit
import Derived.OwnWalkIn
import Derived.TacticsInMore
import Derived.LoopNIn
import Derived.LoopIn
import Derived.Deep.QuietTactic
import Derived.BigQuiet
import Derived.Laws.BitsLemmas
import Derived.Laws.Bits64b
import Derived.OpenShut
import Derived.Handy
import Derived.Laws.EntriesVeiled
import Derived.Test.YtjdikhelabibnaaGreatProg
import Derived.Test.YtjdikhelabibnaaGreatMaa
namespace Go.Proofs.YtjdikhelabibnaaGreat
open Go.RowKit Go.Shelf
theorem double_eq {a : Nat} (h : a < 256) : bits .xor .u64 ((a : Int) * 2) ((a : Int) * 2 / 256 * 285) % 256 = ((dbl a : Nat) : Int) := by
 have : ∀ x : Fin 256, bits .xor .u64 ((x.val : Int) * 2) ((x.val : Int) * 2 / 256 * 285) % 256 = ((dbl x.val : Nat) : Int) := by decide +kernel
 exact this ⟨a, h⟩
theorem around_eq (n : Int) : IntKind.u64.wrap ((wrap64 (n.tmod 255 + 255)).tmod 255) = n % 255 := by
 have h1 := Int.tmod_lt_of_pos n (show (0 : Int) < 255 by omega)
 have h2 : -255 < n.tmod 255 := by
  have := Int.lt_tmod_of_pos n (show (0 : Int) < 255 by omega)
  omega
 have h3 : (n.tmod 255) % 255 = n % 255 := by rw [Int.tmod_def, Int.sub_mul_emod_self_left]
 rw [IntWalk.wrap64_in _ ⟨by omega, by omega⟩, Int.tmod_eq_emod_of_nonneg (by omega), IntWalk.u64_in _ ⟨by omega, by omega⟩, Int.add_emod_right, h3]
set_option maxRecDepth 100000 in
set_option maxHeartbeats 1000000 in
theorem double_any (a : Nat) (h : a < 256) (w : World) : Calls Tryz.prog 159 #[.int .u8 a] w fun e w' => e = .returned (.int .u8 (dbl a : Nat)) ∧ w' = w := by
 go_enter Tryz.func159, Tryz.ntmps159
 go_wp2
 go_ret
 rw [double_eq h]
 exact ⟨rfl, rfl⟩
set_option maxHeartbeats 1000000 in
theorem doubles_any (a : Int) (w : World) : Calls Tryz.prog 147 #[.int .u8 a] w fun e w' => e = .returned (.agg #[.int .u8 a, .func (.func 159) #[] #[]]) ∧ Below w.heap.size w w' := by
 go_enter Tryz.func147, Tryz.ntmps147
 go_wp2
 go_returns
 exact ⟨rfl, (Below.refl _ w).alloc (Nat.le_refl _) _⟩
set_option maxHeartbeats 1000000 in
theorem squares_any (a : Int) (w : World) : Calls Tryz.prog 161 #[.int .u8 a] w fun e w' => e = .returned (.agg #[.int .u8 a, .func (.func 163) #[] #[]]) ∧ Below w.heap.size w w' := by
 go_enter Tryz.func161, Tryz.ntmps161
 go_wp2
 go_returns
 exact ⟨rfl, (Below.refl _ w).alloc (Nat.le_refl _) _⟩
set_option maxHeartbeats 1000000 in
theorem around_any (n : Int) (w : World) : Calls Tryz.prog 162 #[.int .i64 n] w fun e w' => e = .returned (.int .u64 (n % 255)) ∧ w' = w := by
 go_enter Tryz.func162, Tryz.ntmps162
 go_wp2
 go_ret
 rw [around_eq]
 exact ⟨rfl, rfl⟩
structure Cap (w : World) (Bc Bm : Nat) (a : Int) (g : Nat) (m : Value) : Prop where
 c0 : w.cell? ⟨Bc, 0, none⟩ = some (.int .u8 a)
 c1 : w.cell? ⟨Bc, 1, none⟩ = some (.func (.func g) #[] #[])
 m0 : w.cell? ⟨Bm, 0, none⟩ = some m
theorem Cap.below {n : Nat} {w w' : World} {Bc Bm : Nat} {a : Int} {g : Nat} {m : Value} (h : Cap w Bc Bm a g m) (k : Below n w w') (hc : Bc < n) (hm : Bm < n) : Cap w' Bc Bm a g m :=
 ⟨(k.cell (p := ⟨Bc, 0, none⟩) hc).trans h.c0, (k.cell (p := ⟨Bc, 1, none⟩) hc).trans h.c1, (k.cell (p := ⟨Bm, 0, none⟩) hm).trans h.m0⟩
theorem cap_new (w : World) (a : Int) (g : Nat) (m : Value) (t s : TypeId) : Cap ((w.alloc (.cells #[.int .u8 a, .func (.func g) #[] #[]] t)).alloc (.cells #[m] s)) w.heap.size (w.heap.size + 1) a g m := by
 have h := World.alloc_heap_new w (.cells #[.int .u8 a, .func (.func g) #[] #[]] t)
 have h1 : ((w.alloc (.cells #[.int .u8 a, .func (.func g) #[] #[]] t)).alloc (.cells #[m] s)).heap[w.heap.size]? = some (.cells #[.int .u8 a, .func (.func g) #[] #[]] t (0, 0)) := (Below.heap_alloc _ _ _ (by simp)).trans h
 have h2 := World.alloc_heap_new (w.alloc (.cells #[.int .u8 a, .func (.func g) #[] #[]] t)) (.cells #[m] s)
 rw [World.size_alloc] at h2
 constructor
 ·simp [World.cell?, h1]
 ·simp [World.cell?, h1]
 unfold World.cell?; dsimp only; rw [h2]; rfl
set_option maxHeartbeats 1000000 in
theorem picked_any (a : Int) (g : Nat) (y : Int) (w : World) : Calls Tryz.prog 148 #[.agg #[.int .u8 a, .func (.func g) #[] #[]], .int .u64 y] w fun e w' =>
  ∃ Bc Bm, e = .returned (.func (.func 160) #[] #[.pointer (some ⟨Bc, 0, none⟩), .pointer (some ⟨Bm, 0, none⟩)]) ∧ Cap w' Bc Bm a g (.int .u64 y) ∧ w.heap.size ≤ Bc ∧ w.heap.size ≤ Bm ∧ Bc < w'.heap.size ∧ Bm < w'.heap.size ∧ Below w.heap.size w w' := by
 go_enter Tryz.func148, Tryz.ntmps148
 go_wp2
 go_ret
 exact ⟨_, _, rfl, cap_new w a g _ _ _, Nat.le_refl _, by omega, by simp; omega, by simp, ((Below.refl _ w).alloc (Nat.le_refl _) _).alloc (by simp) _⟩
end Go.Proofs.YtjdikhelabibnaaGreat

namespace Go.Proofs.YtjdikhelabibnaaGreat
open Go.RowKit Go.Shelf
attribute [local go_sem] Oper.semAt_some
theorem and_one {y : Nat} (h : y < 18446744073709551616) : bits .and .u64 (y : Int) 1 = ((y % 2 : Nat) : Int) := by
 have := bits_and_u64_nat y 1 h (by omega)
 rw [Nat.and_one_is_mod] at this
 exact this
structure Kq (S : List Nat) (n : Nat) (W W' : World) : Prop where
 size : W.heap.size ≤ W'.heap.size
 block : ∀ k, k < n → k ∉ S → W'.heap[k]? = W.heap[k]?
theorem Kq.refl (S : List Nat) (n : Nat) (W : World) : Kq S n W W := ⟨Nat.le_refl _, fun _ _ _ => rfl⟩
theorem Kq.trans {S : List Nat} {n : Nat} {A B C : World} (h : Kq S n A B) (k : Kq S n B C) : Kq S n A C :=
 ⟨Nat.le_trans h.size k.size, fun i hi hs => (k.block i hi hs).trans (h.block i hi hs)⟩
theorem Kq.setCell {S : List Nat} {n : Nat} {A B : World} (h : Kq S n A B) (p : Addr) (u : Value) (hp : p.block ∈ S) : Kq S n A (B.setCell p u) :=
 h.trans ⟨by simp [World.setCell], fun k _ hn => Below.heap_setCell _ _ _ _ (fun e => hn (e ▸ hp))⟩
theorem Kq.below {S : List Nat} {n : Nat} {A B C : World} (h : Kq S n A B) (k : Below B.heap.size B C) (hn : n ≤ B.heap.size) : Kq S n A C :=
 h.trans ⟨k.size, fun i hi _ => k.block i (by omega)⟩
theorem kq_b {S : List Nat} {n : Nat} {w : World} (hn : n ≤ w.heap.size) (W : World) (l : Nat) (o o' : Obj) (hl : w.heap.size ≤ l) (_ : W.heap[l]? = some o) (_ : o.isCells = false) (_ : o.isWalk = false) : Kq S n W (W.putObj l o') :=
 ⟨by simp [World.putObj], fun k hk _ => World.putObj_heap_other (by omega)⟩
theorem Cap.kq {S : List Nat} {n : Nat} {w w' : World} {Bc Bm : Nat} {a : Int} {g : Nat} {m : Value} (h : Cap w Bc Bm a g m) (k : Kq S n w w') (hc : Bc < n) (hm : Bm < n) (sc : Bc ∉ S) (sm : Bm ∉ S) : Cap w' Bc Bm a g m :=
 ⟨(World.cell?_of_block (k.block Bc hc sc)).trans h.c0, (World.cell?_of_block (k.block Bc hc sc)).trans h.c1, (World.cell?_of_block (k.block Bm hm sm)).trans h.m0⟩
theorem kept_of_below {w w' : World} (h : Below w.heap.size w w') : KeepsOthers w w' := ⟨h.size, fun k _ hk _ => (h.block k (Array.getElem?_eq_some_iff.1 hk).1).trans hk⟩
theorem grown_of_below {w w' : World} (h : Below w.heap.size w w') : w.grownBy w' none := ⟨h.os, h.tape, h.output, h.size, fun k hk _ => h.block k hk⟩
set_option maxRecDepth 100000 in
set_option maxHeartbeats 2000000 in
theorem picked_double_in (hst : ∀ (x : Nat) (w : World), x < 256 → Calls Tryz.prog 159 #[.int .u8 x] w fun e w' => e = .returned (.int .u8 (dbl x : Nat)) ∧ Below w.heap.size w w') (hlt : ∀ x, x < 256 → dbl x < 256)
  (S : List Nat) (n l Bc Bm n₀ a y k : Nat) (ha : a < 256) (hy : y < 2 ^ k) (hk : k ≤ 64) (J Jx : List (Fin 256) → World → Prop)
  (hY : ∀ pre (x : Fin 256) W, J pre W → pre.length < 64 → YieldAt Fence.wide (n - 1) Tryz.prog l #[.int .u8 x.val] W fun e W' =>
   (e = .returned (.bool true) ∧ J (pre ++ [x]) W' ∧ Kq S n₀ W W') ∨ (e = .returned (.bool false) ∧ Jx (pre ++ [x]) W'))
  (hJ : ∀ pre W W', J pre W → Below W.heap.size W W' → J pre W')
  (W : World) (hcap : Cap W Bc Bm a 159 (.int .u64 y)) (hBc : Bc < n₀) (hBm : Bm < n₀) (hn₀ : n₀ ≤ W.heap.size) (sc : Bc ∉ S) (sm : Bm ∉ S) (h0 : J [] W) :
  CallsIn Fence.wide n Tryz.prog 160 #[.func (.yield l) #[] #[], .pointer (some ⟨Bc, 0, none⟩), .pointer (some ⟨Bm, 0, none⟩)] W fun e W' => (∃ v, e = .returned v) ∧
   ((∃ ys, ys.map Fin.val = picks dbl k a y ∧ J ys W') ∨ (∃ pre, True ∧ Jx pre W')) := by
 have hc0 := hcap.c0
 have hm0 := hcap.m0
 refine callsIn_of_wp Tryz.func160 rfl trivial ?_ rfl
 simp only [Tryz.ntmps160, List.size_toArray, List.length_cons, List.length_nil, Nat.reduceAdd, Nat.reduceSub, Array.replicate_succ, Array.replicate_zero, List.push_toArray, List.append_toArray, List.nil_append, List.cons_append]
 gi_wp2
 gi_loopw [4, 5] (fun p q wr => ∃ (pre : List (Fin 256)) (x z j : Nat), p = .int .u8 x ∧ q = .int .u64 z ∧ x < 256 ∧ z < 2 ^ j ∧ pre.length + j ≤ 64 ∧ pre.map Fin.val ++ picks dbl j x z = picks dbl k a y ∧ J pre wr ∧ Cap wr Bc Bm a 159 (.int .u64 y) ∧ n₀ ≤ wr.heap.size)
  (fun _ q _ => (intOf q).toNat)
 case atStart => exact ⟨[], a, y, k, rfl, rfl, ha, hy, by simpa using hk, by simp, h0, hcap, hn₀⟩
 case round =>
  obtain ⟨pre, x, z, j, rfl, rfl, hx, hz, hl, hp, hJ1, hc, hs⟩ := hrel
  have c1 := hc.c1
  have hz64 : z < 18446744073709551616 := Nat.lt_of_lt_of_le hz (Nat.pow_le_pow_right (by omega) (by omega : j ≤ 64))
  by_cases hz0 : z = 0
  ·subst hz0
   gi_wp2
   go_end0
   exact ⟨⟨_, rfl⟩, .inl ⟨pre, by rw [← hp, picks_nought, List.append_nil], hJ1⟩⟩
  have hz1 : ((z : Int) != 0) = true := by rw [bne_iff_ne]; omega
  obtain ⟨j, rfl⟩ : ∃ i, j = i + 1 := ⟨j - 1, by
   have : j ≠ 0 := by rintro rfl; simp at hz; omega
   omega⟩
  have hz2 : z / 2 < 2 ^ j := by rw [Nat.pow_succ] at hz; omega
  by_cases hodd : z % 2 = 1
  ·have hb : bits .and .u64 (z : Int) 1 = 1 := by rw [and_one hz64, hodd]; rfl
   rw [picks, if_pos hodd] at hp
   obtain ⟨fn, tmps, assign, body, hy1, hR⟩ := hY pre ⟨x, hx⟩ wr hJ1 (by omega)
   dsimp only at hy1
   gi_wp2
   refine ⟨fun h => absurd h (by simp [Fence.wide]), hR.mono ?_⟩
   rintro e W3 (⟨rfl, hJ3, hk3⟩ | ⟨rfl, hJx3⟩)
   ·have hc3 := hc.kq hk3 hBc hBm sc sm
    have c3 := hc3.c1
    have hs3 := hk3.size
    gi_wp2
    refine ⟨trivial, fun h => absurd h (by simp [Fence.wide]), (callsIn_wide.2 (hst x W3 hx)).mono ?_⟩
    rintro e W4 ⟨rfl, hk4⟩
    gi_wp2
    have hs4 := hk4.size
    go_roundw
    case rel => exact ⟨pre ++ [⟨x, hx⟩], dbl x, z / 2, j, rfl, by rw [Int.natCast_ediv]; rfl, hlt x hx, hz2, by simp; omega, by rw [← hp]; simp, hJ _ _ _ hJ3 hk4, hc3.below hk4 (by omega) (by omega), by omega⟩
    case measure => simp [intOf]; omega
   gi_wp2
   refine bodyPost_ret (results_none rfl _ _ _) rfl ?_
   exact ⟨⟨_, rfl⟩, .inr ⟨pre ++ [⟨x, hx⟩], trivial, hJx3⟩⟩
  have hb : bits .and .u64 (z : Int) 1 = 0 := by rw [and_one hz64, show z % 2 = 0 from by omega]; rfl
  rw [picks, if_neg hodd] at hp
  gi_wp2
  refine ⟨fun _ h => (by cases h), ?_⟩
  gi_wp2
  refine ⟨trivial, fun h => absurd h (by simp [Fence.wide]), (callsIn_wide.2 (hst x wr hx)).mono ?_⟩
  rintro e W4 ⟨rfl, hk4⟩
  gi_wp2
  have hs4 := hk4.size
  go_roundw
  case rel => exact ⟨pre, dbl x, z / 2, j, rfl, by rw [Int.natCast_ediv]; rfl, hlt x hx, hz2, by omega, by rw [← hp]; simp, hJ _ _ _ hJ1 hk4, hc.below hk4 (by omega) (by omega), by omega⟩
  case measure => simp [intOf]; omega
set_option maxRecDepth 100000 in
set_option maxHeartbeats 2000000 in
theorem picked_square_in (hst : ∀ (x : Nat) (w : World), x < 256 → Calls Tryz.prog 163 #[.int .u8 x] w fun e w' => e = .returned (.int .u8 (sqr x : Nat)) ∧ Below w.heap.size w w') (hlt : ∀ x, x < 256 → sqr x < 256)
  (S : List Nat) (n l Bc Bm n₀ a y k : Nat) (ha : a < 256) (hy : y < 2 ^ k) (hk : k ≤ 64) (J Jx : List (Fin 256) → World → Prop)
  (hY : ∀ pre (x : Fin 256) W, J pre W → pre.length < 64 → YieldAt Fence.wide (n - 1) Tryz.prog l #[.int .u8 x.val] W fun e W' =>
   (e = .returned (.bool true) ∧ J (pre ++ [x]) W' ∧ Kq S n₀ W W') ∨ (e = .returned (.bool false) ∧ Jx (pre ++ [x]) W'))
  (hJ : ∀ pre W W', J pre W → Below W.heap.size W W' → J pre W')
  (W : World) (hcap : Cap W Bc Bm a 163 (.int .u64 y)) (hBc : Bc < n₀) (hBm : Bm < n₀) (hn₀ : n₀ ≤ W.heap.size) (sc : Bc ∉ S) (sm : Bm ∉ S) (h0 : J [] W) :
  CallsIn Fence.wide n Tryz.prog 160 #[.func (.yield l) #[] #[], .pointer (some ⟨Bc, 0, none⟩), .pointer (some ⟨Bm, 0, none⟩)] W fun e W' => (∃ v, e = .returned v) ∧
   ((∃ ys, ys.map Fin.val = picks sqr k a y ∧ J ys W') ∨ (∃ pre, True ∧ Jx pre W')) := by
 have hc0 := hcap.c0
 have hm0 := hcap.m0
 refine callsIn_of_wp Tryz.func160 rfl trivial ?_ rfl
 simp only [Tryz.ntmps160, List.size_toArray, List.length_cons, List.length_nil, Nat.reduceAdd, Nat.reduceSub, Array.replicate_succ, Array.replicate_zero, List.push_toArray, List.append_toArray, List.nil_append, List.cons_append]
 gi_wp2
 gi_loopw [4, 5] (fun p q wr => ∃ (pre : List (Fin 256)) (x z j : Nat), p = .int .u8 x ∧ q = .int .u64 z ∧ x < 256 ∧ z < 2 ^ j ∧ pre.length + j ≤ 64 ∧ pre.map Fin.val ++ picks sqr j x z = picks sqr k a y ∧ J pre wr ∧ Cap wr Bc Bm a 163 (.int .u64 y) ∧ n₀ ≤ wr.heap.size)
  (fun _ q _ => (intOf q).toNat)
 case atStart => exact ⟨[], a, y, k, rfl, rfl, ha, hy, by simpa using hk, by simp, h0, hcap, hn₀⟩
 case round =>
  obtain ⟨pre, x, z, j, rfl, rfl, hx, hz, hl, hp, hJ1, hc, hs⟩ := hrel
  have c1 := hc.c1
  have hz64 : z < 18446744073709551616 := Nat.lt_of_lt_of_le hz (Nat.pow_le_pow_right (by omega) (by omega : j ≤ 64))
  by_cases hz0 : z = 0
  ·subst hz0
   gi_wp2
   go_end0
   exact ⟨⟨_, rfl⟩, .inl ⟨pre, by rw [← hp, picks_nought, List.append_nil], hJ1⟩⟩
  have hz1 : ((z : Int) != 0) = true := by rw [bne_iff_ne]; omega
  obtain ⟨j, rfl⟩ : ∃ i, j = i + 1 := ⟨j - 1, by
   have : j ≠ 0 := by rintro rfl; simp at hz; omega
   omega⟩
  have hz2 : z / 2 < 2 ^ j := by rw [Nat.pow_succ] at hz; omega
  by_cases hodd : z % 2 = 1
  ·have hb : bits .and .u64 (z : Int) 1 = 1 := by rw [and_one hz64, hodd]; rfl
   rw [picks, if_pos hodd] at hp
   obtain ⟨fn, tmps, assign, body, hy1, hR⟩ := hY pre ⟨x, hx⟩ wr hJ1 (by omega)
   dsimp only at hy1
   gi_wp2
   refine ⟨fun h => absurd h (by simp [Fence.wide]), hR.mono ?_⟩
   rintro e W3 (⟨rfl, hJ3, hk3⟩ | ⟨rfl, hJx3⟩)
   ·have hc3 := hc.kq hk3 hBc hBm sc sm
    have c3 := hc3.c1
    have hs3 := hk3.size
    gi_wp2
    refine ⟨trivial, fun h => absurd h (by simp [Fence.wide]), (callsIn_wide.2 (hst x W3 hx)).mono ?_⟩
    rintro e W4 ⟨rfl, hk4⟩
    gi_wp2
    have hs4 := hk4.size
    go_roundw
    case rel => exact ⟨pre ++ [⟨x, hx⟩], sqr x, z / 2, j, rfl, by rw [Int.natCast_ediv]; rfl, hlt x hx, hz2, by simp; omega, by rw [← hp]; simp, hJ _ _ _ hJ3 hk4, hc3.below hk4 (by omega) (by omega), by omega⟩
    case measure => simp [intOf]; omega
   gi_wp2
   refine bodyPost_ret (results_none rfl _ _ _) rfl ?_
   exact ⟨⟨_, rfl⟩, .inr ⟨pre ++ [⟨x, hx⟩], trivial, hJx3⟩⟩
  have hb : bits .and .u64 (z : Int) 1 = 0 := by rw [and_one hz64, show z % 2 = 0 from by omega]; rfl
  rw [picks, if_neg hodd] at hp
  gi_wp2
  refine ⟨fun _ h => (by cases h), ?_⟩
  gi_wp2
  refine ⟨trivial, fun h => absurd h (by simp [Fence.wide]), (callsIn_wide.2 (hst x wr hx)).mono ?_⟩
  rintro e W4 ⟨rfl, hk4⟩
  gi_wp2
  have hs4 := hk4.size
  go_roundw
  case rel => exact ⟨pre, sqr x, z / 2, j, rfl, by rw [Int.natCast_ediv]; rfl, hlt x hx, hz2, by omega, by rw [← hp]; simp, hJ _ _ _ hJ1 hk4, hc.below hk4 (by omega) (by omega), by omega⟩
  case measure => simp [intOf]; omega
theorem picked_double_stops (hst : ∀ (x : Nat) (w : World), x < 256 → Calls Tryz.prog 159 #[.int .u8 x] w fun e w' => e = .returned (.int .u8 (dbl x : Nat)) ∧ Below w.heap.size w w') (hlt : ∀ x, x < 256 → dbl x < 256)
  (S : List Nat) (n Bc Bm n₀ a y k : Nat) (ha : a < 256) (hy : y < 2 ^ k) (hk : k ≤ 64) (w : World) (hcap : Cap w Bc Bm a 159 (.int .u64 y)) (hBc : Bc < n₀) (hBm : Bm < n₀) (hn₀ : n₀ ≤ w.heap.size) (sc : Bc ∉ S) (sm : Bm ∉ S) :
  SeqStopsK Fence.wide n Tryz.prog 160 #[.pointer (some ⟨Bc, 0, none⟩), .pointer (some ⟨Bm, 0, none⟩)] (fun x : Fin 256 => #[Value.int .u8 x.val]) (Kq S n₀) (fun ys => ys.map Fin.val = picks dbl k a y) (fun _ => True) 64 w := fun l J Jx W hW hJ _ hY h0 =>
 picked_double_in hst hlt S n l Bc Bm n₀ a y k ha hy hk J Jx hY (fun pre A B hj hb => hJ pre A B none hj (grown_of_below hb) (fun r e => by cases e)) W (hcap.below hW (by omega) (by omega)) hBc hBm (Nat.le_trans hn₀ hW.size) sc sm h0
theorem picked_square_stops (hst : ∀ (x : Nat) (w : World), x < 256 → Calls Tryz.prog 163 #[.int .u8 x] w fun e w' => e = .returned (.int .u8 (sqr x : Nat)) ∧ Below w.heap.size w w') (hlt : ∀ x, x < 256 → sqr x < 256)
  (S : List Nat) (n Bc Bm n₀ a y k : Nat) (ha : a < 256) (hy : y < 2 ^ k) (hk : k ≤ 64) (w : World) (hcap : Cap w Bc Bm a 163 (.int .u64 y)) (hBc : Bc < n₀) (hBm : Bm < n₀) (hn₀ : n₀ ≤ w.heap.size) (sc : Bc ∉ S) (sm : Bm ∉ S) :
  SeqStopsK Fence.wide n Tryz.prog 160 #[.pointer (some ⟨Bc, 0, none⟩), .pointer (some ⟨Bm, 0, none⟩)] (fun x : Fin 256 => #[Value.int .u8 x.val]) (Kq S n₀) (fun ys => ys.map Fin.val = picks sqr k a y) (fun _ => True) 64 w := fun l J Jx W hW hJ _ hY h0 =>
 picked_square_in hst hlt S n l Bc Bm n₀ a y k ha hy hk J Jx hY (fun pre A B hj hb => hJ pre A B none hj (grown_of_below hb) (fun r e => by cases e)) W (hcap.below hW (by omega) (by omega)) hBc hBm (Nat.le_trans hn₀ hW.size) sc sm h0
end Go.Proofs.YtjdikhelabibnaaGreat

namespace Go.Proofs.YtjdikhelabibnaaGreat
open Go.RowKit Go.Shelf
attribute [local go_sem] Oper.semAt_some
theorem cell_of_box {W : World} {B : Nat} {v : Value} {t : TypeId} (h : W.heap[B]? = some (.cells #[v] t (0, 0))) : W.cell? ⟨B, 0, none⟩ = some v ∧ W.frozen? ⟨B, 0, none⟩ = false := by
 constructor <;> simp [World.cell?, World.frozen?, h]
theorem cell_new' (W : World) (v : Value) (t : TypeId) : (W.alloc (.cells #[v] t)).cell? ⟨W.heap.size, 0, none⟩ = some v ∧ (W.alloc (.cells #[v] t)).frozen? ⟨W.heap.size, 0, none⟩ = false :=
 cell_of_box (World.alloc_heap_new W _)
theorem box_below {w w' : World} {B n : Nat} {v : Value} (h : w.cell? ⟨B, 0, none⟩ = some v ∧ w.frozen? ⟨B, 0, none⟩ = false) (k : Below n w w') (hB : B < n) : w'.cell? ⟨B, 0, none⟩ = some v ∧ w'.frozen? ⟨B, 0, none⟩ = false :=
 ⟨(k.cell (p := ⟨B, 0, none⟩) hB).trans h.1, (World.frozen?_of_block (k.block B hB)).trans h.2⟩
theorem bits_xor_nat (k : IntKind) (j : Nat) (hj : j ≤ k.bits) (hk : ∀ n : Int, 0 ≤ n → n < 2 ^ j → k.wrap n = n) (a b : Nat) (ha : a < 2 ^ j) (hb : b < 2 ^ j) : bits .xor k a b = ((a ^^^ b : Nat) : Int) := by
 have hp : 2 ^ j ≤ 2 ^ k.bits := Nat.pow_le_pow_right (by decide) hj
 have ha' : a % 2 ^ k.bits = a := Nat.mod_eq_of_lt (Nat.lt_of_lt_of_le ha hp)
 have hb' : b % 2 ^ k.bits = b := Nat.mod_eq_of_lt (Nat.lt_of_lt_of_le hb hp)
 have cast : ∀ n : Nat, n < 2 ^ j → ((n : Nat) : Int) < 2 ^ j := fun n h => by exact_mod_cast h
 simp only [bits, BitVec.ofInt_natCast, BitVec.toNat_xor, BitVec.toNat_ofNat, ha', hb']
 exact hk _ (Int.natCast_nonneg _) (cast _ (Nat.xor_lt_two_pow ha hb))
theorem bits_xor_u8 {a b : Nat} (ha : a < 256) (hb : b < 256) : bits .xor .u8 (a : Int) (b : Int) = ((a ^^^ b : Nat) : Int) :=
 bits_xor_nat .u8 8 (by decide) wraps_u8 a b ha hb
def sumX (pre : List (Fin 256)) : Nat := (pre.map Fin.val).foldl (· ^^^ ·) 0
theorem sumX_snoc (pre : List (Fin 256)) (x : Fin 256) : sumX (pre ++ [x]) = sumX pre ^^^ x.val := by simp [sumX, List.foldl_append]
theorem sumX_lt (pre : List (Fin 256)) : sumX pre < 256 := by
 have : ∀ (l : List (Fin 256)) (s : Nat), s < 256 → (l.map Fin.val).foldl (· ^^^ ·) s < 256 := by
  intro l
  induction l with
  | nil => intro s h; simpa using h
  | cons x l ih => intro s h; simp only [List.map_cons, List.foldl_cons]; exact ih _ (xor_lt h x.isLt)
 exact this pre 0 (by omega)
set_option maxRecDepth 100000 in
set_option maxHeartbeats 4000000 in
theorem mul_any (a b : Nat) (ha : a < 256) (hb : b < 256) (w : World) :
  Calls Tryz.prog 131 #[.int .u8 a, .int .u8 b] w fun e W' => e = .returned (.int .u8 (gmul a b : Nat)) ∧ Below w.heap.size w W' := by
 refine (callsIn_wide (n := 3)).1 ?_
 refine callsIn_of_wp_marks Tryz.func131 rfl trivial ?_ rfl
 simp only [Tryz.ntmps131, List.size_toArray, List.length_cons, List.length_nil, Nat.reduceAdd, Nat.reduceSub, Array.replicate_succ, Array.replicate_zero, List.push_toArray, List.append_toArray, List.nil_append, List.cons_append]
 have s0 := cell_new' w (.int .u8 0) 5
 gi_wp2
 refine ⟨trivial, (callsIn_wide.2 (doubles_any a _)).mono ?_⟩
 rintro e w1 ⟨rfl, hk1⟩
 gi_wp2
 refine ⟨trivial, (callsIn_wide.2 (picked_any a 159 b _)).mono ?_⟩
 rintro e w2 ⟨Bc, Bm, rfl, hcap, hc1, hm1, hc2, hm2, hk2⟩
 have hz := hk1.size
 have hz2 := hk2.size
 simp only [World.size_alloc] at hz
 have hB2 : Below w.heap.size w w2 := (((Below.refl _ w).alloc (Nat.le_refl _) _).trans (hk1.mono (by simp))).trans (hk2.mono (by omega))
 have s2 := box_below (box_below s0 hk1 (by simp)) hk2 (by omega)
 clear hk1 hk2 s0
 gi_wp2
 refine wpIn_rangeFunc_ownF rfl (by omega) (gf := 160) (lb := #[.pointer (some ⟨Bc, 0, none⟩), .pointer (some ⟨Bm, 0, none⟩)]) rfl trivial (enters_of Tryz.func160 (by kernel_rfl) rfl)
  (picked_double_stops (fun x w hx => (double_any x hx w).mono (fun e w' h => ⟨h.1, by rw [h.2]; exact Below.refl _ _⟩)) (fun x hx => dbl_lt hx) [w.heap.size] 2 Bc Bm w2.heap.size a b 8 ha hb (by omega) w2 hcap hc2 hm2 (Nat.le_refl _) (by simp; omega) (by simp; omega))
  (fun h k => h.trans k) (kq_b (Nat.le_refl _)) (Below.refl _ _) (fun _ => rfl)
  (fun pre W => (W.cell? ⟨w.heap.size, 0, none⟩ = some (.int .u8 (sumX pre : Nat)) ∧ W.frozen? ⟨w.heap.size, 0, none⟩ = false) ∧ Below w.heap.size w W)
  (fun _ _ _ => False)
  (OwnFrom.and (Own.from (fun s A B row hs hg hr => ⟨cell_kept hs.1 hg hr, (frozen_kept hs.1 hg hr).trans hs.2⟩) _) (ownFrom_below (Nat.le_refl _) hB2.size))
  (fun _ _ _ _ _ hs _ _ => hs)
  ⟨s2, hB2⟩
  (fun x => { tmps := #[.int .u8 a, .int .u8 b, undef, undef, .int .u8 0, .pointer (some ⟨w.heap.size, 0, none⟩), .int .u8 x.val, .int .u8 a, .agg #[.int .u8 a, .func (.func 159) #[] #[]], .int .u8 b, .int .u64 b, .func (.func 160) #[] #[.pointer (some ⟨Bc, 0, none⟩), .pointer (some ⟨Bm, 0, none⟩)], .int .u8 x.val, undef, undef, undef, undef], defers := [] }) ?assign ?body ?done ?stop
 case assign =>
  intro l x W K hK
  gi_wp2
  exact hK
 case body =>
  rintro l pre x W ⟨⟨hc, hf⟩, hB⟩ _
  have hx := x.isLt
  have hs := sumX_lt pre
  have hxor := bits_xor_u8 hs hx
  gi_wp2
  refine ⟨KeepsOthers.setCell _ _ _, (Kq.refl _ _ W).setCell ⟨w.heap.size, 0, none⟩ _ (by simp), ⟨?_, by rw [World.frozen?_setCell]; exact hf⟩, hB.setCell (p := ⟨w.heap.size, 0, none⟩) (Nat.le_refl _) _⟩
  rw [sumX_snoc]
  exact World.cell?_setCell_same' _ _ _ (by rw [hc]; rfl)
 case done =>
  rintro D ys W hD hys ⟨⟨hc, _⟩, hB⟩ hK
  gi_wp2
  refine ⟨by simp, .inl ⟨_, _, rfl, run_takeDeferred hK, ?_⟩⟩
  refine ⟨_, results_tmp rfl _ _ _, ?_, hB.trans (belowK_b (w := w) (Nat.le_refl _) W D _ _ (by omega) hK rfl rfl)⟩
  have e : sumX ys = gmul a b := by unfold sumX; rw [hys]; exact mul_picks a b
  rw [← e]
  rfl
 case stop =>
  rintro D c pre W _ _ h _
  exact h.elim
end Go.Proofs.YtjdikhelabibnaaGreat

namespace Go.Proofs.YtjdikhelabibnaaGreat
open Go.RowKit Go.Shelf
set_option maxRecDepth 100000 in
set_option maxHeartbeats 1000000 in
theorem square_any (a : Nat) (w : World) (ha : a < 256) : Calls Tryz.prog 163 #[.int .u8 a] w fun e w' => e = .returned (.int .u8 (sqr a : Nat)) ∧ Below w.heap.size w w' := by
 go_enter Tryz.func163, Tryz.ntmps163
 go_wp2_with fail
 refine (mul_any a a ha ha w).mono ?_
 rintro e w1 ⟨rfl, hk⟩
 go_wp2
 go_ret
 exact ⟨rfl, hk⟩
section
attribute [local go_sem] Oper.semAt_some
def prodX (pre : List (Fin 256)) : Nat := (pre.map Fin.val).foldl gmul 1
theorem prodX_snoc (pre : List (Fin 256)) (x : Fin 256) : prodX (pre ++ [x]) = gmul (prodX pre) x.val := by simp [prodX, List.foldl_append]
theorem prodX_lt (pre : List (Fin 256)) : prodX pre < 256 := by
 have : ∀ (l : List (Fin 256)) (s : Nat), s < 256 → (l.map Fin.val).foldl gmul s < 256 := by
  intro l
  induction l with
  | nil => intro s h; simpa using h
  | cons x l ih => intro s h; simp only [List.map_cons, List.foldl_cons]; exact ih _ (gmul_lt h)
 exact this pre 1 (by omega)
set_option maxRecDepth 100000 in
set_option maxHeartbeats 4000000 in
theorem pow_loop (a : Nat) (n : Int) (ha : a < 256) (h : ¬ (a = 0 ∧ n ≠ 0)) (w : World) :
  Calls Tryz.prog 158 #[.int .u8 a, .int .i64 n] w fun e W' => e = .returned (.int .u8 ((picks sqr 8 a (n % 255).toNat).foldl gmul 1 : Nat)) ∧ Below w.heap.size w W' := by
 obtain ⟨m, hm⟩ : ∃ m : Nat, n % 255 = m := ⟨(n % 255).toNat, by omega⟩
 have hm1 : m < 256 := by omega
 have e : (n % 255).toNat = m := by omega
 rw [e]
 refine (callsIn_wide (n := 3)).1 ?_
 refine callsIn_of_wp_marks Tryz.func158 rfl trivial ?_ rfl
 simp only [Tryz.ntmps158, List.size_toArray, List.length_cons, List.length_nil, Nat.reduceAdd, Nat.reduceSub, Array.replicate_succ, Array.replicate_zero, List.push_toArray, List.append_toArray, List.nil_append, List.cons_append]
 have s0 := cell_new' w (.int .u8 1) 5
 by_cases h0 : a = 0
 ·obtain rfl : n = 0 := Classical.byContradiction fun hn => h ⟨h0, hn⟩
  subst h0
  gi_wp2
  refine ⟨trivial, (callsIn_wide.2 (squares_any 0 _)).mono ?_⟩
  rintro e w1 ⟨rfl, hk1⟩
  gi_wp2
  refine ⟨trivial, (callsIn_wide.2 (around_any 0 _)).mono ?_⟩
  rintro e w1' ⟨rfl, hw1⟩
  subst hw1
  rw [hm]
  gi_wp2
  refine ⟨trivial, (callsIn_wide.2 (picked_any 0 163 m _)).mono ?_⟩
  rintro e w2 ⟨Bc, Bm, rfl, hcap, hc1, hm1', hc2, hm2, hk2⟩
  have hz := hk1.size
  have hz2 := hk2.size
  simp only [World.size_alloc] at hz
  have hB2 : Below w.heap.size w w2 := (((Below.refl _ w).alloc (Nat.le_refl _) _).trans (hk1.mono (by simp))).trans (hk2.mono (by omega))
  have s2 := box_below (box_below s0 hk1 (by simp)) hk2 (by omega)
  clear hk1 hk2 s0
  gi_wp2
  refine wpIn_rangeFunc_ownF rfl (by omega) (gf := 160) (lb := #[.pointer (some ⟨Bc, 0, none⟩), .pointer (some ⟨Bm, 0, none⟩)]) rfl trivial (enters_of Tryz.func160 (by kernel_rfl) rfl)
   (picked_square_stops (fun x w hx => square_any x w hx) (fun x hx => gmul_lt hx) [w.heap.size] 2 Bc Bm w2.heap.size 0 m 8 ha hm1 (by omega) w2 hcap hc2 hm2 (Nat.le_refl _) (by simp; omega) (by simp; omega))
   (fun h k => h.trans k) (kq_b (Nat.le_refl _)) (Below.refl _ _) (fun _ => rfl)
   (fun pre W => (W.cell? ⟨w.heap.size, 0, none⟩ = some (.int .u8 (prodX pre : Nat)) ∧ W.frozen? ⟨w.heap.size, 0, none⟩ = false) ∧ (Below w.heap.size w W ∧ w2.heap.size ≤ W.heap.size))
   (fun _ _ _ => False)
   (OwnFrom.and (Own.from (fun s A B row hs hg hr => ⟨cell_kept hs.1 hg hr, (frozen_kept hs.1 hg hr).trans hs.2⟩) _) (OwnFrom.and (ownFrom_below (Nat.le_refl _) hB2.size) (fun _ A B row hs hg hr => Nat.le_trans hs hg.size)))
   (fun _ _ _ _ _ hs _ _ => hs)
   ⟨s2, hB2, Nat.le_refl _⟩
   (fun x => { tmps := #[.int .u8 0, .int .i64 0, undef, undef, .int .u8 0, .pointer (some ⟨w.heap.size, 0, none⟩), .int .u8 x.val, .int .u8 0, .bool true, .bool true, .int .i64 0, .bool false, .bool false, .int .u8 0, .agg #[.int .u8 0, .func (.func 163) #[] #[]], .int .i64 0, .int .u64 m, .func (.func 160) #[] #[.pointer (some ⟨Bc, 0, none⟩), .pointer (some ⟨Bm, 0, none⟩)], .int .u8 x.val, undef, undef, undef, undef], defers := [] }) ?assign ?body ?done ?stop
  case assign =>
   intro l x W K hK
   gi_wp2
   exact hK
  case body =>
   rintro l pre x W ⟨⟨hc, hf⟩, hB, hS⟩ _
   have hx := x.isLt
   have hs := prodX_lt pre
   have hsz : w.heap.size < W.heap.size := by have := block_lt_of_cell hc; simpa using this
   gi_wp2
   refine ⟨trivial, CallsIn.inRound l ((callsIn_wide.2 (mul_any (prodX pre) x.val hs hx W)).mono ?_)⟩
   rintro e W2 ⟨rfl, hk⟩
   obtain ⟨hc', hf'⟩ := box_below ⟨hc, hf⟩ hk hsz
   gi_wp2
   refine ⟨(kept_of_below hk).trans (KeepsOthers.setCell _ _ _), ((Kq.refl _ _ W).below hk hS).setCell ⟨w.heap.size, 0, none⟩ _ (by simp), ⟨?_, by rw [World.frozen?_setCell]; exact hf'⟩, (hB.trans (hk.mono hB.size)).setCell (p := ⟨w.heap.size, 0, none⟩) (Nat.le_refl _) _, Nat.le_trans hS (Nat.le_trans hk.size (by simp [World.setCell]))⟩
   rw [prodX_snoc]
   exact World.cell?_setCell_same' _ _ _ (by rw [hc']; rfl)
  case done =>
   rintro D ys W hD hys ⟨⟨hc, _⟩, hB, _⟩ hK
   gi_wp2
   refine ⟨by simp, .inl ⟨_, _, rfl, run_takeDeferred hK, ?_⟩⟩
   refine ⟨_, results_tmp rfl _ _ _, ?_, hB.trans (belowK_b (w := w) (Nat.le_refl _) W D _ _ (by omega) hK rfl rfl)⟩
   rw [← hys]
   rfl
  case stop =>
   rintro D c pre W _ _ h _
   exact h.elim
 have h0' : ((a : Int) == 0) = false := by rw [beq_eq_false_iff_ne]; omega
 gi_wp2
 refine ⟨trivial, (callsIn_wide.2 (squares_any a _)).mono ?_⟩
 rintro e w1 ⟨rfl, hk1⟩
 gi_wp2
 refine ⟨trivial, (callsIn_wide.2 (around_any n _)).mono ?_⟩
 rintro e w1' ⟨rfl, hw1⟩
 subst hw1
 rw [hm]
 gi_wp2
 refine ⟨trivial, (callsIn_wide.2 (picked_any a 163 m _)).mono ?_⟩
 rintro e w2 ⟨Bc, Bm, rfl, hcap, hc1, hm1', hc2, hm2, hk2⟩
 have hz := hk1.size
 have hz2 := hk2.size
 simp only [World.size_alloc] at hz
 have hB2 : Below w.heap.size w w2 := (((Below.refl _ w).alloc (Nat.le_refl _) _).trans (hk1.mono (by simp))).trans (hk2.mono (by omega))
 have s2 := box_below (box_below s0 hk1 (by simp)) hk2 (by omega)
 clear hk1 hk2 s0
 gi_wp2
 refine wpIn_rangeFunc_ownF rfl (by omega) (gf := 160) (lb := #[.pointer (some ⟨Bc, 0, none⟩), .pointer (some ⟨Bm, 0, none⟩)]) rfl trivial (enters_of Tryz.func160 (by kernel_rfl) rfl)
  (picked_square_stops (fun x w hx => square_any x w hx) (fun x hx => gmul_lt hx) [w.heap.size] 2 Bc Bm w2.heap.size a m 8 ha hm1 (by omega) w2 hcap hc2 hm2 (Nat.le_refl _) (by simp; omega) (by simp; omega))
  (fun h k => h.trans k) (kq_b (Nat.le_refl _)) (Below.refl _ _) (fun _ => rfl)
  (fun pre W => (W.cell? ⟨w.heap.size, 0, none⟩ = some (.int .u8 (prodX pre : Nat)) ∧ W.frozen? ⟨w.heap.size, 0, none⟩ = false) ∧ (Below w.heap.size w W ∧ w2.heap.size ≤ W.heap.size))
  (fun _ _ _ => False)
  (OwnFrom.and (Own.from (fun s A B row hs hg hr => ⟨cell_kept hs.1 hg hr, (frozen_kept hs.1 hg hr).trans hs.2⟩) _) (OwnFrom.and (ownFrom_below (Nat.le_refl _) hB2.size) (fun _ A B row hs hg hr => Nat.le_trans hs hg.size)))
  (fun _ _ _ _ _ hs _ _ => hs)
  ⟨s2, hB2, Nat.le_refl _⟩
  (fun x => { tmps := #[.int .u8 a, .int .i64 n, undef, undef, .int .u8 0, .pointer (some ⟨w.heap.size, 0, none⟩), .int .u8 x.val, .int .u8 a, .bool false, .bool false, undef, undef, .bool false, .int .u8 a, .agg #[.int .u8 a, .func (.func 163) #[] #[]], .int .i64 n, .int .u64 m, .func (.func 160) #[] #[.pointer (some ⟨Bc, 0, none⟩), .pointer (some ⟨Bm, 0, none⟩)], .int .u8 x.val, undef, undef, undef, undef], defers := [] }) ?assign ?body ?done ?stop
 case assign =>
  intro l x W K hK
  gi_wp2
  exact hK
 case body =>
  rintro l pre x W ⟨⟨hc, hf⟩, hB, hS⟩ _
  have hx := x.isLt
  have hs := prodX_lt pre
  have hsz : w.heap.size < W.heap.size := by have := block_lt_of_cell hc; simpa using this
  gi_wp2
  refine ⟨trivial, CallsIn.inRound l ((callsIn_wide.2 (mul_any (prodX pre) x.val hs hx W)).mono ?_)⟩
  rintro e W2 ⟨rfl, hk⟩
  obtain ⟨hc', hf'⟩ := box_below ⟨hc, hf⟩ hk hsz
  gi_wp2
  refine ⟨(kept_of_below hk).trans (KeepsOthers.setCell _ _ _), ((Kq.refl _ _ W).below hk hS).setCell ⟨w.heap.size, 0, none⟩ _ (by simp), ⟨?_, by rw [World.frozen?_setCell]; exact hf'⟩, (hB.trans (hk.mono hB.size)).setCell (p := ⟨w.heap.size, 0, none⟩) (Nat.le_refl _) _, Nat.le_trans hS (Nat.le_trans hk.size (by simp [World.setCell]))⟩
  rw [prodX_snoc]
  exact World.cell?_setCell_same' _ _ _ (by rw [hc']; rfl)
 case done =>
  rintro D ys W hD hys ⟨⟨hc, _⟩, hB, _⟩ hK
  gi_wp2
  refine ⟨by simp, .inl ⟨_, _, rfl, run_takeDeferred hK, ?_⟩⟩
  refine ⟨_, results_tmp rfl _ _ _, ?_, hB.trans (belowK_b (w := w) (Nat.le_refl _) W D _ _ (by omega) hK rfl rfl)⟩
  rw [← hys]
  rfl
 case stop =>
  rintro D c pre W _ _ h _
  exact h.elim
end
set_option maxRecDepth 100000 in
set_option maxHeartbeats 1000000 in
theorem pow_any (a : Nat) (n : Int) (ha : a < 256) (w : World) :
  Calls Tryz.prog 158 #[.int .u8 a, .int .i64 n] w fun e W' => e = .returned (.int .u8 (pw a n : Nat)) ∧ Below w.heap.size w W' := by
 by_cases h : a = 0 ∧ n ≠ 0
 ·obtain ⟨rfl, hn⟩ := h
  have hn1 : (n != 0) = true := by rw [bne_iff_ne]; exact hn
  rw [pw_zero hn]
  go_enter Tryz.func158, Tryz.ntmps158
  go_wp2
  go_ret
  exact ⟨rfl, Below.refl _ _⟩
 have e : (picks sqr 8 a (n % 255).toNat).foldl gmul 1 = pw a n := by
  by_cases hn : n = 0
  ·subst hn
   rw [show ((0 : Int) % 255).toNat = 0 from rfl, picks_nought, pw_nought]
   rfl
  have h0 : a ≠ 0 := fun e => h ⟨e, hn⟩
  rw [pow_picks (by omega) ha]
  unfold pw
  rw [if_neg hn, if_neg h0]
 have := pow_loop a n ha h w
 rw [e] at this
 exact this
set_option maxRecDepth 100000 in
set_option maxHeartbeats 1000000 in
theorem exp_any (n : Int) (w : World) : Calls Tryz.prog 146 #[.int .i64 n] w fun e W' => e = .returned (.int .u8 (X n : Nat)) ∧ Below w.heap.size w W' := by
 go_enter Tryz.func146, Tryz.ntmps146
 go_wp2_with fail
 refine (pow_any 2 n (by omega) w).mono ?_
 rintro e w1 ⟨rfl, hk⟩
 rw [pw_two]
 go_wp2
 go_ret
 exact ⟨rfl, hk⟩
set_option maxRecDepth 100000 in
set_option maxHeartbeats 1000000 in
theorem inv_any (a : Nat) (ha : a < 256) (w : World) : Calls Tryz.prog 151 #[.int .u8 a] w fun e W' => e = .returned (.int .u8 (pw a (-1) : Nat)) ∧ Below w.heap.size w W' := by
 go_enter Tryz.func151, Tryz.ntmps151
 go_wp2_with fail
 refine (pow_any a (-1) ha w).mono ?_
 rintro e w1 ⟨rfl, hk⟩
 go_wp2
 go_ret
 exact ⟨rfl, hk⟩
end Go.Proofs.YtjdikhelabibnaaGreat
