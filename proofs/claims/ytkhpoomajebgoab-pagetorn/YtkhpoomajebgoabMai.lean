/-
  bytes.Clone.
  Bits of bytes by themselves: turned, mixed.
  bits.again, its iterator.
  bits.Mix.
  ramekinref6's bit, Ones and Apart.
-/
import Derived.Test.YtkhpoomajebgoabMag
import Derived.Test.YtkhpoomajebgoabMah
namespace Go.Proofs.Ytkhpoomajebgoab
open Go.RowKit Go.Shelf

theorem own_none (w : World) (e : TypeId) : (w.alloc (.cells #[] e)).ownsRow w.heap.size e 1 (.slice (some ⟨w.heap.size, 0, none⟩) 0 0) 0 [] := by
  exact ⟨rfl, .inr ⟨w.heap.size, 0, #[], rfl, Nat.le_refl _, World.alloc_heap_new w _, by simp, by simp, rfl, rfl⟩⟩
theorem below_grown {n : Nat} {a w w' : World} {row : Option Nat} (h : Below n a w) (hg : w.grownBy w' row) (hn : n ≤ w.heap.size) (hr : ∀ k, row = some k → n ≤ k) : Below n a w' :=
  ⟨hg.os.trans h.os, hg.tape.trans h.tape, hg.output.trans h.output, Nat.le_trans h.size hg.size, fun k hk => (hg.block k (by omega) (fun e => by have := hr k e.symm; omega)).trans (h.block k hk)⟩

theorem Fr.shape {n : Nat} {w : World} {v : Value} {s : List Nat} (h : Fr n w v s) : ∃ to c, v = .slice to s.length c := by
  rcases h with ⟨rfl, rfl⟩ | ⟨g, c, rfl, _⟩
  · exact ⟨none, 0, rfl⟩
  · exact ⟨_, _, rfl⟩

end Go.Proofs.Ytkhpoomajebgoab

namespace Go.Proofs.Ytkhpoomajebgoab
open Go.RowKit Go.Shelf

/-- Bit k of bytes turned. -/
def flip1 (w : List Nat) (k : Nat) : List Nat := w.set (k / 8) (cf w (k / 8) ^^^ 2 ^ (k % 8))
theorem pow_lt8 (k : Nat) : 2 ^ (k % 8) < 256 := Nat.lt_of_lt_of_le (Nat.pow_lt_pow_right (a := 2) (by omega) (show k % 8 < 8 by omega)) (by decide)
theorem flip1_len (w : List Nat) (k : Nat) : (flip1 w k).length = w.length := by simp [flip1]
theorem flip1_bs {w : List Nat} (h : Bs w) (k : Nat) : Bs (flip1 w k) := by
  unfold flip1
  intro i
  by_cases hk : k / 8 < w.length
  · rw [cf_set _ _ _ _ hk]
    by_cases e : i = k / 8
    · rw [if_pos e]; exact xor_lt (h _) (pow_lt8 k)
    · rw [if_neg e]; exact h i
  · rw [List.set_eq_of_length_le (by omega)]; exact h i

/-- A number's bit turned, if it is one's. -/
def flZ (s : List Nat) (z : Int) : List Nat := if 0 ≤ z ∧ z < 8 * (s.length : Int) then flip1 s z.toNat else s
def flipZ (s : List Nat) (zs : List Int) : List Nat := zs.foldl flZ s
theorem flZ_len (s : List Nat) (z : Int) : (flZ s z).length = s.length := by
  unfold flZ; split
  · exact flip1_len _ _
  · rfl
theorem flipZ_len (s : List Nat) (zs : List Int) : (flipZ s zs).length = s.length := by
  induction zs generalizing s with
  | nil => rfl
  | cons z zs ih => rw [flipZ, List.foldl_cons, ← flipZ, ih, flZ_len]
theorem flZ_bs {s : List Nat} (h : Bs s) (z : Int) : Bs (flZ s z) := by
  unfold flZ; split
  · exact flip1_bs h _
  · exact h
theorem flipZ_bs {s : List Nat} (h : Bs s) (zs : List Int) : Bs (flipZ s zs) := by
  induction zs generalizing s with
  | nil => exact h
  | cons z zs ih => exact ih (flZ_bs h z)
theorem flipZ_snoc (s : List Nat) (zs : List Int) (z : Int) : flipZ s (zs ++ [z]) = flZ (flipZ s zs) z := by rw [flipZ, List.foldl_append]; rfl
theorem flipZ_take {s : List Nat} {zs : List Int} {i : Nat} (h : i < zs.length) : flipZ s (zs.take (i + 1)) = flZ (flipZ s (zs.take i)) (zs.getD i 0) := by rw [take_snoc _ _ h, flipZ_snoc]
theorem flZ_yes {s : List Nat} {k : Nat} (h : k / 8 < s.length) : flZ s (k : Int) = s.set (k / 8) (cf s (k / 8) ^^^ 2 ^ (k % 8)) := by
  rw [flZ, if_pos ⟨by omega, by omega⟩, Int.toNat_natCast]; rfl
theorem flZ_far {s : List Nat} {k : Nat} (h : ¬ k / 8 < s.length) : flZ s (k : Int) = s := by rw [flZ, if_neg (by omega)]
theorem flZ_neg {s : List Nat} {z : Int} (h : z < 0) : flZ s z = s := by rw [flZ, if_neg (by omega)]

/-- A byte mixed out of two by a mask's byte. -/
def mx (m x y : Nat) : Nat := (x ^^^ (x &&& m)) ||| (y &&& m)
/-- Which byte of the mask counts. -/
def mAt (mask : List Nat) (i : Nat) : Nat := cf mask (i % mask.length)
/-- Mixed. -/
def mixF (a b mask : List Nat) : List Nat := if mask = [] then a else (List.range a.length).map (fun i => mx (mAt mask i) (cf a i) (cf b i))
def mixL (a b mask : List Nat) : List Nat := if a.length = b.length then mixF a b mask else []
theorem mixF_len (a b mask : List Nat) : (mixF a b mask).length = a.length := by
  unfold mixF; split <;> simp
theorem cf_mixF {a b mask : List Nat} {i : Nat} (h : i < a.length) (hm : mask ≠ []) : cf (mixF a b mask) i = mx (mAt mask i) (cf a i) (cf b i) := by
  rw [mixF, if_neg hm, ← cf_getD, List.getD_eq_getElem?_getD, List.getElem?_map, List.getElem?_range h]
  rfl
theorem mx_lt {m x y : Nat} (hx : x < 256) (hy : y < 256) : mx m x y < 256 := by
  unfold mx
  exact Nat.or_lt_two_pow (n := 8) (Nat.xor_lt_two_pow (n := 8) hx (Nat.lt_of_le_of_lt Nat.and_le_left hx)) (Nat.lt_of_le_of_lt Nat.and_le_left hy)
theorem bt_mx (m x y k : Nat) : bt (mx m x y) k = if bt m k = 1 then bt y k else bt x k := by
  unfold mx
  rw [bt_test, bt_test, bt_test, bt_test, Nat.testBit_or, Nat.testBit_xor, Nat.testBit_and, Nat.testBit_and]
  cases m.testBit k <;> cases x.testBit k <;> cases y.testBit k <;> rfl
theorem andNot_u8 {x : Nat} (m : Nat) (hx : x < 256) : bits .andNot .u8 (x : Int) (m : Int) = ((x ^^^ (x &&& m) : Nat) : Int) := by
  have hz : x ^^^ (x &&& m) < 256 := Nat.xor_lt_two_pow (n := 8) hx (Nat.lt_of_le_of_lt Nat.and_le_left hx)
  have h : (BitVec.ofNat 8 x &&& ~~~ BitVec.ofNat 8 m) = BitVec.ofNat 8 (x ^^^ (x &&& m)) := by
    apply BitVec.eq_of_getLsbD_eq
    intro i hi
    simp only [BitVec.getLsbD_and, BitVec.getLsbD_not, BitVec.getLsbD_ofNat, Nat.testBit_xor, Nat.testBit_and, hi, decide_true, Bool.true_and]
    cases x.testBit i <;> cases m.testBit i <;> rfl
  show IntKind.u8.wrap (((BitVec.ofInt 8 (x : Int) &&& ~~~ BitVec.ofInt 8 (m : Int)).toNat : Nat) : Int) = _
  rw [BitVec.ofInt_natCast, BitVec.ofInt_natCast, h, BitVec.toNat_ofNat, Nat.mod_eq_of_lt hz]
  exact wraps_u8 _ (by omega) (by omega)
theorem mx_u8 {m x y : Nat} (hx : x < 256) (hy : y < 256) (hm : m < 256) :
    bits .andNot .u8 (x : Int) (m : Int) = ((x ^^^ (x &&& m) : Nat) : Int) ∧ bits .and .u8 (y : Int) (m : Int) = ((y &&& m : Nat) : Int) ∧ bits .or .u8 ((x ^^^ (x &&& m) : Nat) : Int) ((y &&& m : Nat) : Int) = ((mx m x y : Nat) : Int) :=
  ⟨andNot_u8 m hx, (bits_nat .u8 8 (by decide) wraps_u8 y m hy hm).1, (bits_nat .u8 8 (by decide) wraps_u8 _ _ (Nat.xor_lt_two_pow (n := 8) hx (Nat.lt_of_le_of_lt Nat.and_le_left hx)) (Nat.lt_of_le_of_lt Nat.and_le_left hy)).2⟩
theorem mixF_bs {a b mask : List Nat} (ha : Bs a) (hb : Bs b) : Bs (mixF a b mask) := by
  by_cases hm : mask = []
  · rw [mixF, if_pos hm]; exact ha
  · intro i
    by_cases hi : i < a.length
    · rw [cf_mixF hi hm]; exact mx_lt (ha i) (hb i)
    · rw [cf_ge (by rw [mixF_len]; omega)]; omega
end Go.Proofs.Ytkhpoomajebgoab

namespace Go.Proofs.Ytkhpoomajebgoab
open Go.RowKit Go.Shelf
attribute [local go_sem] Oper.semAt_some

theorem two_boxes (w : World) (a b : Value) (s t : TypeId) : ∀ W, W = (w.alloc (.cells #[a] s)).alloc (.cells #[b] t) →
    W.cell? ⟨w.heap.size, 0, none⟩ = some a ∧ W.cell? ⟨w.heap.size + 1, 0, none⟩ = some b ∧ Below w.heap.size w W ∧ W.heap.size = w.heap.size + 2 := by
  rintro W rfl
  refine ⟨?_, ?_, ((Below.refl _ w).alloc (Nat.le_refl _) _).alloc (by simp) _, by simp⟩
  · exact (World.cell?_of_block (Below.heap_alloc _ _ _ (by simp))).trans (cell_new' w _ _).1
  · have h := (cell_new' (w.alloc (.cells #[a] s)) b t).1
    rw [World.size_alloc] at h
    exact h

end Go.Proofs.Ytkhpoomajebgoab

namespace Go.Proofs.Ytkhpoomajebgoab
open Go.RowKit Go.Shelf
attribute [local go_sem] Oper.semAt_some

theorem Row.below' {w w' : World} {ao : Option Addr} {g : Nat} {s : List Nat} (hr : Row w ao g (ints s)) (h : Below w.heap.size w w') : Row w' ao g (ints s) := Row.below h hr

/-- Some bytes mixed. -/
def mixP (a b mask l : List Nat) : List Nat := l.foldl (fun t i => t.set i (mx (mAt mask i) (cf a i) (cf b i))) a
theorem mixP_snoc (a b mask l : List Nat) (i : Nat) : mixP a b mask (l ++ [i]) = (mixP a b mask l).set i (mx (mAt mask i) (cf a i) (cf b i)) := by rw [mixP, List.foldl_append]; rfl
theorem mixP_len (a b mask l : List Nat) : (mixP a b mask l).length = a.length := by
  have : ∀ (l t : List Nat), (l.foldl (fun t i => t.set i (mx (mAt mask i) (cf a i) (cf b i))) t).length = t.length := by
    intro l
    induction l with
    | nil => intro t; rfl
    | cons x l ih => intro t; rw [List.foldl_cons, ih, List.length_set]
  exact this l a
theorem cf_mixP (a b mask : List Nat) (n j : Nat) (hn : n ≤ a.length) : cf (mixP a b mask (List.range n)) j = if j < n then mx (mAt mask j) (cf a j) (cf b j) else cf a j := by
  induction n with
  | zero => rfl
  | succ n ih =>
    rw [List.range_succ, mixP_snoc, cf_set _ _ _ _ (by rw [mixP_len]; omega), ih (by omega)]
    by_cases e : j = n
    · rw [if_pos e, if_pos (by omega), e]
    · rw [if_neg e]
      by_cases e2 : j < n
      · rw [if_pos e2, if_pos (by omega)]
      · rw [if_neg e2, if_neg (by omega)]
theorem mixP_all {a b mask : List Nat} (hm : mask ≠ []) : mixP a b mask (List.range a.length) = mixF a b mask := by
  refine eq_of_cf (by rw [mixP_len, mixF_len]) (fun j => ?_)
  rw [cf_mixP _ _ _ _ _ (Nat.le_refl _)]
  by_cases e : j < a.length
  · rw [if_pos e, cf_mixF e hm]
  · rw [if_neg e, cf_ge (by omega), cf_ge (by rw [mixF_len]; omega)]
theorem mixP_none (a b mask : List Nat) : mixP a b mask [] = a := rfl

end Go.Proofs.Ytkhpoomajebgoab

namespace Go.Proofs.Ytkhpoomajebgoab
open Go.RowKit Go.Shelf

theorem bit_i64 {x : Nat} (m : Nat) (hx : x < 256) : bits .and .i64 ((x : Int) / 2 ^ m) 1 = ((bt x m : Nat) : Int) := by
  rw [show (x : Int) / 2 ^ m = ((x / 2 ^ m : Nat) : Int) from by simp, and_i64 (Nat.lt_of_le_of_lt (Nat.div_le_self _ _) (by omega))]
  rfl

theorem div_wrap {x : Nat} (m : Nat) (hx : x < 256) : wrap64 ((x : Int) / 2 ^ m) = (x : Int) / 2 ^ m := by
  have h : (x : Int) / 2 ^ m = ((x / 2 ^ m : Nat) : Int) := by simp
  have h2 := Nat.div_le_self x (2 ^ m)
  rw [h]
  generalize x / 2 ^ m = y at h2
  exact IntWalk.wrap64_in _ ⟨by omega, by omega⟩

set_option maxRecDepth 100000 in
set_option maxHeartbeats 2000000 in
theorem bit6_any (v : Value) (g : Nat) (s : List Nat) (k : Nat) (w : World) (hA : Arg w v g s) (hs : s.length ≤ 1000) (hk : k < 8 * s.length) :
    Calls Try.prog 26 #[v, .int .i64 (k : Int)] w fun e w' => e = .returned (.int .i64 ((bf (cf s) k : Nat) : Int)) ∧ w' = w := by
  obtain ⟨⟨ao, c, rfl, hc1, hc2, hnil, hr⟩, hbs⟩ := hA
  obtain ⟨o, rfl⟩ := row_some hr (by omega)
  have hc := row_cell hr (j := k / 8) (by omega)
  have hk1 : (k : Int) / 8 < (s.length : Int) := by omega
  have hk8 : k / 8 < s.length := by omega
  have q1 := bit_i64 (k % 8) (hbs (k / 8))
  have q0 := div_wrap (k % 8) (hbs (k / 8))
  have HW : Hid (bf (cf s) k = bt (cf s (k / 8)) (k % 8)) := rfl
  clear hr hnil
  go_enter Try.func26, Try.ntmps26
  go_wp2
  go_ret
  rw [unhide HW]
  exact ⟨rfl, rfl⟩

/-- The places up to k where they differ. -/
def aps (a b : List Nat) (k : Nat) : List Nat := (List.range k).filter (fun i => bf (cf a) i != bf (cf b) i)
theorem aps_succ (a b : List Nat) (k : Nat) : aps a b (k + 1) = aps a b k ++ (if bf (cf a) k = bf (cf b) k then [] else [k]) := by
  unfold aps
  rw [List.range_succ, List.filter_append]
  congr 1
  by_cases h : bf (cf a) k = bf (cf b) k <;> simp [h]
theorem aps_le (a b : List Nat) (k : Nat) : (aps a b k).length ≤ k := by
  have := List.length_filter_le (fun i => bf (cf a) i != bf (cf b) i) (List.range k)
  rw [List.length_range] at this
  exact this
theorem bf_le (f : Nat → Nat) (k : Nat) : bf f k ≤ 1 := bt_le _ _
theorem bf_xor (f g : Nat → Nat) (k : Nat) : bf (fun i => f i ^^^ g i) k = bf f k ^^^ bf g k := bt_xor _ _ _
theorem bf_apart (f g : Nat → Nat) (k : Nat) : (bf (fun i => f i ^^^ g i) k == 1) = (bf f k != bf g k) := by
  rw [bf_xor]
  have h1 := bf_le f k
  have h2 := bf_le g k
  generalize bf f k = x at *
  generalize bf g k = y at *
  have hx : x = 0 ∨ x = 1 := by omega
  have hy : y = 0 ∨ y = 1 := by omega
  rcases hx with rfl | rfl <;> rcases hy with rfl | rfl <;> rfl
theorem aps_all {a b : List Nat} (h : a.length = b.length) : aps a b (8 * a.length) = apL a b := by
  rw [apL, if_pos h, onF, aps]
  exact List.filter_congr (fun k _ => (bf_apart _ _ _).symm)

/-- How many of the first k bits are ones. -/
def cnt (s : List Nat) (k : Nat) : Nat := ((List.range k).filter (fun i => bf (cf s) i == 1)).length
theorem cnt_succ (s : List Nat) (k : Nat) : cnt s (k + 1) = cnt s k + bf (cf s) k := by
  unfold cnt
  rw [List.range_succ, List.filter_append, List.length_append]
  have h := bf_le (cf s) k
  have hx : bf (cf s) k = 0 ∨ bf (cf s) k = 1 := by omega
  rcases hx with h | h <;> simp [h]
theorem cnt_le (s : List Nat) (k : Nat) : cnt s k ≤ k := by
  have := List.length_filter_le (fun i => bf (cf s) i == 1) (List.range k)
  rw [List.length_range] at this
  exact this
theorem cnt_all (s : List Nat) : cnt s (8 * s.length) = (onF (cf s) s.length).length := rfl

set_option maxRecDepth 100000 in
set_option maxHeartbeats 4000000 in
theorem rones_any (v : Value) (g : Nat) (s : List Nat) (w : World) (hA : Arg w v g s) (hs : s.length ≤ 1000) :
    Calls Try.prog 16 #[v] w fun e w' => e = .returned (.int .i64 ((onF (cf s) s.length).length : Nat)) ∧ w' = w := by
  have HA := hide hA
  obtain ⟨⟨ao, c, rfl, _⟩, _⟩ := hA
  rw [← cnt_all]
  obtain ⟨N, hN⟩ : ∃ N, s.length = N := ⟨_, rfl⟩
  have HL := hide hN
  rw [hN] at HA hs ⊢
  clear hN
  go_enter Try.func16, Try.ntmps16
  go_wp2_with fail
  go_loop [3, 4] (fun n p => ∃ k : Nat, n = .int .i64 (cnt s k : Nat) ∧ p = .int .i64 k ∧ k ≤ 8 * N) (fun _ p => 8 * N - (intOf p).toNat)
  case atStart => exact ⟨0, rfl, rfl, by omega⟩
  case round =>
    obtain ⟨k, rfl, rfl, hk⟩ := hrel
    have hle := cnt_le s k
    by_cases hlt : k < 8 * N
    · have hk1 : (k : Int) < (N : Int) * 8 := by omega
      have HN := hide (cnt_succ s k)
      have hbl := bf_le (cf s) k
      go_wp2_with fail
      refine (bit6_any _ g s k w (unhide HA) (by rw [unhide HL]; exact hs) (by rw [unhide HL]; exact hlt)).mono ?_
      rintro e w1 ⟨rfl, hw1⟩
      subst hw1
      go_wp2_with fail
      go_round
      case rel => exact ⟨k + 1, by rw [unhide HN]; go_num, by go_num, by omega⟩
      case measure => simp [intOf]; omega
    · have hk2 : k = 8 * N := by omega
      subst hk2
      go_wp2
      go_ret
      exact ⟨rfl, rfl⟩

end Go.Proofs.Ytkhpoomajebgoab
