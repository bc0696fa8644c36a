/-
  What the laws of bits want of bytes by themselves.
-/
import Derived.Test.YtnondiaefpdlpaaN6b
import Derived.Test.YtnondiaefpdlpaaB6d
namespace Go.Proofs.Ytnondiaefpdlpaa
open Go.RowKit Go.Shelf

theorem bt_pow (j k : Nat) : bt (2 ^ j) k = if k = j then 1 else 0 := by
  rw [bt_test, Nat.testBit_two_pow]
  by_cases h : j = k
  · simp [h]
  · rw [if_neg (fun e => h e.symm)]; simp [h]
theorem bfle (f : Nat → Nat) (k : Nat) : bf f k ≤ 1 := bt_le _ _

theorem bf_flip1 {s : List Nat} {j : Nat} (hj : j < 8 * s.length) (k : Nat) : bf (cf (flip1 s j)) k = bf (cf s) k ^^^ (if j = k then 1 else 0) := by
  unfold bf
  rw [flip1, cf_set _ _ _ _ (by omega)]
  by_cases h : k / 8 = j / 8
  · rw [if_pos h, bt_xor, bt_pow, h]
    congr 1
    by_cases h2 : k % 8 = j % 8
    · rw [if_pos h2, if_pos (by omega)]
    · rw [if_neg h2, if_neg (by omega)]
  · rw [if_neg h, if_neg (by omega), Nat.xor_zero]
theorem bf_flZ {s : List Nat} (z : Int) {k : Nat} (hk : k < 8 * s.length) : bf (cf (flZ s z)) k = bf (cf s) k ^^^ (if z = (k : Int) then 1 else 0) := by
  unfold flZ
  by_cases h : 0 ≤ z ∧ z < 8 * (s.length : Int)
  · rw [if_pos h, bf_flip1 (by omega)]
    congr 1
    by_cases e : z = (k : Int)
    · rw [if_pos e, if_pos (by omega)]
    · rw [if_neg e, if_neg (by omega)]
  · rw [if_neg h, if_neg (by omega), Nat.xor_zero]

theorem xor_bits {x c e : Nat} (hx : x ≤ 1) (he : e ≤ 1) : x ^^^ ((c + e) % 2) = (x ^^^ e) ^^^ (c % 2) := by
  have h1 : x = 0 ∨ x = 1 := by omega
  have h2 : e = 0 ∨ e = 1 := by omega
  have h3 : c % 2 = 0 ∨ c % 2 = 1 := by omega
  rcases h1 with rfl | rfl <;> rcases h2 with rfl | rfl <;> rcases h3 with h3 | h3 <;> rw [h3] <;> simp [Nat.add_mod, h3]

/-- Each bit is turned as often as its number stands there. -/
theorem bf_flipZ (zs : List Int) : ∀ (s : List Nat) {k : Nat}, k < 8 * s.length → bf (cf (flipZ s zs)) k = bf (cf s) k ^^^ (zs.count (k : Int) % 2) := by
  induction zs with
  | nil => intro s k hk; simp [flipZ]
  | cons z zs ih =>
    intro s k hk
    rw [flipZ, List.foldl_cons, ← flipZ, ih (flZ s z) (by rw [flZ_len]; exact hk), bf_flZ z hk, List.count_cons]
    by_cases e : z = (k : Int)
    · rw [if_pos e, show ((z == (k : Int)) = true) from by rw [e]; simp, if_pos rfl, xor_bits (bfle _ _) (Nat.le_refl 1)]
    · rw [if_neg e, show ((z == (k : Int)) = false) from by rw [beq_eq_false_iff_ne]; exact e, if_neg (by simp), Nat.xor_zero, Nat.add_zero]

theorem bytes_ext {a b : List Nat} (hl : a.length = b.length) (ha : Bs a) (hb : Bs b) (h : ∀ k, k < 8 * a.length → bf (cf a) k = bf (cf b) k) : a = b := by
  refine eq_of_cf hl (fun i => ?_)
  by_cases hi : i < a.length
  · refine bt_ext (ha i) (hb i) (fun k hk => ?_)
    have := h (8 * i + k) (by omega)
    unfold bf at this
    rwa [show (8 * i + k) / 8 = i from by omega, show (8 * i + k) % 8 = k from by omega] at this
  · rw [cf_ge (by omega), cf_ge (by omega)]

theorem bfxor (f g : Nat → Nat) (k : Nat) : bf (fun i => f i ^^^ g i) k = bf f k ^^^ bf g k := bt_xor _ _ _
theorem ap_mem {a b : List Nat} (hl : a.length = b.length) (k : Nat) : k ∈ apL a b ↔ k < 8 * a.length ∧ bf (cf a) k ≠ bf (cf b) k := by
  rw [apL, if_pos hl, onF, List.mem_filter, List.mem_range, bfxor]
  have h1 := bfle (cf a) k
  have h2 := bfle (cf b) k
  generalize bf (cf a) k = x at *
  generalize bf (cf b) k = y at *
  have hx : x = 0 ∨ x = 1 := by omega
  have hy : y = 0 ∨ y = 1 := by omega
  rcases hx with rfl | rfl <;> rcases hy with rfl | rfl <;> simp
theorem ap_nodup (a b : List Nat) : (apL a b).Nodup := by
  unfold apL
  split
  · exact List.Pairwise.filter _ List.nodup_range
  · exact List.nodup_nil
theorem ap_lt {a b : List Nat} {k : Nat} (h : k ∈ apL a b) : k < 8 * a.length := by
  unfold apL at h
  split at h
  · exact List.mem_range.1 (List.mem_filter.1 h).1
  · simp at h
theorem ap_len (a b : List Nat) : (apL a b).length ≤ 8 * a.length := by
  unfold apL
  split
  · refine Nat.le_trans (List.length_filter_le _ _) ?_
    rw [List.length_range]
    exact Nat.le_refl _
  · simp
theorem count_ints {l : List Nat} (h : l.Nodup) (k : Nat) : (ints l).count (k : Int) = if k ∈ l then 1 else 0 := by
  have hn : (ints l).Nodup := ints_nodup h
  have hm : (k : Int) ∈ ints l ↔ k ∈ l := by
    unfold ints
    rw [List.mem_map]
    constructor
    · rintro ⟨j, hj, e⟩
      have : j = k := by omega
      exact this ▸ hj
    · exact fun h => ⟨k, h, rfl⟩
  by_cases e : k ∈ l
  · rw [if_pos e, hn.count, if_pos (hm.2 e)]
  · rw [if_neg e, List.count_eq_zero]
    exact fun h => e (hm.1 h)

theorem xor_self2 {x y : Nat} (hx : x ≤ 1) (hy : y ≤ 1) : x ^^^ ((if x ≠ y then 1 else 0) % 2) = y := by
  have h1 : x = 0 ∨ x = 1 := by omega
  have h2 : y = 0 ∨ y = 1 := by omega
  rcases h1 with rfl | rfl <;> rcases h2 with rfl | rfl <;> rfl

/-- What is turned where two differ is the other one. -/
theorem flip_apart {a b : List Nat} (hl : a.length = b.length) (ha : Bs a) (hb : Bs b) : flipZ a (ints (apL a b)) = b := by
  refine bytes_ext (by rw [flipZ_len]; exact hl) (flipZ_bs ha _) hb (fun k hk => ?_)
  rw [flipZ_len] at hk
  rw [bf_flipZ _ _ hk, count_ints (ap_nodup _ _)]
  have : (if k ∈ apL a b then 1 else 0) = (if bf (cf a) k ≠ bf (cf b) k then 1 else 0) := by
    by_cases e : k ∈ apL a b
    · rw [if_pos e, if_pos ((ap_mem hl k).1 e).2]
    · rw [if_neg e, if_neg (fun h => e ((ap_mem hl k).2 ⟨hk, h⟩))]
  rw [this]
  exact xor_self2 (bfle _ _) (bfle _ _)
theorem flip_back {a b : List Nat} (hl : a.length = b.length) (ha : Bs a) (hb : Bs b) : flipZ b (ints (apL a b)) = a := by
  refine bytes_ext (by rw [flipZ_len]; exact hl.symm) (flipZ_bs hb _) ha (fun k hk => ?_)
  rw [flipZ_len] at hk
  rw [bf_flipZ _ _ hk, count_ints (ap_nodup _ _)]
  have : (if k ∈ apL a b then 1 else 0) = (if bf (cf b) k ≠ bf (cf a) k then 1 else 0) := by
    by_cases e : k ∈ apL a b
    · rw [if_pos e, if_pos (Ne.symm ((ap_mem hl k).1 e).2)]
    · rw [if_neg e, if_neg (fun h => e ((ap_mem hl k).2 ⟨by omega, Ne.symm h⟩))]
  rw [this]
  exact xor_self2 (bfle _ _) (bfle _ _)
theorem ap_self (a : List Nat) : apL a a = [] := by
  refine List.eq_nil_iff_forall_not_mem.2 (fun k h => ?_)
  exact ((ap_mem rfl k).1 h).2 rfl

end Go.Proofs.Ytnondiaefpdlpaa
