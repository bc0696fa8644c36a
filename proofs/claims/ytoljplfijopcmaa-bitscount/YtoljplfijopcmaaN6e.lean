/-
  What the laws of bits want of ones that are counted.
-/
import Derived.Test.YtoljplfijopcmaaN6d
namespace Go.Proofs.Ytoljplfijopcmaa
open Go.RowKit Go.Shelf

/-- How many bits are ones. -/
def oc (s : List Nat) : Nat := (onF (cf s) s.length).length
theorem oc_le (s : List Nat) : oc s ≤ 8 * s.length := by
  unfold oc onF
  refine Nat.le_trans (List.length_filter_le _ _) ?_
  rw [List.length_range]
  exact Nat.le_refl _

theorem filter_turn {p q : Nat → Bool} {j : Nat} (hj : q j = !p j) (h : ∀ k, k ≠ j → q k = p k) : ∀ (n : Nat), (((List.range n).filter q).length : Int) = (((List.range n).filter p).length : Int) + (if j < n then (if p j = true then -1 else 1) else 0)
  | 0 => by simp
  | n + 1 => by
    have ih := filter_turn hj h n
    rw [show List.range (n + 1) = List.range n ++ [n] from List.range_succ, List.filter_append, List.filter_append, List.length_append, List.length_append]
    by_cases e : n = j
    · subst e
      rw [if_neg (by omega)] at ih
      rw [if_pos (by omega)]
      cases hp : p n <;> simp [hp, hj] <;> omega
    · have hq := h n e
      by_cases e2 : j < n
      · rw [if_pos e2] at ih
        rw [if_pos (by omega)]
        cases hp : p n <;> simp [hp, hq] <;> omega
      · rw [if_neg e2] at ih
        rw [if_neg (by omega)]
        cases hp : p n <;> simp [hp, hq] <;> omega

theorem oc_flip1 {s : List Nat} {j : Nat} (hj : j < 8 * s.length) : (oc (flip1 s j) : Int) = (oc s : Int) + (if bf (cf s) j = 1 then -1 else 1) := by
  unfold oc onF
  rw [flip1_len]
  have h := filter_turn (p := fun k => bf (cf s) k == 1) (q := fun k => bf (cf (flip1 s j)) k == 1) (j := j) (by
    show (bf (cf (flip1 s j)) j == 1) = !(bf (cf s) j == 1)
    rw [bf_flip1 hj, if_pos rfl]
    have h1 := bfle (cf s) j
    have hx : bf (cf s) j = 0 ∨ bf (cf s) j = 1 := by omega
    rcases hx with h | h <;> rw [h] <;> rfl) (fun k hk => by
    show (bf (cf (flip1 s j)) k == 1) = (bf (cf s) k == 1)
    rw [bf_flip1 hj, if_neg (Ne.symm hk), Nat.xor_zero]) (8 * s.length)
  rw [h, if_pos hj]
  congr 1
  by_cases e : bf (cf s) j = 1
  · rw [if_pos e, if_pos (by show (bf (cf s) j == 1) = true; rw [e]; rfl)]
  · rw [if_neg e, if_neg (by show ¬ (bf (cf s) j == 1) = true; simpa using e)]

/-- With one more place turned. -/
theorem oc_step {s l : List Nat} {i : Nat} (hn : l.Nodup) (hl : ∀ k ∈ l, k < 8 * s.length) (hi : i < l.length) :
    (oc (flipZ s (ints (l.take (i + 1)))) : Int) = (oc (flipZ s (ints (l.take i))) : Int) + (if bf (cf s) (cf l i) = 1 then -1 else 1) := by
  have ht : l.take (i + 1) = l.take i ++ [cf l i] := by
    rw [List.take_succ_eq_append_getElem hi]
    have := cf_get hi
    rw [List.getElem?_eq_getElem hi] at this
    simp at this
    rw [this]
  have hk := hl _ (cf_memb hi)
  have hlen : (flipZ s (ints (l.take i))).length = s.length := flipZ_len _ _
  rw [ht, show ints (l.take i ++ [cf l i]) = ints (l.take i) ++ [((cf l i : Nat) : Int)] from by simp [ints], flipZ_snoc, flZ, if_pos ⟨by omega, by rw [hlen]; omega⟩, Int.toNat_natCast, oc_flip1 (by rw [hlen]; exact hk)]
  congr 1
  have hnot : cf l i ∉ l.take i := by
    have h2 : (l.take (i + 1)).Nodup := hn.sublist (List.take_sublist _ _)
    rw [ht, List.nodup_append] at h2
    exact fun h => h2.2.2 _ h _ (List.mem_singleton.2 rfl) rfl
  rw [bf_flipZ _ _ hk, count_ints (hn.sublist (List.take_sublist _ _)), if_neg hnot]
  simp

/-- Two lists without doubles that hold the same are as long. -/
theorem same_len {a b : List Nat} (ha : a.Nodup) (hb : b.Nodup) (h : ∀ x, x ∈ a ↔ x ∈ b) : a.length = b.length :=
  (List.perm_ext_iff_of_nodup ha hb |>.2 h).length_eq

theorem ap_flip {s l : List Nat} (hn : l.Nodup) (hl : ∀ k ∈ l, k < 8 * s.length) : (apL s (flipZ s (ints l))).length = l.length := by
  refine same_len (ap_nodup _ _) hn (fun k => ?_)
  rw [ap_mem (by rw [flipZ_len])]
  constructor
  · rintro ⟨h1, h2⟩
    rw [bf_flipZ _ _ h1, count_ints hn] at h2
    by_cases e : k ∈ l
    · exact e
    · rw [if_neg e] at h2
      exact absurd (by simp) h2
  · intro h
    refine ⟨hl k h, ?_⟩
    rw [bf_flipZ _ _ (hl k h), count_ints hn, if_pos h]
    have h1 := bfle (cf s) k
    have hx : bf (cf s) k = 0 ∨ bf (cf s) k = 1 := by omega
    rcases hx with h | h <;> rw [h] <;> decide

theorem ap_zeros (s : List Nat) : (apL (List.replicate s.length 0) s).length = oc s := by
  unfold oc apL
  rw [if_pos (by simp), List.length_replicate]
  congr 1
  unfold onF
  refine List.filter_congr (fun k _ => ?_)
  rw [bfxor]
  have : bf (cf (List.replicate s.length 0)) k = 0 := by
    unfold bf
    rw [cf_zeros]
    simp [bt]
  rw [this, Nat.zero_xor]

end Go.Proofs.Ytoljplfijopcmaa
