/-
  What the laws of bits want of mixed bytes.
-/
import Derived.Test.YtnondiaefpdlpaaN6c
namespace Go.Proofs.Ytnondiaefpdlpaa
open Go.RowKit Go.Shelf

theorem bf_mixF {a b mask : List Nat} {k : Nat} (hk : k < 8 * a.length) (hm : mask ≠ []) : bf (cf (mixF a b mask)) k = if bt (mAt mask (k / 8)) (k % 8) = 1 then bf (cf b) k else bf (cf a) k := by
  unfold bf
  rw [cf_mixF (by omega) hm, bt_mx]
theorem mixL_len {a b : List Nat} (hl : a.length = b.length) (mask : List Nat) : (mixL a b mask).length = a.length := by rw [mixL, if_pos hl, mixF_len]
theorem mixL_bs {a b : List Nat} (mask : List Nat) (ha : Bs a) (hb : Bs b) : Bs (mixL a b mask) := by
  unfold mixL
  split
  · exact mixF_bs ha hb
  · exact Bs.nil
theorem mix_none {a b : List Nat} (hl : a.length = b.length) : mixL a b [] = a := by rw [mixL, if_pos hl, mixF, if_pos rfl]
theorem mix_all {a b : List Nat} (hl : a.length = b.length) (ha : Bs a) (hb : Bs b) : mixL a b [255] = b := by
  refine bytes_ext (by rw [mixL_len hl]; exact hl) (mixL_bs _ ha hb) hb (fun k hk => ?_)
  rw [mixL_len hl] at hk
  rw [mixL, if_pos hl, bf_mixF hk (by simp)]
  have : ∀ j, j < 8 → bt 255 j = 1 := by decide
  rw [if_pos]
  show bt (cf [255] (k / 8 % 1)) (k % 8) = 1
  rw [Nat.mod_one]
  exact this _ (by omega)

theorem filter_sum {p q r : Nat → Bool} (h : ∀ k, (r k).toNat = (p k).toNat + (q k).toNat) (l : List Nat) : (l.filter p).length + (l.filter q).length = (l.filter r).length := by
  induction l with
  | nil => rfl
  | cons x l ih =>
    have hx := h x
    rw [List.filter_cons, List.filter_cons, List.filter_cons]
    cases hp : p x <;> cases hq : q x <;> cases hr : r x <;> simp [hp, hq, hr] at hx ⊢ <;> omega

theorem ap_eq {a b : List Nat} (hl : a.length = b.length) : apL a b = (List.range (8 * a.length)).filter (fun k => decide (bf (cf a) k ≠ bf (cf b) k)) := by
  rw [apL, if_pos hl, onF]
  refine List.filter_congr (fun k _ => ?_)
  rw [bfxor]
  have h1 := bfle (cf a) k
  have h2 := bfle (cf b) k
  generalize bf (cf a) k = x at *
  generalize bf (cf b) k = y at *
  have hx : x = 0 ∨ x = 1 := by omega
  have hy : y = 0 ∨ y = 1 := by omega
  rcases hx with rfl | rfl <;> rcases hy with rfl | rfl <;> rfl

theorem filter_sum' {p q r : Nat → Bool} (l : List Nat) (h : ∀ k ∈ l, (r k).toNat = (p k).toNat + (q k).toNat) : (l.filter p).length + (l.filter q).length = (l.filter r).length := by
  induction l with
  | nil => rfl
  | cons x l ih =>
    have hx := h x List.mem_cons_self
    have ih := ih (fun k hk => h k (List.mem_cons_of_mem _ hk))
    rw [List.filter_cons, List.filter_cons, List.filter_cons]
    cases hp : p x <;> cases hq : q x <;> cases hr : r x <;> simp [hp, hq, hr] at hx ⊢ <;> omega

/-- A mix differs from both nowhere where they are the same. -/
theorem mix_sum {a b : List Nat} (hl : a.length = b.length) (mask : List Nat) : (apL a (mixL a b mask)).length + (apL (mixL a b mask) b).length = (apL a b).length := by
  rw [ap_eq (by rw [mixL_len hl]), ap_eq (by rw [mixL_len hl]; exact hl), ap_eq hl, mixL_len hl]
  refine filter_sum' _ (fun k hk => ?_)
  rw [List.mem_range] at hk
  rw [mixL, if_pos hl]
  by_cases hm : mask = []
  · rw [mixF, if_pos hm]; simp
  · rw [bf_mixF hk hm]
    by_cases e : bt (mAt mask (k / 8)) (k % 8) = 1
    · rw [if_pos e]; simp
    · rw [if_neg e]; simp

theorem nil_arg (w : World) : Arg w (.slice none 0 0) 0 [] := ⟨⟨none, 0, rfl, by simp, by unfold maxLen; omega, fun _ => rfl, .inl rfl⟩, Bs.nil⟩

end Go.Proofs.Ytnondiaefpdlpaa
