/-
  Places in another order, twice, or none at all.
-/
import Derived.Test.YtoljplfijopcmaaN6c
import Derived.Test.YtoljplfijopcmaaI7
namespace Go.Proofs.Ytoljplfijopcmaa
open Go.RowKit Go.Shelf

theorem flip_perm {s : List Nat} {l m : List Int} (hs : Bs s) (h : ∀ k : Int, l.count k = m.count k) : flipZ s l = flipZ s m := by
  refine bytes_ext (by rw [flipZ_len, flipZ_len]) (flipZ_bs hs _) (flipZ_bs hs _) (fun k hk => ?_)
  rw [flipZ_len] at hk
  rw [bf_flipZ _ _ hk, bf_flipZ _ _ hk, h]
theorem flip_two {s : List Nat} (hs : Bs s) (l : List Int) : flipZ s (l ++ l) = s := by
  refine bytes_ext (by rw [flipZ_len]) (flipZ_bs hs _) hs (fun k hk => ?_)
  rw [flipZ_len] at hk
  rw [bf_flipZ _ _ hk, List.count_append, show (l.count (k : Int) + l.count (k : Int)) % 2 = 0 from by omega, Nat.xor_zero]
theorem flip_nowhere {s : List Nat} {l : List Int} (h : ∀ z ∈ l, ¬ (0 ≤ z ∧ z < 8 * (s.length : Int))) : flipZ s l = s := by
  induction l with
  | nil => rfl
  | cons z l ih =>
    rw [flipZ, List.foldl_cons, ← flipZ, show flZ s z = s from by rw [flZ, if_neg (h z List.mem_cons_self)]]
    exact ih (fun y hy => h y (List.mem_cons_of_mem _ hy))

/-- So many from the place r on, round and round. -/
def rotL (l : List Int) (r i : Nat) : List Int := (List.range i).map (fun j => l.getD ((j + r) % l.length) 0)
theorem rotL_zero (l : List Int) (r : Nat) : rotL l r 0 = [] := rfl
theorem rotL_succ (l : List Int) (r i : Nat) : rotL l r (i + 1) = rotL l r i ++ [l.getD ((i + r) % l.length) 0] := by
  unfold rotL
  rw [List.range_succ, List.map_append]
  rfl
theorem rotL_len (l : List Int) (r i : Nat) : (rotL l r i).length = i := by simp [rotL]
theorem rotL_all {l : List Int} {r : Nat} (hr : r < l.length) : rotL l r l.length = l.drop r ++ l.take r := by
  apply List.ext_getElem?
  intro j
  unfold rotL
  rw [List.getElem?_map]
  by_cases hj : j < l.length
  · rw [List.getElem?_range hj, Option.map_some]
    by_cases h1 : j < l.length - r
    · rw [List.getElem?_append_left (by rw [List.length_drop]; exact h1), List.getElem?_drop, Nat.mod_eq_of_lt (by omega), List.getD_eq_getElem?_getD, List.getElem?_eq_getElem (show j + r < l.length by omega), List.getElem?_eq_getElem (show r + j < l.length by omega)]
      simp only [Option.getD_some, Nat.add_comm]
    · rw [List.getElem?_append_right (by rw [List.length_drop]; omega), List.length_drop, List.getElem?_take, if_pos (by omega), Nat.mod_eq_sub_mod (by omega), Nat.mod_eq_of_lt (by omega), List.getD_eq_getElem?_getD, List.getElem?_eq_getElem (show j + r - l.length < l.length by omega), List.getElem?_eq_getElem (show j - (l.length - r) < l.length by omega)]
      simp only [Option.getD_some]
      congr 2
      omega
  · rw [List.getElem?_eq_none (by rw [List.length_range]; omega), List.getElem?_eq_none (by rw [List.length_append, List.length_drop, List.length_take]; omega)]
    rfl
theorem rotL_count {l : List Int} {r : Nat} (hr : r < l.length) (k : Int) : (rotL l r l.length).count k = l.count k := by
  rw [rotL_all hr, List.count_append, Nat.add_comm, ← List.count_append, List.take_append_drop]
theorem rotL_mem {l : List Int} {r i : Nat} (hl : 0 < l.length) {z : Int} (h : z ∈ rotL l r i) : z ∈ l := by
  unfold rotL at h
  obtain ⟨j, _, rfl⟩ := List.mem_map.1 h
  exact getD_mem (Nat.mod_lt _ hl)

theorem five_z (w : World) (a b c d e : Int) (h : ∀ z ∈ [a, b, c, d, e], -9223372036854775808 ≤ z ∧ z ≤ 9223372036854775807) :
    ZArg (w.alloc (.cells #[.int .i64 a, .int .i64 b, .int .i64 c, .int .i64 d, .int .i64 e] 3)) (.slice (some ⟨w.heap.size, 0, none⟩) 5 5) w.heap.size [a, b, c, d, e] := by
  have hb := World.alloc_heap_new w (.cells #[.int .i64 a, .int .i64 b, .int .i64 c, .int .i64 d, .int .i64 e] 3)
  refine ⟨⟨_, 5, rfl, by simp, by unfold maxLen; omega, (fun h => by cases h), .inr ⟨0, rfl, fun j hj => ?_⟩⟩, h⟩
  have hj5 : j < 5 := by simpa using hj
  match j, hj5 with
  | 0, _ => unfold World.cell?; rw [hb]; rfl
  | 1, _ => unfold World.cell?; rw [hb]; rfl
  | 2, _ => unfold World.cell?; rw [hb]; rfl
  | 3, _ => unfold World.cell?; rw [hb]; rfl
  | 4, _ => unfold World.cell?; rw [hb]; rfl

end Go.Proofs.Ytoljplfijopcmaa
