/-
  Mixed twice.
-/
import Derived.Test.YtoljplfijopcmabN6d
namespace Go.Proofs.Ytoljplfijopcmab
open Go.RowKit Go.Shelf

theorem bf_one {a b : List Nat} (hl : a.length = b.length) (m : Nat) {k : Nat} (hk : k < 8 * a.length) : bf (cf (mixL a b [m])) k = if bt m (k % 8) = 1 then bf (cf b) k else bf (cf a) k := by
  rw [mixL, if_pos hl, bf_mixF hk (by simp)]
  have : mAt [m] (k / 8) = m := by
    show cf [m] (k / 8 % 1) = m
    rw [Nat.mod_one]
    rfl
  rw [this]
theorem bt_or (m n k : Nat) : (bt (m ||| n) k = 1) ↔ (bt m k = 1 ∨ bt n k = 1) := by
  rw [bt_test, bt_test, bt_test, Nat.testBit_or]
  cases m.testBit k <;> cases n.testBit k <;> simp
theorem mix_same {a b : List Nat} (hl : a.length = b.length) (m : Nat) (ha : Bs a) (hb : Bs b) : mixL (mixL a b [m]) b [m] = mixL a b [m] := by
  have hl2 : (mixL a b [m]).length = b.length := by rw [mixL_len hl]; exact hl
  refine bytes_ext (by rw [mixL_len hl2]) (mixL_bs _ (mixL_bs _ ha hb) hb) (mixL_bs _ ha hb) (fun k hk => ?_)
  rw [mixL_len hl2, mixL_len hl] at hk
  rw [bf_one hl2 m (by rw [mixL_len hl]; exact hk), bf_one hl m hk]
  by_cases e : bt m (k % 8) = 1
  · rw [if_pos e, if_pos e]
  · rw [if_neg e, if_neg e]
theorem mix_both {a b : List Nat} (hl : a.length = b.length) (m n : Nat) (ha : Bs a) (hb : Bs b) : mixL (mixL a b [m]) b [n] = mixL a b [m ||| n] := by
  have hl2 : (mixL a b [m]).length = b.length := by rw [mixL_len hl]; exact hl
  refine bytes_ext (by rw [mixL_len hl2, mixL_len hl, mixL_len hl]) (mixL_bs _ (mixL_bs _ ha hb) hb) (mixL_bs _ ha hb) (fun k hk => ?_)
  rw [mixL_len hl2, mixL_len hl] at hk
  rw [bf_one hl2 n (by rw [mixL_len hl]; exact hk), bf_one hl m hk, bf_one hl _ hk]
  by_cases e : bt n (k % 8) = 1
  · rw [if_pos e, if_pos ((bt_or _ _ _).2 (.inr e))]
  · rw [if_neg e]
    by_cases e2 : bt m (k % 8) = 1
    · rw [if_pos e2, if_pos ((bt_or _ _ _).2 (.inl e2))]
    · rw [if_neg e2, if_neg (fun h => by rcases (bt_or _ _ _).1 h with h | h; exact e2 h; exact e h)]

end Go.Proofs.Ytoljplfijopcmab
