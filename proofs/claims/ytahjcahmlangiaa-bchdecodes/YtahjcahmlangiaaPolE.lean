/-
  Words as bits, codewords, how far they are apart, without the program.
-/
import Derived.Test.YtahjcahmlangiaaPolD
namespace Go.Proofs.Ytahjcahmlangiaa

/-- The bit at place k of a byte. -/
def bt (x k : Nat) : Nat := x / 2 ^ k % 2
theorem bt_le (x k : Nat) : bt x k ≤ 1 := by unfold bt; omega
theorem bt_test (x k : Nat) : bt x k = (x.testBit k).toNat := by
  unfold bt
  rw [Nat.testBit_eq_decide_div_mod_eq]
  rcases Nat.mod_two_eq_zero_or_one (x / 2 ^ k) with h | h <;> simp [h]
theorem bt_xor (x y k : Nat) : bt (x ^^^ y) k = bt x k ^^^ bt y k := by
  rw [bt_test, bt_test, bt_test, Nat.testBit_xor]
  cases x.testBit k <;> cases y.testBit k <;> rfl
theorem bt_ext {x y : Nat} (hx : x < 256) (hy : y < 256) (h : ∀ k, k < 8 → bt x k = bt y k) : x = y := by
  apply Nat.eq_of_testBit_eq
  intro k
  by_cases hk : k < 8
  · have := h k hk
    rw [bt_test, bt_test] at this
    cases h1 : x.testBit k <;> cases h2 : y.testBit k <;> simp [h1, h2] at this <;> rfl
  · rw [Nat.testBit_lt_two_pow (Nat.lt_of_lt_of_le hx (Nat.pow_le_pow_right (n := 2) (by omega) (show 8 ≤ k by omega))), Nat.testBit_lt_two_pow (Nat.lt_of_lt_of_le hy (Nat.pow_le_pow_right (n := 2) (by omega) (show 8 ≤ k by omega)))]

/-- A byte's bits; a word's. -/
def bitL (x : Nat) : List Nat := [bt x 0, bt x 1, bt x 2, bt x 3, bt x 4, bt x 5, bt x 6, bt x 7]
def wb : List Nat → List Nat
  | [] => []
  | x :: w => bitL x ++ wb w
theorem wb_len (w : List Nat) : (wb w).length = 8 * w.length := by
  induction w with
  | nil => rfl
  | cons x w ih => rw [wb, List.length_append, ih, List.length_cons]; simp [bitL]; omega
theorem cf_bitL {x k : Nat} (hk : k < 8) : cf (bitL x) k = bt x k := by
  match k, hk with
  | 0, _ => rfl
  | 1, _ => rfl
  | 2, _ => rfl
  | 3, _ => rfl
  | 4, _ => rfl
  | 5, _ => rfl
  | 6, _ => rfl
  | 7, _ => rfl
theorem cf_wb (w : List Nat) (i : Nat) : cf (wb w) i = bt (cf w (i / 8)) (i % 8) := by
  induction w generalizing i with
  | nil => simp [wb, bt]
  | cons x w ih =>
    rw [wb, cf_append, show (bitL x).length = 8 from rfl]
    by_cases h : i < 8
    · rw [if_pos h, cf_bitL h, Nat.div_eq_of_lt h, Nat.mod_eq_of_lt h, cf_zero]
    · rw [if_neg h, ih, show i / 8 = (i - 8) / 8 + 1 from by omega, cf_succ, show (i - 8) % 8 = i % 8 from by omega]
theorem wb_bin (w : List Nat) : Bin (wb w) := fun i => by rw [cf_wb]; exact bt_le _ _

theorem wb_xor (v w : List Nat) (i : Nat) : cf (wb (padd v w)) i = cf (wb v) i ^^^ cf (wb w) i := by rw [cf_wb, cf_wb, cf_wb, cf_padd, bt_xor]

theorem wb_ext {v w : List Nat} (hv : Bs v) (hw : Bs w) (h : ∀ i, cf (wb v) i = cf (wb w) i) : Eqv v w := fun j => by
  refine bt_ext (hv j) (hw j) (fun k hk => ?_)
  have := h (8 * j + k)
  rwa [cf_wb, cf_wb, show (8 * j + k) / 8 = j from by omega, show (8 * j + k) % 8 = k from by omega] at this

/-- The e-th syndrome. -/
def syn (w : List Nat) (e : Nat) : Nat := ev (wb w) (E e)
theorem syn_lt (w : List Nat) (e : Nat) : syn w e < 256 := ev_lt (wb_bin w).bs
theorem syn_xor (v w : List Nat) (e : Nat) : syn (padd v w) e = syn v e ^^^ syn w e := by
  unfold syn
  rw [← ev_padd (wb_bin v).bs (wb_bin w).bs (E_lt e)]
  exact ev_congr (E_lt e) (fun i => by rw [wb_xor, cf_padd])
theorem syn_ones' (w : List Nat) (e : Nat) : syn w e = xsum (fun j => E (j * e)) (ones 0 (wb w)) := syn_ones (wb_bin w) e

/-- A codeword. -/
structure Code (w : List Nat) : Prop where
  len : w.length = 28
  bs : Bs w
  syn : ∀ e, 1 ≤ e → e ≤ 8 → syn w e = 0

theorem padd_len {v w : List Nat} (h : v.length = w.length) : (padd v w).length = v.length := by
  induction v generalizing w with
  | nil => cases w with
    | nil => rfl
    | cons y w => simp at h
  | cons x v ih =>
    cases w with
    | nil => simp at h
    | cons y w => rw [padd, List.length_cons, ih (by simpa using h), List.length_cons]

theorem Code.sum {v w : List Nat} (h : Code v) (k : Code w) : Code (padd v w) :=
  ⟨by rw [padd_len (by rw [h.len, k.len]), h.len], h.bs.padd k.bs, fun e h1 h2 => by rw [syn_xor, h.syn e h1 h2, k.syn e h1 h2]; rfl⟩

/-- The places where two words differ. -/
def diff (v w : List Nat) : List Nat := ones 0 (wb (padd v w))
theorem diff_mem {v w : List Nat} {i : Nat} : i ∈ diff v w ↔ cf (wb v) i ≠ cf (wb w) i := by
  unfold diff
  rw [ones_mem, Nat.sub_zero, wb_xor]
  constructor
  · rintro ⟨_, h⟩ e
    rw [e, Nat.xor_self] at h
    exact h rfl
  · intro h
    exact ⟨Nat.zero_le _, fun e => h (xor_eq_nought e)⟩

/-- **Two unlike codewords differ in at least nine bits.** -/
theorem Code.nine {v w : List Nat} (h : Code v) (k : Code w) : v = w ∨ 9 ≤ (diff v w).length := by
  have hs := h.sum k
  rcases Go.Proofs.Ytahjcahmlangiaa.nine (wb_bin (padd v w)) (by rw [wb_len, hs.len]; omega) (fun e h1 h2 => hs.syn e h1 h2) with h0 | h9
  · left
    refine eq_of_cf (by rw [h.len, k.len]) (wb_ext h.bs k.bs (fun i => ?_))
    have := h0 i
    rw [wb_xor] at this
    exact xor_eq_nought this
  · exact .inr h9

/-- The codeword of data. -/
structure IsEnc (d w : List Nat) : Prop where
  code : Code w
  data : w.drop 4 = d

theorem IsEnc.once {d v w : List Nat} (h : IsEnc d v) (k : IsEnc d w) : v = w := by
  have hs := h.code.sum k.code
  have hz : ∀ i, cf (wb (padd v w)) i = 0 := by
    have hlow : ∀ i, 32 ≤ i → cf (wb (padd v w)) i = 0 := fun i hi => by
      have e : cf v (i / 8) = cf w (i / 8) := by
        have h1 := cf_drop v 4 (i / 8 - 4)
        have h2 := cf_drop w 4 (i / 8 - 4)
        rw [h.data, show 4 + (i / 8 - 4) = i / 8 from by omega] at h1
        rw [k.data, show 4 + (i / 8 - 4) = i / 8 from by omega] at h2
        rw [← h1, h2]
      rw [cf_wb, cf_padd, e, Nat.xor_self]
      simp [bt]
    have ht : Bin (trim (wb (padd v w))) := fun i => by rw [cf_trim]; exact wb_bin _ i
    have hl := trim_short hlow
    have hev : ∀ e, ev (trim (wb (padd v w))) (E e) = syn (padd v w) e := fun e => ev_congr (E_lt e) (cf_trim _)
    intro i
    rw [← cf_trim]
    exact short_nought ht hl (by rw [hev]; exact hs.syn 1 (by omega) (by omega)) (by rw [hev]; exact hs.syn 3 (by omega) (by omega)) (by rw [hev]; exact hs.syn 5 (by omega) (by omega)) (by rw [hev]; exact hs.syn 7 (by omega) (by omega)) i
  refine eq_of_cf (by rw [h.code.len, k.code.len]) (wb_ext h.code.bs k.code.bs (fun i => ?_))
  have := hz i
  rw [wb_xor] at this
  exact xor_eq_nought this

/-- One bit turned. -/
def flip1 (w : List Nat) (k : Nat) : List Nat := w.set (k / 8) (cf w (k / 8) ^^^ 2 ^ (k % 8))
def flips (w l : List Nat) : List Nat := l.foldl flip1 w

theorem flip1_len (w : List Nat) (k : Nat) : (flip1 w k).length = w.length := by simp [flip1]
theorem flips_len (w l : List Nat) : (flips w l).length = w.length := by
  induction l generalizing w with
  | nil => rfl
  | cons k l ih => rw [flips, List.foldl_cons, ← flips, ih, flip1_len]
theorem pow_lt8 (k : Nat) : 2 ^ (k % 8) < 256 := Nat.lt_of_lt_of_le (Nat.pow_lt_pow_right (a := 2) (by omega) (show k % 8 < 8 by omega)) (by decide)
theorem flip1_bs {w : List Nat} (h : Bs w) (k : Nat) : Bs (flip1 w k) := by
  unfold flip1
  by_cases hk : k / 8 < w.length
  · intro i
    rw [cf_set _ _ _ _ hk]
    split
    · exact xor_lt (h _) (pow_lt8 k)
    · exact h i
  · rw [List.set_eq_of_length_le (by omega)]; exact h
theorem flips_bs {w : List Nat} (h : Bs w) (l : List Nat) : Bs (flips w l) := by
  induction l generalizing w with
  | nil => exact h
  | cons k l ih => exact ih (flip1_bs h k)

theorem bt_pow (j k : Nat) : bt (2 ^ j) k = if k = j then 1 else 0 := by
  rw [bt_test, Nat.testBit_two_pow]
  by_cases h : j = k
  · simp [h]
  · rw [if_neg (fun e => h e.symm)]; simp [h]

theorem wb_flip1 {w : List Nat} {k : Nat} (hk : k < 8 * w.length) (i : Nat) : cf (wb (flip1 w k)) i = cf (wb w) i ^^^ (if i = k then 1 else 0) := by
  rw [cf_wb, cf_wb, flip1, cf_set _ _ _ _ (by omega)]
  by_cases h : i / 8 = k / 8
  · rw [if_pos h, bt_xor, bt_pow, h]
    congr 1
    by_cases h2 : i % 8 = k % 8
    · rw [if_pos h2, if_pos (by omega)]
    · rw [if_neg h2, if_neg (by omega)]
  · rw [if_neg h, if_neg (by omega), Nat.xor_zero]

theorem wb_flips {w l : List Nat} (hl : ∀ k ∈ l, k < 8 * w.length) (hn : l.Nodup) (i : Nat) : cf (wb (flips w l)) i = cf (wb w) i ^^^ (if i ∈ l then 1 else 0) := by
  induction l generalizing w with
  | nil => simp [flips]
  | cons k l ih =>
    obtain ⟨h1, h2⟩ := List.nodup_cons.1 hn
    rw [flips, List.foldl_cons, ← flips, ih (fun j hj => by rw [flip1_len]; exact hl j (List.mem_cons_of_mem _ hj)) h2, wb_flip1 (hl k List.mem_cons_self), Nat.xor_assoc]
    congr 1
    by_cases e : i = k
    · subst e
      rw [if_pos rfl, if_neg h1, if_pos List.mem_cons_self]
      rfl
    · rw [if_neg e, Nat.zero_xor]
      by_cases e2 : i ∈ l
      · rw [if_pos e2, if_pos (List.mem_cons_of_mem _ e2)]
      · rw [if_neg e2, if_neg (by simp [e, e2])]

theorem diff_nodup (v w : List Nat) : (diff v w).Nodup := ones_nodup _ 0

theorem diff_flips {w l : List Nat} (hl : ∀ k ∈ l, k < 8 * w.length) (hn : l.Nodup) (i : Nat) : i ∈ diff w (flips w l) ↔ i ∈ l := by
  rw [diff_mem, wb_flips hl hn]
  by_cases h : i ∈ l
  · rw [if_pos h]
    refine ⟨fun _ => h, fun _ e => ?_⟩
    have := xor_cancel ((Nat.xor_zero (cf (wb w) i)).trans e)
    omega
  · rw [if_neg h, Nat.xor_zero]
    exact ⟨fun k => absurd rfl k, fun k => absurd k h⟩

theorem len_of_mem {l m : List Nat} (hl : l.Nodup) (h : ∀ i, i ∈ l → i ∈ m) : l.length ≤ m.length := by
  induction l generalizing m with
  | nil => simp
  | cons x l ih =>
    obtain ⟨h1, h2⟩ := List.nodup_cons.1 hl
    have hx := h x List.mem_cons_self
    have := ih (m := m.erase x) h2 (fun i hi => (List.mem_erase_of_ne (fun e : i = x => h1 (by rw [← e]; exact hi))).2 (h i (List.mem_cons_of_mem _ hi)))
    rw [List.length_erase_of_mem hx] at this
    have := List.length_pos_of_mem hx
    simp only [List.length_cons]
    omega
theorem len_eq {l m : List Nat} (hl : l.Nodup) (hm : m.Nodup) (h : ∀ i, i ∈ l ↔ i ∈ m) : l.length = m.length :=
  Nat.le_antisymm (len_of_mem hl (fun i => (h i).1)) (len_of_mem hm (fun i => (h i).2))

theorem diff_flips_len {w l : List Nat} (hl : ∀ k ∈ l, k < 8 * w.length) (hn : l.Nodup) : (diff w (flips w l)).length = l.length := len_eq (diff_nodup _ _) hn (diff_flips hl hn)

theorem diff_comm (v w : List Nat) : (diff v w).length = (diff w v).length := len_eq (diff_nodup _ _) (diff_nodup _ _) (fun i => by rw [diff_mem, diff_mem]; exact ⟨fun h e => h e.symm, fun h e => h e.symm⟩)

theorem diff_tri (u v w : List Nat) : (diff u w).length ≤ (diff u v).length + (diff v w).length := by
  rw [← List.length_append]
  refine len_of_mem (diff_nodup _ _) (fun i hi => ?_)
  rw [List.mem_append, diff_mem, diff_mem]
  rw [diff_mem] at hi
  by_cases h : cf (wb u) i = cf (wb v) i
  · right; rw [← h]; exact hi
  · exact .inl h

theorem diff_self (w : List Nat) : diff w w = [] := by
  cases h : diff w w with
  | nil => rfl
  | cons i l =>
    have : i ∈ diff w w := by rw [h]; simp
    exact absurd rfl (diff_mem.1 this)

/-- A codeword that is near is just one. -/
theorem near_once {u v w : List Nat} (hv : Code v) (hw : Code w) (h1 : (diff u v).length ≤ 3) (h2 : (diff u w).length ≤ 3) : v = w := by
  rcases hv.nine hw with h | h
  · exact h
  · have := diff_tri v u w
    rw [diff_comm v u] at this
    omega

/-- With four or five bits of a codeword turned none is near. -/
theorem near_none {u v w : List Nat} (hv : Code v) (hw : Code w) (h1 : 4 ≤ (diff u v).length) (h2 : (diff u v).length ≤ 5) : 4 ≤ (diff u w).length := by
  rcases hv.nine hw with h | h
  · rw [← h]; exact h1
  · have := diff_tri v u w
    rw [diff_comm v u] at this
    omega

end Go.Proofs.Ytahjcahmlangiaa
