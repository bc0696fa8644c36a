/-
  Rows of reads by themselves; cells that are set one behind the other; what a slot's bytes tell.
-/
import Derived.Test.YtjdikhelabibnaaGreatR10c
namespace Go.Proofs.YtjdikhelabibnaaGreat
open Go.RowKit

/-- What is left, and the error, behind a read of k bytes. -/
def rs1 (k : Nat) (s : List Int × Int) : List Int × Int := (rdZ k s.1 s.2, rdE k s.1 s.2)
/-- A row of reads: what they tell, and what is left. -/
def rdL : List Nat → List Int × Int → List Int
  | [], _ => []
  | k :: ks, s => rdV k s.1 :: rdL ks (rs1 k s)
def rdS : List Nat → List Int × Int → List Int × Int
  | [], s => s
  | k :: ks, s => rdS ks (rs1 k s)
theorem rdL_len (ks : List Nat) : ∀ s, (rdL ks s).length = ks.length := by
  induction ks with
  | nil => intro s; rfl
  | cons k ks ih => intro s; simp [rdL, ih]
theorem rdL_app (ks ls : List Nat) : ∀ s, rdL (ks ++ ls) s = rdL ks s ++ rdL ls (rdS ks s) := by
  induction ks with
  | nil => intro s; rfl
  | cons k ks ih => intro s; simp [rdL, rdS, ih]
theorem rdS_app (ks ls : List Nat) : ∀ s, rdS (ks ++ ls) s = rdS ls (rdS ks s) := by
  induction ks with
  | nil => intro s; rfl
  | cons k ks ih => intro s; simp [rdS, ih]
theorem byt_drop10 {zs : List Int} (h : Byt zs) (n : Nat) : Byt (zs.drop n) := fun z hz => h z (List.mem_of_mem_drop hz)
theorem byt_rs1 {k : Nat} {s : List Int × Int} (h : Byt s.1) : Byt (rs1 k s).1 := by
  unfold rs1 rdZ
  dsimp only
  split
  · exact byt_drop10 h _
  · split
    · intro z hz; simp at hz
    · exact h
theorem byt_rdS {ks : List Nat} : ∀ {s : List Int × Int}, Byt s.1 → Byt (rdS ks s).1 := by
  induction ks with
  | nil => intro s h; exact h
  | cons k ks ih => intro s h; exact ih (byt_rs1 h)
/-- One byte. -/
theorem rdV_one {zs : List Int} (h : Byt zs) : rdV 1 zs = zs.headD 0 ∧ 0 ≤ rdV 1 zs ∧ rdV 1 zs ≤ 255 := by
  unfold rdV
  match zs, h with
  | [], _ => simp
  | z :: l, h =>
    have hz := h z (by simp)
    have e : wrap64 (le ((z :: l).take 1)) = z := by
      simp only [List.take_succ_cons, List.take_zero, le, wrap64]
      omega
    rw [if_pos (by simp), e]
    exact ⟨rfl, hz.1, hz.2⟩
theorem rdS_ok (ks : List Nat) : ∀ (zs : List Int), ks.sum ≤ zs.length → rdS ks (zs, 0) = (zs.drop ks.sum, 0) := by
  induction ks with
  | nil => intro zs _; rfl
  | cons k ks ih =>
    intro zs h
    rw [List.sum_cons] at h
    have e : rs1 k (zs, 0) = (zs.drop k, 0) := by
      unfold rs1 rdZ rdE
      dsimp only
      rw [if_pos (by omega), if_pos (by omega)]
    rw [rdS, e, ih _ (by simp; omega), List.sum_cons, List.drop_drop]
theorem rdS_bad (ks : List Nat) : rdS ks ([], 3) = ([], 3) := by
  induction ks with
  | nil => rfl
  | cons k ks ih =>
    have e : rs1 k ([], 3) = ([], 3) := by
      unfold rs1 rdZ rdE
      cases k <;> simp
    rw [rdS, e, ih]
theorem rdS_cut (ks : List Nat) : ∀ (zs : List Int), zs.length < ks.sum → rdS ks (zs, 0) = ([], 3) := by
  induction ks with
  | nil => intro zs h; simp at h
  | cons k ks ih =>
    intro zs h
    rw [List.sum_cons] at h
    by_cases hk : k ≤ zs.length
    · have e : rs1 k (zs, 0) = (zs.drop k, 0) := by
        unfold rs1 rdZ rdE
        dsimp only
        rw [if_pos hk, if_pos hk]
      rw [rdS, e, ih _ (by simp; omega)]
    · have e : rs1 k (zs, 0) = ([], 3) := by
        unfold rs1 rdZ rdE
        dsimp only
        rw [if_neg hk, if_neg hk, if_pos rfl, if_pos rfl]
      rw [rdS, e, rdS_bad]

/-- Cells that are set one behind the other. -/
def csets (cs : Array Value) (o : Nat) : List Value → Array Value
  | [] => cs
  | v :: vs => csets (cs.setIfInBounds o v) (o + 1) vs
theorem csets_size (vs : List Value) : ∀ (cs : Array Value) (o : Nat), (csets cs o vs).size = cs.size := by
  induction vs with
  | nil => intro cs o; rfl
  | cons v vs ih => intro cs o; rw [csets, ih, Array.size_setIfInBounds]
theorem csets_snoc (v : Value) (vs : List Value) : ∀ (cs : Array Value) (o : Nat), csets cs o (vs ++ [v]) = (csets cs o vs).setIfInBounds (o + vs.length) v := by
  induction vs with
  | nil => intro cs o; rfl
  | cons u vs ih =>
    intro cs o
    rw [List.cons_append, csets, ih, csets, List.length_cons]
    congr 1
    omega

theorem csets_beyond (vs : List Value) : ∀ (cs : Array Value) (o j : Nat), o + vs.length ≤ j → (csets cs o vs)[j]? = cs[j]? := by
  induction vs with
  | nil => intro cs o j _; rfl
  | cons u vs ih =>
    intro cs o j h
    rw [List.length_cons] at h
    rw [csets, ih _ _ _ (by omega), Array.getElem?_setIfInBounds, if_neg (by omega)]

/-- The sizes of a head's, a slot's, the noughts' parts. -/
def szH : List Nat := [8, 1, 1, 1]
def szE : List Nat := [1, 8, 8] ++ List.replicate 16 1
def szT : List Nat := List.replicate 4 1
/-- Numbers as bytes. -/
def nat10 (l : List Int) : List Nat := l.map Int.toNat
theorem ints_nat10 {l : List Int} (h : ∀ z ∈ l, 0 ≤ z) : ints (nat10 l) = l := by
  induction l with
  | nil => rfl
  | cons z l ih =>
    have hz := h z (by simp)
    have e : ints (nat10 (z :: l)) = (z.toNat : Int) :: ints (nat10 l) := rfl
    rw [e, ih (fun x hx => h x (by simp [hx]))]
    congr 1
    omega
theorem nat10_ints (d : List Nat) : nat10 (ints d) = d := by
  induction d with
  | nil => rfl
  | cons z l ih =>
    have e : nat10 (ints (z :: l)) = z :: nat10 (ints l) := rfl
    rw [e, ih]
theorem rd_ones {n : Nat} : ∀ {s : List Int × Int}, Byt s.1 → ∀ z ∈ rdL (List.replicate n 1) s, 0 ≤ z ∧ z ≤ 255 := by
  induction n with
  | zero => intro s _ z hz; simp [rdL] at hz
  | succ n ih =>
    intro s h z hz
    rw [List.replicate_succ, rdL, List.mem_cons] at hz
    rcases hz with rfl | hz
    · exact (rdV_one h).2
    · exact ih (byt_rs1 h) z hz
/-- What is left behind the head, the slot, the noughts. -/
def st1 (zs : List Int) := rdS szH (zs, 0)
def st2 (zs : List Int) := rdS szE (st1 zs)
def st3 (zs : List Int) := rdS szT (st2 zs)
/-- What was read. -/
def pH (zs : List Int) : List Int := rdL szH (zs, 0)
def pE (zs : List Int) : List Int := rdL szE (st1 zs)
def pT (zs : List Int) : List Int := rdL szT (st2 zs)
def pD (zs : List Int) : List Nat := nat10 ((pE zs).drop 3)
/-- Code's error. -/
def cod (zs : List Int) : Int := if (st3 zs).2 = 0 ∧ (st3 zs).1 ≠ [] then 4 else (st3 zs).2
/-- What a slot's bytes must not say. -/
def badP (zs : List Int) : Prop := pT zs ≠ [0, 0, 0, 0] ∨ ¬ (1 ≤ (pH zs).getD 0 0 ∧ (pH zs).getD 0 0 ≤ 1099511627776) ∨ ¬ okE ((pE zs).getD 0 0) ((pE zs).getD 1 0) ((pE zs).getD 2 0) (pD zs)
open Classical in
noncomputable def parE (zs : List Int) : Int := if cod zs ≠ 0 then cod zs else if badP zs then 5 else 0
open Classical in
noncomputable def parH (zs : List Int) (j : Nat) : Int := if parE zs = 0 then (pH zs).getD j 0 else 0
open Classical in
noncomputable def parN (zs : List Int) (j : Nat) : Int := if parE zs = 0 then (pE zs).getD j 0 else 0
open Classical in
noncomputable def parD (zs : List Int) : List Nat := if parE zs = 0 then pD zs else zer16
theorem pE_len (zs : List Int) : (pE zs).length = 19 := by unfold pE; rw [rdL_len]; rfl
theorem pT_len (zs : List Int) : (pT zs).length = 4 := by unfold pT; rw [rdL_len]; rfl
theorem pH_len (zs : List Int) : (pH zs).length = 4 := by unfold pH; rw [rdL_len]; rfl
theorem pD_len (zs : List Int) : (pD zs).length = 16 := by unfold pD nat10; rw [List.length_map, List.length_drop, pE_len]
theorem parD_len (zs : List Int) : (parD zs).length = 16 := by unfold parD; split; exact pD_len zs; exact zer16_len
end Go.Proofs.YtjdikhelabibnaaGreat
