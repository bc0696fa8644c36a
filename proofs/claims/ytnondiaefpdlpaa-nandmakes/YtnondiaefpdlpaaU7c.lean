/-
  The second telling of nand: what New makes.
-/
import Derived.Test.YtnondiaefpdlpaaU7b
import Derived.Test.YtnondiaefpdlpaaDk
namespace Go.Proofs.Ytnondiaefpdlpaa
open Go.RowKit Go.Shelf

/-- Blocks of these types, from M on, lie as they lay. -/
def Lie (ts : List TypeId) (M : Nat) (w w' : World) : Prop := ∀ (g : Nat) (cur : Array Value) (t : TypeId), M ≤ g → t ∈ ts → w.heap[g]? = some (.cells cur t (0, 0)) → w'.heap[g]? = some (.cells cur t (0, 0))
theorem Lie.of_below {ts : List TypeId} {M : Nat} {w w' : World} (h : Below w.heap.size w w') : Lie ts M w w' := fun g _ _ _ _ h1 => (h.block g (lt_of_block h1)).trans h1
theorem Lie.trans {ts : List TypeId} {M : Nat} {a b c : World} (h : Lie ts M a b) (k : Lie ts M b c) : Lie ts M a c := fun g cur t h1 h2 h3 => k g cur t h1 h2 (h g cur t h1 h2 h3)
theorem Lie.mono {ts us : List TypeId} {M N : Nat} {w w' : World} (h : Lie ts M w w') (hs : ∀ t ∈ us, t ∈ ts) (hn : M ≤ N) : Lie us N w w' := fun g cur t h1 h2 h3 => h g cur t (Nat.le_trans hn h1) (hs t h2) h3
theorem Lie.grown {ts : List TypeId} {M : Nat} {w w' : World} {row : Option Nat} (hg : w.grownBy w' row) (hr : ∀ k, row = some k → ∃ cur t, w.heap[k]? = some (.cells cur t (0, 0)) ∧ t ∉ ts) : Lie ts M w w' := fun g cur t _ h2 h3 => (hg.block g (lt_of_block h3) (fun e => by
    obtain ⟨c, t', h4, h5⟩ := hr g e.symm
    rw [h3] at h4
    cases h4
    exact h5 h2)).trans h3
theorem Lie.set {ts : List TypeId} {M : Nat} {w : World} {q j : Nat} {cur : Array Value} {t : TypeId} (v : Value) (h : w.heap[q]? = some (.cells cur t (0, 0))) (ht : t ∉ ts) : Lie ts M w (w.setCell ⟨q, j, none⟩ v) := fun g c t' _ h2 h3 => (Below.heap_setCell _ _ _ _ (fun e => by
    have e' : g = q := e
    subst e'
    rw [h] at h3
    cases h3
    exact ht h2)).trans h3
theorem RowC.lie {ts : List TypeId} {M : Nat} {w w' : World} {g n : Nat} {e : TypeId} {f : Nat → Value} (h : RowC w g e n f) (k : Lie ts M w w') (hg : M ≤ g) (he : e ∈ ts) : RowC w' g e n f := by
  obtain ⟨cur, h1, h2⟩ := h
  exact ⟨cur, k g cur e hg he h1, h2⟩
theorem RowB.lie {ts : List TypeId} {M : Nat} {w w' : World} {g n : Nat} {f : Nat → Nat → Value} (h : RowB w g n f) (k : Lie ts M w w') (hg : M ≤ g) (he : 80 ∈ ts) : RowB w' g n f := by
  obtain ⟨cur, h1, h2⟩ := h
  exact ⟨cur, k g cur _ hg he h1, h2⟩
theorem Fr.lie {ts : List TypeId} {M : Nat} {w w' : World} {v : Value} {s : List Nat} (h : Fr M w v s) (k : Lie ts M w w') (he : 5 ∈ ts) : Fr M w' v s := by
  rcases h with h | ⟨g, c, h1, h2, h3, ⟨cur, h4, h4'⟩, h5⟩
  · exact .inl h
  · exact .inr ⟨g, c, h1, h2, h3, ⟨cur, k g cur _ h5 he h4, h4'⟩, h5⟩
theorem OwnC.lie {ts : List TypeId} {M base : Nat} {w w' : World} {e : TypeId} {v : Value} {n : Nat} {f : Nat → Value} (h : OwnC base w e v n f) (k : Lie ts M w w') (hb : M ≤ base) (he : e ∈ ts) : OwnC base w' e v n f := h.keep (fun g cur h1 h2 => (k g cur e (Nat.le_trans hb h1) he h2).trans h2.symm)
theorem OwnB.lie {ts : List TypeId} {M base : Nat} {w w' : World} {v : Value} {n : Nat} {f : Nat → Nat → Value} (h : OwnB base w v n f) (k : Lie ts M w w') (hb : M ≤ base) (he : 80 ∈ ts) : OwnB base w' v n f := h.keep (fun g cur h1 h2 => (k g cur _ (Nat.le_trans hb h1) he h2).trans h2.symm)

def blk4 (g c P : Nat) (bad : Bool) : Nat → Value
  | 0 => .slice (some ⟨g, 0, none⟩) P c
  | 1 => .int .i64 0
  | 2 => .int .i64 0
  | _ => .bool bad

/-- The pages and the noise of b blocks. -/
structure InR (w : World) (M b P : Nat) (ps cp : Nat → Nat) (hv : Nat → Nat → Value) (ns : Nat → Nat) : Prop where
  pg : ∀ i, i < b → RowC w (ps i) 38 P (hv i)
  cap : ∀ i, i < b → P ≤ cp i ∧ cp i ≤ maxLen
  lowp : ∀ i, i < b → M ≤ ps i
  ng : ∀ i, i < b → RowC w (ns i) 24 P (fun _ => .slice none 0 0)
  lown : ∀ i, i < b → M ≤ ns i
  fr : ∀ i, i < b → ∀ p, p < P → Fr M w (hv i p) ones60
  injp : ∀ i j, i < b → j < b → ps i = ps j → i = j
  injn : ∀ i j, i < b → j < b → ns i = ns j → i = j
theorem InR.zero (w : World) (M P : Nat) (ps cp : Nat → Nat) (hv : Nat → Nat → Value) (ns : Nat → Nat) : InR w M 0 P ps cp hv ns :=
  ⟨fun _ h => by omega, fun _ h => by omega, fun _ h => by omega, fun _ h => by omega, fun _ h => by omega, fun _ h => by omega, fun _ _ h => by omega, fun _ _ h => by omega⟩
theorem InR.lie {ts : List TypeId} {w w' : World} {M b P : Nat} {ps cp : Nat → Nat} {hv : Nat → Nat → Value} {ns : Nat → Nat} (h : InR w M b P ps cp hv ns) (k : Lie ts M w w') (h1 : 38 ∈ ts) (h2 : 24 ∈ ts) (h3 : 5 ∈ ts) : InR w' M b P ps cp hv ns :=
  ⟨fun i hi => (h.pg i hi).lie k (h.lowp i hi) h1, h.cap, h.lowp, fun i hi => (h.ng i hi).lie k (h.lown i hi) h2, h.lown, fun i hi p hp => (h.fr i hi p hp).lie k h3, h.injp, h.injn⟩
theorem InR.add {w : World} {M b P X : Nat} {ps cp : Nat → Nat} {hv : Nat → Nat → Value} {ns : Nat → Nat} (h : InR w M b P ps cp hv ns) {g c n : Nat} {hw : Nat → Value} (h1 : RowC w g 38 P hw) (h2 : P ≤ c ∧ c ≤ maxLen) (h3 : RowC w n 24 P (fun _ => .slice none 0 0)) (h4 : ∀ p, p < P → Fr M w (hw p) ones60)
    (hX : M ≤ X) (hg : X ≤ g) (hn : X ≤ n) (hold : ∀ i, i < b → ps i < X ∧ ns i < X) :
    InR w M (b + 1) P (fun i => if i = b then g else ps i) (fun i => if i = b then c else cp i) (fun i => if i = b then hw else hv i) (fun i => if i = b then n else ns i) := by
  refine ⟨fun i hi => ?_, fun i hi => ?_, fun i hi => ?_, fun i hi => ?_, fun i hi => ?_, fun i hi p hp => ?_, fun i j hi hj e => ?_, fun i j hi hj e => ?_⟩
  · by_cases e : i = b
    · simp only [if_pos e]; exact h1
    · simp only [if_neg e]; exact h.pg i (by omega)
  · by_cases e : i = b
    · simp only [if_pos e]; exact h2
    · simp only [if_neg e]; exact h.cap i (by omega)
  · by_cases e : i = b
    · simp only [if_pos e]; omega
    · simp only [if_neg e]; exact h.lowp i (by omega)
  · by_cases e : i = b
    · simp only [if_pos e]; exact h3
    · simp only [if_neg e]; exact h.ng i (by omega)
  · by_cases e : i = b
    · simp only [if_pos e]; omega
    · simp only [if_neg e]; exact h.lown i (by omega)
  · by_cases e : i = b
    · simp only [if_pos e]; exact h4 p hp
    · simp only [if_neg e]; exact h.fr i (by omega) p hp
  · by_cases e1 : i = b <;> by_cases e2 : j = b
    · omega
    · simp only [if_pos e1, if_neg e2] at e; have := (hold j (by omega)).1; omega
    · simp only [if_neg e1, if_pos e2] at e; have := (hold i (by omega)).1; omega
    · simp only [if_neg e1, if_neg e2] at e; exact h.injp i j (by omega) (by omega) e
  · by_cases e1 : i = b <;> by_cases e2 : j = b
    · omega
    · simp only [if_pos e1, if_neg e2] at e; have := (hold j (by omega)).2; omega
    · simp only [if_neg e1, if_pos e2] at e; have := (hold i (by omega)).2; omega
    · simp only [if_neg e1, if_neg e2] at e; exact h.injn i j (by omega) (by omega) e

/-- Where a die's parts lie. -/
structure Ld where
  bs : Nat
  cb : Nat
  ls : Nat
  cl : Nat
  ps : Nat → Nat
  cp : Nat → Nat
  hv : Nat → Nat → Value
  ns : Nat → Nat
  bd : Nat → Bool
/-- A die. -/
structure DieR (w : World) (M B P : Nat) (d : Ld) : Prop where
  bk : RowB w d.bs B (fun i => blk4 (d.ps i) (d.cp i) P (d.bd i))
  lk : RowC w d.ls 82 B (fun i => .slice (some ⟨d.ns i, 0, none⟩) P P)
  cb : B ≤ d.cb ∧ d.cb ≤ maxLen
  cl : B ≤ d.cl ∧ d.cl ≤ maxLen
  lb : M ≤ d.bs
  ll : M ≤ d.ls
  inn : InR w M B P d.ps d.cp d.hv d.ns
theorem DieR.lie {ts : List TypeId} {w w' : World} {M B P : Nat} {d : Ld} (h : DieR w M B P d) (k : Lie ts M w w') (h1 : 38 ∈ ts) (h2 : 24 ∈ ts) (h3 : 5 ∈ ts) (h4 : 80 ∈ ts) (h5 : 82 ∈ ts) : DieR w' M B P d :=
  ⟨h.bk.lie k h.lb h4, h.lk.lie k h.ll h5, h.cb, h.cl, h.lb, h.ll, h.inn.lie k h1 h2 h3⟩
theorem InR.low {w : World} {M N b P : Nat} {ps cp : Nat → Nat} {hv : Nat → Nat → Value} {ns : Nat → Nat} (h : InR w M b P ps cp hv ns) (hm : N ≤ M) : InR w N b P ps cp hv ns :=
  ⟨h.pg, h.cap, fun i hi => Nat.le_trans hm (h.lowp i hi), h.ng, fun i hi => Nat.le_trans hm (h.lown i hi), fun i hi p hp => (h.fr i hi p hp).below (Below.refl _ _) hm, h.injp, h.injn⟩
theorem DieR.low {w : World} {M N B P : Nat} {d : Ld} (h : DieR w M B P d) (hm : N ≤ M) : DieR w N B P d := ⟨h.bk, h.lk, h.cb, h.cl, Nat.le_trans hm h.lb, Nat.le_trans hm h.ll, h.inn.low hm⟩

/-- Some dies. -/
structure AllR (w : World) (M n B P : Nat) (D : Nat → Ld) : Prop where
  die : ∀ i, i < n → DieR w M B P (D i)
  inj1 : ∀ i j, i < n → j < n → (D i).bs = (D j).bs → i = j
  inj2 : ∀ i j, i < n → j < n → (D i).ls = (D j).ls → i = j
  inj3 : ∀ i b j c, i < n → b < B → j < n → c < B → (D i).ps b = (D j).ps c → i = j ∧ b = c
  inj4 : ∀ i b j c, i < n → b < B → j < n → c < B → (D i).ns b = (D j).ns c → i = j ∧ b = c
theorem AllR.zero (w : World) (M B P : Nat) (D : Nat → Ld) : AllR w M 0 B P D := ⟨fun _ h => by omega, fun _ _ h => by omega, fun _ _ h => by omega, fun _ _ _ _ h => by omega, fun _ _ _ _ h => by omega⟩
theorem AllR.lie {ts : List TypeId} {w w' : World} {M n B P : Nat} {D : Nat → Ld} (h : AllR w M n B P D) (k : Lie ts M w w') (h1 : 38 ∈ ts) (h2 : 24 ∈ ts) (h3 : 5 ∈ ts) (h4 : 80 ∈ ts) (h5 : 82 ∈ ts) : AllR w' M n B P D :=
  ⟨fun i hi => (h.die i hi).lie k h1 h2 h3 h4 h5, h.inj1, h.inj2, h.inj3, h.inj4⟩
/-- All of it lies ahead of X. -/
theorem AllR.lt {w : World} {M n B P : Nat} {D : Nat → Ld} (h : AllR w M n B P D) {i : Nat} (hi : i < n) : (D i).bs < w.heap.size ∧ (D i).ls < w.heap.size ∧ ∀ b, b < B → (D i).ps b < w.heap.size ∧ (D i).ns b < w.heap.size :=
  ⟨(h.die i hi).bk.lt, (h.die i hi).lk.lt, fun b hb => ⟨((h.die i hi).inn.pg b hb).lt, ((h.die i hi).inn.ng b hb).lt⟩⟩
theorem AllR.add {w : World} {M n B P X : Nat} {D : Nat → Ld} (h : AllR w M n B P D) {d : Ld} (hd : DieR w X B P d) (hX : M ≤ X) (hold : ∀ i, i < n → (D i).bs < X ∧ (D i).ls < X ∧ ∀ b, b < B → (D i).ps b < X ∧ (D i).ns b < X) : AllR w M (n + 1) B P (fun i => if i = n then d else D i) := by
  refine ⟨fun i hi => ?_, fun i j hi hj e => ?_, fun i j hi hj e => ?_, fun i b j c hi hb hj hc e => ?_, fun i b j c hi hb hj hc e => ?_⟩
  · by_cases e : i = n
    · simp only [if_pos e]; exact hd.low hX
    · simp only [if_neg e]; exact h.die i (by omega)
  · by_cases e1 : i = n <;> by_cases e2 : j = n
    · omega
    · simp only [if_pos e1, if_neg e2] at e; have := (hold j (by omega)).1; have := hd.lb; omega
    · simp only [if_neg e1, if_pos e2] at e; have := (hold i (by omega)).1; have := hd.lb; omega
    · simp only [if_neg e1, if_neg e2] at e; exact h.inj1 i j (by omega) (by omega) e
  · by_cases e1 : i = n <;> by_cases e2 : j = n
    · omega
    · simp only [if_pos e1, if_neg e2] at e; have := (hold j (by omega)).2.1; have := hd.ll; omega
    · simp only [if_neg e1, if_pos e2] at e; have := (hold i (by omega)).2.1; have := hd.ll; omega
    · simp only [if_neg e1, if_neg e2] at e; exact h.inj2 i j (by omega) (by omega) e
  · by_cases e1 : i = n <;> by_cases e2 : j = n
    · simp only [if_pos e1, if_pos e2] at e; exact ⟨by omega, hd.inn.injp b c hb hc e⟩
    · simp only [if_pos e1, if_neg e2] at e; have := ((hold j (by omega)).2.2 c hc).1; have := hd.inn.lowp b hb; omega
    · simp only [if_neg e1, if_pos e2] at e; have := ((hold i (by omega)).2.2 b hb).1; have := hd.inn.lowp c hc; omega
    · simp only [if_neg e1, if_neg e2] at e; exact h.inj3 i b j c (by omega) hb (by omega) hc e
  · by_cases e1 : i = n <;> by_cases e2 : j = n
    · simp only [if_pos e1, if_pos e2] at e; exact ⟨by omega, hd.inn.injn b c hb hc e⟩
    · simp only [if_pos e1, if_neg e2] at e; have := ((hold j (by omega)).2.2 c hc).2; have := hd.inn.lown b hb; omega
    · simp only [if_neg e1, if_pos e2] at e; have := ((hold i (by omega)).2.2 b hb).2; have := hd.inn.lown c hc; omega
    · simp only [if_neg e1, if_neg e2] at e; exact h.inj4 i b j c (by omega) hb (by omega) hc e

end Go.Proofs.Ytnondiaefpdlpaa
