/-
  The second telling of nand: what New makes.
  The second telling of nand: how it lies in memory.
  The second telling of nand: there.
-/
import Derived.Test.YtnondiaefpdlpaaMg
import Derived.Test.YtnondiaefpdlpaaDk
namespace Go.Proofs.Ytnondiaefpdlpaa
open Go.RowKit Go.Shelf

/-- Blocks of these types, from M on, lie as they lay. -/
def Lie (ts : List TypeId) (M : Nat) (w w' : World) : Prop := ∀ (g : Nat) (cur : Array Value) (t : TypeId), M ≤ g → t ∈ ts → w.heap[g]? = some (.cells cur t (0, 0)) → w'.heap[g]? = some (.cells cur t (0, 0))
theorem Lie.of_below {ts : List TypeId} {M : Nat} {w w' : World} (h : Below w.heap.size w w') : Lie ts M w w' := fun g _ _ _ _ h1 => (h.block g (lt_of_block h1)).trans h1
theorem Lie.trans {ts : List TypeId} {M : Nat} {a b c : World} (h : Lie ts M a b) (k : Lie ts M b c) : Lie ts M a c := fun g cur t h1 h2 h3 => k g cur t h1 h2 (h g cur t h1 h2 h3)
theorem Lie.mono {ts us : List TypeId} {M N : Nat} {w w' : World} (h : Lie ts M w w') (hs : ∀ t ∈ us, t ∈ ts) (hn : M ≤ N) : Lie us N w w' := fun g cur t h1 h2 h3 => h g cur t (Nat.le_trans hn h1) (hs t h2) h3
theorem Lie.grown {ts : List TypeId} {M : Nat} {w w' : World} {row : Option Nat} (hg : w.grownBy w' row) (hr : ∀ k, row = some k → ∃ cur t, w.heap[k]? = some (.cells cur t (0, 0)) ∧ t ∉ ts) : Lie ts M w w' := fun g cur t _ h2 h3 => (hg.block g (lt_of_block h3) (fun e => by
    obtain ⟨c, t', h4, h5⟩ := hr g e.symm
    rw [h3] at h4
    cases h4
    exact h5 h2)).trans h3
theorem Lie.set {ts : List TypeId} {M : Nat} {w : World} {q j : Nat} {cur : Array Value} {t : TypeId} (v : Value) (h : w.heap[q]? = some (.cells cur t (0, 0))) (ht : t ∉ ts) : Lie ts M w (w.setCell ⟨q, j, none⟩ v) := fun g c t' _ h2 h3 => (Below.heap_setCell _ _ _ _ (fun e => by
    have e' : g = q := e
    subst e'
    rw [h] at h3
    cases h3
    exact ht h2)).trans h3
theorem RowC.lie {ts : List TypeId} {M : Nat} {w w' : World} {g n : Nat} {e : TypeId} {f : Nat → Value} (h : RowC w g e n f) (k : Lie ts M w w') (hg : M ≤ g) (he : e ∈ ts) : RowC w' g e n f := by
  obtain ⟨cur, h1, h2⟩ := h
  exact ⟨cur, k g cur e hg he h1, h2⟩
theorem RowB.lie {ts : List TypeId} {M : Nat} {w w' : World} {g n : Nat} {f : Nat → Nat → Value} (h : RowB w g n f) (k : Lie ts M w w') (hg : M ≤ g) (he : 80 ∈ ts) : RowB w' g n f := by
  obtain ⟨cur, h1, h2⟩ := h
  exact ⟨cur, k g cur _ hg he h1, h2⟩
theorem Fr.lie {ts : List TypeId} {M : Nat} {w w' : World} {v : Value} {s : List Nat} (h : Fr M w v s) (k : Lie ts M w w') (he : 5 ∈ ts) : Fr M w' v s := by
  rcases h with h | ⟨g, c, h1, h2, h3, ⟨cur, h4, h4'⟩, h5⟩
  · exact .inl h
  · exact .inr ⟨g, c, h1, h2, h3, ⟨cur, k g cur _ h5 he h4, h4'⟩, h5⟩
theorem OwnC.lie {ts : List TypeId} {M base : Nat} {w w' : World} {e : TypeId} {v : Value} {n : Nat} {f : Nat → Value} (h : OwnC base w e v n f) (k : Lie ts M w w') (hb : M ≤ base) (he : e ∈ ts) : OwnC base w' e v n f := h.keep (fun g cur h1 h2 => (k g cur e (Nat.le_trans hb h1) he h2).trans h2.symm)
theorem OwnB.lie {ts : List TypeId} {M base : Nat} {w w' : World} {v : Value} {n : Nat} {f : Nat → Nat → Value} (h : OwnB base w v n f) (k : Lie ts M w w') (hb : M ≤ base) (he : 80 ∈ ts) : OwnB base w' v n f := h.keep (fun g cur h1 h2 => (k g cur _ (Nat.le_trans hb h1) he h2).trans h2.symm)

def blk4 (g c P : Nat) (bad : Bool) : Nat → Value
  | 0 => .slice (some ⟨g, 0, none⟩) P c
  | 1 => .int .i64 0
  | 2 => .int .i64 0
  | _ => .bool bad

/-- The pages and the noise of b blocks. -/
structure InR (w : World) (M b P : Nat) (ps cp : Nat → Nat) (hv : Nat → Nat → Value) (ns : Nat → Nat) : Prop where
  pg : ∀ i, i < b → RowC w (ps i) 38 P (hv i)
  cap : ∀ i, i < b → P ≤ cp i ∧ cp i ≤ maxLen
  lowp : ∀ i, i < b → M ≤ ps i
  ng : ∀ i, i < b → RowC w (ns i) 24 P (fun _ => .slice none 0 0)
  lown : ∀ i, i < b → M ≤ ns i
  fr : ∀ i, i < b → ∀ p, p < P → Fr M w (hv i p) ones60
  injp : ∀ i j, i < b → j < b → ps i = ps j → i = j
  injn : ∀ i j, i < b → j < b → ns i = ns j → i = j
theorem InR.zero (w : World) (M P : Nat) (ps cp : Nat → Nat) (hv : Nat → Nat → Value) (ns : Nat → Nat) : InR w M 0 P ps cp hv ns :=
  ⟨fun _ h => by omega, fun _ h => by omega, fun _ h => by omega, fun _ h => by omega, fun _ h => by omega, fun _ h => by omega, fun _ _ h => by omega, fun _ _ h => by omega⟩
theorem InR.lie {ts : List TypeId} {w w' : World} {M b P : Nat} {ps cp : Nat → Nat} {hv : Nat → Nat → Value} {ns : Nat → Nat} (h : InR w M b P ps cp hv ns) (k : Lie ts M w w') (h1 : 38 ∈ ts) (h2 : 24 ∈ ts) (h3 : 5 ∈ ts) : InR w' M b P ps cp hv ns :=
  ⟨fun i hi => (h.pg i hi).lie k (h.lowp i hi) h1, h.cap, h.lowp, fun i hi => (h.ng i hi).lie k (h.lown i hi) h2, h.lown, fun i hi p hp => (h.fr i hi p hp).lie k h3, h.injp, h.injn⟩
theorem InR.add {w : World} {M b P X : Nat} {ps cp : Nat → Nat} {hv : Nat → Nat → Value} {ns : Nat → Nat} (h : InR w M b P ps cp hv ns) {g c n : Nat} {hw : Nat → Value} (h1 : RowC w g 38 P hw) (h2 : P ≤ c ∧ c ≤ maxLen) (h3 : RowC w n 24 P (fun _ => .slice none 0 0)) (h4 : ∀ p, p < P → Fr M w (hw p) ones60)
    (hX : M ≤ X) (hg : X ≤ g) (hn : X ≤ n) (hold : ∀ i, i < b → ps i < X ∧ ns i < X) :
    InR w M (b + 1) P (fun i => if i = b then g else ps i) (fun i => if i = b then c else cp i) (fun i => if i = b then hw else hv i) (fun i => if i = b then n else ns i) := by
  refine ⟨fun i hi => ?_, fun i hi => ?_, fun i hi => ?_, fun i hi => ?_, fun i hi => ?_, fun i hi p hp => ?_, fun i j hi hj e => ?_, fun i j hi hj e => ?_⟩
  · by_cases e : i = b
    · simp only [if_pos e]; exact h1
    · simp only [if_neg e]; exact h.pg i (by omega)
  · by_cases e : i = b
    · simp only [if_pos e]; exact h2
    · simp only [if_neg e]; exact h.cap i (by omega)
  · by_cases e : i = b
    · simp only [if_pos e]; omega
    · simp only [if_neg e]; exact h.lowp i (by omega)
  · by_cases e : i = b
    · simp only [if_pos e]; exact h3
    · simp only [if_neg e]; exact h.ng i (by omega)
  · by_cases e : i = b
    · simp only [if_pos e]; omega
    · simp only [if_neg e]; exact h.lown i (by omega)
  · by_cases e : i = b
    · simp only [if_pos e]; exact h4 p hp
    · simp only [if_neg e]; exact h.fr i (by omega) p hp
  · by_cases e1 : i = b <;> by_cases e2 : j = b
    · omega
    · simp only [if_pos e1, if_neg e2] at e; have := (hold j (by omega)).1; omega
    · simp only [if_neg e1, if_pos e2] at e; have := (hold i (by omega)).1; omega
    · simp only [if_neg e1, if_neg e2] at e; exact h.injp i j (by omega) (by omega) e
  · by_cases e1 : i = b <;> by_cases e2 : j = b
    · omega
    · simp only [if_pos e1, if_neg e2] at e; have := (hold j (by omega)).2; omega
    · simp only [if_neg e1, if_pos e2] at e; have := (hold i (by omega)).2; omega
    · simp only [if_neg e1, if_neg e2] at e; exact h.injn i j (by omega) (by omega) e

/-- Where a die's parts lie. -/
structure Ld where
  bs : Nat
  cb : Nat
  ls : Nat
  cl : Nat
  ps : Nat → Nat
  cp : Nat → Nat
  hv : Nat → Nat → Value
  ns : Nat → Nat
  bd : Nat → Bool
/-- A die. -/
structure DieR (w : World) (M B P : Nat) (d : Ld) : Prop where
  bk : RowB w d.bs B (fun i => blk4 (d.ps i) (d.cp i) P (d.bd i))
  lk : RowC w d.ls 82 B (fun i => .slice (some ⟨d.ns i, 0, none⟩) P P)
  cb : B ≤ d.cb ∧ d.cb ≤ maxLen
  cl : B ≤ d.cl ∧ d.cl ≤ maxLen
  lb : M ≤ d.bs
  ll : M ≤ d.ls
  inn : InR w M B P d.ps d.cp d.hv d.ns
theorem DieR.lie {ts : List TypeId} {w w' : World} {M B P : Nat} {d : Ld} (h : DieR w M B P d) (k : Lie ts M w w') (h1 : 38 ∈ ts) (h2 : 24 ∈ ts) (h3 : 5 ∈ ts) (h4 : 80 ∈ ts) (h5 : 82 ∈ ts) : DieR w' M B P d :=
  ⟨h.bk.lie k h.lb h4, h.lk.lie k h.ll h5, h.cb, h.cl, h.lb, h.ll, h.inn.lie k h1 h2 h3⟩
theorem InR.low {w : World} {M N b P : Nat} {ps cp : Nat → Nat} {hv : Nat → Nat → Value} {ns : Nat → Nat} (h : InR w M b P ps cp hv ns) (hm : N ≤ M) : InR w N b P ps cp hv ns :=
  ⟨h.pg, h.cap, fun i hi => Nat.le_trans hm (h.lowp i hi), h.ng, fun i hi => Nat.le_trans hm (h.lown i hi), fun i hi p hp => (h.fr i hi p hp).below (Below.refl _ _) hm, h.injp, h.injn⟩
theorem DieR.low {w : World} {M N B P : Nat} {d : Ld} (h : DieR w M B P d) (hm : N ≤ M) : DieR w N B P d := ⟨h.bk, h.lk, h.cb, h.cl, Nat.le_trans hm h.lb, Nat.le_trans hm h.ll, h.inn.low hm⟩

/-- Some dies. -/
structure AllR (w : World) (M n B P : Nat) (D : Nat → Ld) : Prop where
  die : ∀ i, i < n → DieR w M B P (D i)
  inj1 : ∀ i j, i < n → j < n → (D i).bs = (D j).bs → i = j
  inj2 : ∀ i j, i < n → j < n → (D i).ls = (D j).ls → i = j
  inj3 : ∀ i b j c, i < n → b < B → j < n → c < B → (D i).ps b = (D j).ps c → i = j ∧ b = c
  inj4 : ∀ i b j c, i < n → b < B → j < n → c < B → (D i).ns b = (D j).ns c → i = j ∧ b = c
theorem AllR.zero (w : World) (M B P : Nat) (D : Nat → Ld) : AllR w M 0 B P D := ⟨fun _ h => by omega, fun _ _ h => by omega, fun _ _ h => by omega, fun _ _ _ _ h => by omega, fun _ _ _ _ h => by omega⟩
theorem AllR.lie {ts : List TypeId} {w w' : World} {M n B P : Nat} {D : Nat → Ld} (h : AllR w M n B P D) (k : Lie ts M w w') (h1 : 38 ∈ ts) (h2 : 24 ∈ ts) (h3 : 5 ∈ ts) (h4 : 80 ∈ ts) (h5 : 82 ∈ ts) : AllR w' M n B P D :=
  ⟨fun i hi => (h.die i hi).lie k h1 h2 h3 h4 h5, h.inj1, h.inj2, h.inj3, h.inj4⟩
/-- All of it lies ahead of X. -/
theorem AllR.lt {w : World} {M n B P : Nat} {D : Nat → Ld} (h : AllR w M n B P D) {i : Nat} (hi : i < n) : (D i).bs < w.heap.size ∧ (D i).ls < w.heap.size ∧ ∀ b, b < B → (D i).ps b < w.heap.size ∧ (D i).ns b < w.heap.size :=
  ⟨(h.die i hi).bk.lt, (h.die i hi).lk.lt, fun b hb => ⟨((h.die i hi).inn.pg b hb).lt, ((h.die i hi).inn.ng b hb).lt⟩⟩
theorem AllR.add {w : World} {M n B P X : Nat} {D : Nat → Ld} (h : AllR w M n B P D) {d : Ld} (hd : DieR w X B P d) (hX : M ≤ X) (hold : ∀ i, i < n → (D i).bs < X ∧ (D i).ls < X ∧ ∀ b, b < B → (D i).ps b < X ∧ (D i).ns b < X) : AllR w M (n + 1) B P (fun i => if i = n then d else D i) := by
  refine ⟨fun i hi => ?_, fun i j hi hj e => ?_, fun i j hi hj e => ?_, fun i b j c hi hb hj hc e => ?_, fun i b j c hi hb hj hc e => ?_⟩
  · by_cases e : i = n
    · simp only [if_pos e]; exact hd.low hX
    · simp only [if_neg e]; exact h.die i (by omega)
  · by_cases e1 : i = n <;> by_cases e2 : j = n
    · omega
    · simp only [if_pos e1, if_neg e2] at e; have := (hold j (by omega)).1; have := hd.lb; omega
    · simp only [if_neg e1, if_pos e2] at e; have := (hold i (by omega)).1; have := hd.lb; omega
    · simp only [if_neg e1, if_neg e2] at e; exact h.inj1 i j (by omega) (by omega) e
  · by_cases e1 : i = n <;> by_cases e2 : j = n
    · omega
    · simp only [if_pos e1, if_neg e2] at e; have := (hold j (by omega)).2.1; have := hd.ll; omega
    · simp only [if_neg e1, if_pos e2] at e; have := (hold i (by omega)).2.1; have := hd.ll; omega
    · simp only [if_neg e1, if_neg e2] at e; exact h.inj2 i j (by omega) (by omega) e
  · by_cases e1 : i = n <;> by_cases e2 : j = n
    · simp only [if_pos e1, if_pos e2] at e; exact ⟨by omega, hd.inn.injp b c hb hc e⟩
    · simp only [if_pos e1, if_neg e2] at e; have := ((hold j (by omega)).2.2 c hc).1; have := hd.inn.lowp b hb; omega
    · simp only [if_neg e1, if_pos e2] at e; have := ((hold i (by omega)).2.2 b hb).1; have := hd.inn.lowp c hc; omega
    · simp only [if_neg e1, if_neg e2] at e; exact h.inj3 i b j c (by omega) hb (by omega) hc e
  · by_cases e1 : i = n <;> by_cases e2 : j = n
    · simp only [if_pos e1, if_pos e2] at e; exact ⟨by omega, hd.inn.injn b c hb hc e⟩
    · simp only [if_pos e1, if_neg e2] at e; have := ((hold j (by omega)).2.2 c hc).2; have := hd.inn.lown b hb; omega
    · simp only [if_neg e1, if_pos e2] at e; have := ((hold i (by omega)).2.2 b hb).2; have := hd.inn.lown c hc; omega
    · simp only [if_neg e1, if_neg e2] at e; exact h.inj4 i b j c (by omega) hb (by omega) hc e

end Go.Proofs.Ytnondiaefpdlpaa

namespace Go.Proofs.Ytnondiaefpdlpaa
open Go.RowKit Go.Shelf

/-- A row of ints of one's own. -/
def FrZ (w : World) (v : Value) (zs : List Int) : Prop :=
  (zs = [] ∧ v = .slice none 0 0) ∨ ∃ g c, v = .slice (some ⟨g, 0, none⟩) zs.length c ∧ zs.length ≤ c ∧ c ≤ maxLen ∧ RowC w g 3 zs.length (fun j => .int .i64 (zs.getD j 0))
theorem FrZ.nil (w : World) : FrZ w (.slice none 0 0) [] := .inl ⟨rfl, rfl⟩
theorem FrZ.lie {ts : List TypeId} {w w' : World} {v : Value} {zs : List Int} (h : FrZ w v zs) (k : Lie ts 0 w w') (he : 3 ∈ ts) : FrZ w' v zs := by
  rcases h with h | ⟨g, c, h1, h2, h3, h4⟩
  · exact .inl h
  · exact .inr ⟨g, c, h1, h2, h3, h4.lie k (Nat.zero_le _) he⟩
theorem FrZ.zarg {w : World} {v : Value} {zs : List Int} (h : FrZ w v zs) (hb : ∀ z ∈ zs, -9223372036854775808 ≤ z ∧ z ≤ 9223372036854775807) : ∃ g, ZArg w v g zs := by
  rcases h with ⟨h1, h2⟩ | ⟨g, c, h1, h2, h3, h4⟩
  · subst h1; exact ⟨0, ⟨none, 0, h2, by simp, by unfold maxLen; omega, fun _ => rfl, .inl rfl⟩, hb⟩
  · exact ⟨g, ⟨some ⟨g, 0, none⟩, c, h1, h2, h3, fun h => (by cases h), .inr ⟨0, rfl, fun j hj => by rw [Nat.zero_add]; exact h4.cell hj⟩⟩, hb⟩
theorem FrZ.shape {w : World} {v : Value} {zs : List Int} (h : FrZ w v zs) : ∃ o n c, v = .slice o n c := by
  rcases h with ⟨_, h⟩ | ⟨g, c, h, _⟩
  · exact ⟨_, _, _, h⟩
  · exact ⟨_, _, _, h⟩

/-- Where its parts lie. -/
structure Lr where
  n : Nat
  gb : Nat
  xb : Nat
  gl : Nat
  xl : Nat
  bs : Nat → Nat
  cb : Nat → Nat
  ls : Nat → Nat
  cl : Nat → Nat
  ps : Nat → Nat → Nat
  cp : Nat → Nat → Nat
  ns : Nat → Nat → Nat
  hv : Nat → Nat → Nat → Value
  nv : Nat → Nat → Nat → Value
  mv : Value

def topR (L : Lr) (s : Nd) : Array Value := #[.int .i64 s.D, .int .i64 s.B, .int .i64 s.P, .slice (some ⟨L.gb, 0, none⟩) s.D L.xb, .slice (some ⟨L.gl, 0, none⟩) s.D L.xl, .int .i64 s.left, L.mv, .bool s.dead, .int .i64 s.ops, .int .i64 s.wrong]
def blkR (L : Lr) (s : Nd) (d b : Nat) : Nat → Value
  | 0 => .slice (some ⟨L.ps d b, 0, none⟩) s.P (L.cp d b)
  | 1 => .int .i64 (s.next d b : Nat)
  | 2 => .int .i64 (s.era d b)
  | _ => .bool (s.bad d b)

/-- The second telling lies in memory, from block m on. -/
structure RA (m : Nat) (w : World) (L : Lr) (s : Nd) : Prop where
  ok : s.Ok
  top : w.heap[L.n]? = some (.cells (topR L s) 75 (0, 0))
  rb : RowC w L.gb 76 s.D (fun d => .slice (some ⟨L.bs d, 0, none⟩) s.B (L.cb d))
  rl : RowC w L.gl 77 s.D (fun d => .slice (some ⟨L.ls d, 0, none⟩) s.B (L.cl d))
  blocks : ∀ d, d < s.D → RowB w (L.bs d) s.B (blkR L s d)
  lk : ∀ d, d < s.D → RowC w (L.ls d) 82 s.B (fun b => .slice (some ⟨L.ns d b, 0, none⟩) s.P s.P)
  pg : ∀ d b, d < s.D → b < s.B → RowC w (L.ps d b) 38 s.P (L.hv d b)
  ng : ∀ d b, d < s.D → b < s.B → RowC w (L.ns d b) 24 s.P (L.nv d b)
  hold : ∀ d b p, d < s.D → b < s.B → p < s.P → Fr 0 w (L.hv d b p) (s.held d b p)
  nois : ∀ d b p, d < s.D → b < s.B → p < s.P → FrZ w (L.nv d b p) (s.noise d b p) ∧ ∀ z ∈ s.noise d b p, -9223372036854775808 ≤ z ∧ z ≤ 9223372036854775807
  msk : Fr 0 w L.mv s.mask ∧ Bs s.mask
  xb : s.D ≤ L.xb ∧ L.xb ≤ maxLen
  xl : s.D ≤ L.xl ∧ L.xl ≤ maxLen
  cb : ∀ d, d < s.D → s.B ≤ L.cb d ∧ L.cb d ≤ maxLen
  cl : ∀ d, d < s.D → s.B ≤ L.cl d ∧ L.cl d ≤ maxLen
  cp : ∀ d b, d < s.D → b < s.B → s.P ≤ L.cp d b ∧ L.cp d b ≤ maxLen
  inj1 : ∀ d d', d < s.D → d' < s.D → L.bs d = L.bs d' → d = d'
  inj3 : ∀ d b d' b', d < s.D → b < s.B → d' < s.D → b' < s.B → L.ps d b = L.ps d' b' → d = d' ∧ b = b'
  inj4 : ∀ d b d' b', d < s.D → b < s.B → d' < s.D → b' < s.B → L.ns d b = L.ns d' b' → d = d' ∧ b = b'
  low0 : m ≤ L.n
  low1 : ∀ d, d < s.D → m ≤ L.bs d
  low2 : ∀ d b, d < s.D → b < s.B → m ≤ L.ps d b
  low3 : ∀ d b, d < s.D → b < s.B → m ≤ L.ns d b

def refT : List TypeId := [75, 76, 77, 80, 82, 38, 24, 5, 3]
theorem RA.lie {m : Nat} {w w' : World} {L : Lr} {s : Nd} (h : RA m w L s) (k : Lie refT 0 w w') : RA m w' L s where
  ok := h.ok
  top := k _ _ _ (Nat.zero_le _) (by decide) h.top
  rb := h.rb.lie k (Nat.zero_le _) (by decide)
  rl := h.rl.lie k (Nat.zero_le _) (by decide)
  blocks := fun d hd => (h.blocks d hd).lie k (Nat.zero_le _) (by decide)
  lk := fun d hd => (h.lk d hd).lie k (Nat.zero_le _) (by decide)
  pg := fun d b hd hb => (h.pg d b hd hb).lie k (Nat.zero_le _) (by decide)
  ng := fun d b hd hb => (h.ng d b hd hb).lie k (Nat.zero_le _) (by decide)
  hold := fun d b p hd hb hp => (h.hold d b p hd hb hp).lie k (by decide)
  nois := fun d b p hd hb hp => ⟨(h.nois d b p hd hb hp).1.lie k (by decide), (h.nois d b p hd hb hp).2⟩
  msk := ⟨h.msk.1.lie k (by decide), h.msk.2⟩
  xb := h.xb
  xl := h.xl
  cb := h.cb
  cl := h.cl
  cp := h.cp
  inj1 := h.inj1
  inj3 := h.inj3
  inj4 := h.inj4
  low0 := h.low0
  low1 := h.low1
  low2 := h.low2
  low3 := h.low3
theorem RA.below {m : Nat} {w w' : World} {L : Lr} {s : Nd} (h : RA m w L s) (k : Below w.heap.size w w') : RA m w' L s := h.lie (.of_below k)
theorem RA.kn {m n : Nat} {w w' : World} {L : Lr} {s : Nd} (h : RA m w L s) (k : Kn n w w') : RA m w' L s := h.lie (fun g cur t _ ht h1 => k.oth g _ h1 (by
    have : ∀ t ∈ refT, mine t = false := by decide
    exact this t ht))
theorem RA.n_lt {m : Nat} {w : World} {L : Lr} {s : Nd} (h : RA m w L s) : m < w.heap.size := by have := lt_of_block h.top; have := h.low0; omega

/-- Below m all lies as it lay; and so does what is not of the four types that are written. -/
def mineR (t : TypeId) : Bool := t == 75 || t == 80 || t == 38 || t == 24
structure Kr (m : Nat) (w w' : World) : Prop where
  os : w'.os = w.os
  tape : w'.tape = w.tape
  output : w'.output = w.output
  size : w.heap.size ≤ w'.heap.size
  low : ∀ k : Nat, k < m → w'.heap[k]? = w.heap[k]?
  oth : ∀ (k : Nat) (cur : Array Value) (t : TypeId), mineR t = false → w.heap[k]? = some (.cells cur t (0, 0)) → w'.heap[k]? = some (.cells cur t (0, 0))
theorem Kr.refl (m : Nat) (w : World) : Kr m w w := ⟨rfl, rfl, rfl, Nat.le_refl _, fun _ _ => rfl, fun _ _ _ _ h => h⟩
theorem Kr.trans {m : Nat} {a b c : World} (h : Kr m a b) (k : Kr m b c) : Kr m a c :=
  ⟨k.os.trans h.os, k.tape.trans h.tape, k.output.trans h.output, Nat.le_trans h.size k.size, fun i hi => (k.low i hi).trans (h.low i hi), fun i o t h1 h2 => k.oth i o t h1 (h.oth i o t h1 h2)⟩
theorem Kr.of_below {m : Nat} {a b : World} (h : Below a.heap.size a b) (hm : m ≤ a.heap.size) : Kr m a b :=
  ⟨h.os, h.tape, h.output, h.size, fun k hk => h.block k (by omega), fun k _ _ _ h1 => (h.block k (lt_of_block h1)).trans h1⟩
theorem Kr.below {m : Nat} {a b : World} (h : Kr m a b) : Below m a b := ⟨h.os, h.tape, h.output, h.size, h.low⟩
theorem Kr.drew {m : Nat} {a b : World} (h : Kr m a b) : Kr m a b.drew := ⟨h.os, h.tape, h.output, h.size, h.low, h.oth⟩
theorem Kr.set {m : Nat} (w : World) {q j : Nat} {cur : Array Value} {t : TypeId} (v : Value) (hq : m ≤ q) (h : w.heap[q]? = some (.cells cur t (0, 0))) (ht : mineR t = true) : Kr m w (w.setCell ⟨q, j, none⟩ v) :=
  ⟨rfl, rfl, rfl, by simp [World.setCell], fun k hk => Below.heap_setCell _ _ _ _ (by show k ≠ q; omega), fun k c t' h2 h1 => (Below.heap_setCell _ _ _ _ (fun e => by
    have e' : k = q := e
    subst e'
    rw [h] at h1
    cases h1
    rw [ht] at h2
    cases h2)).trans h1⟩
theorem Kr.lie {m M : Nat} {w w' : World} (k : Kr m w w') : Lie [5, 3] M w w' := fun g cur t _ ht h1 => k.oth g cur t (by
    have : ∀ t ∈ [5, 3], mineR t = false := by decide
    exact this t ht) h1
theorem NA.kr {m n : Nat} {w w' : World} {L : La} {s : Nd} (h : NA m w L s) (k : Kr n w w') : NA m w' L s where
  ok := h.ok
  top := k.oth _ _ _ (by decide) h.top
  dies := by obtain ⟨cur, h1, h2⟩ := h.dies; exact ⟨cur, k.oth _ _ _ (by decide) h1, h2⟩
  blocks := fun d hd => by obtain ⟨cur, h1, h2⟩ := h.blocks d hd; exact ⟨cur, k.oth _ _ _ (by decide) h1, h2⟩
  pages := fun d b hd hb => by obtain ⟨cur, h1, h2⟩ := h.pages d b hd hb; exact ⟨cur, k.oth _ _ _ (by decide) h1, h2⟩
  hold := fun d b p hd hb hp => (h.hold d b p hd hb hp).lie k.lie (by decide)
  nois := fun d b p hd hb hp => by
    obtain ⟨l, h1, h2, h3⟩ := h.nois d b p hd hb hp
    refine ⟨l, ⟨h1.1, ?_⟩, h2, h3⟩
    rcases h1.2 with h' | ⟨g, cap, cur, h1, h2, h3, h4⟩
    · exact .inl h'
    · exact .inr ⟨g, cap, cur, h1, h2, k.oth _ _ _ (by decide) h3, h4⟩
  msk := by obtain ⟨t, h1, h2, h3, h4⟩ := h.msk; exact ⟨t, h1.lie k.lie (by decide), h2, h3, h4⟩
  inj1 := h.inj1
  inj2 := h.inj2
  low0 := h.low0
  low1 := h.low1
  low2 := h.low2
  low3 := h.low3

/-- A cell of the top is written anew. -/
theorem RA.tset {m : Nat} {w : World} {L : Lr} {s : Nd} (h : RA m w L s) (j : Nat) (v : Value) (dead : Bool) (left : Nat) (mask : List Nat) (ops wrong : Int) (mv : Value)
    (he : (topR L s).setIfInBounds j v = topR { L with mv } { s with dead, left, mask, ops, wrong }) (hl : left ≤ 9223372036854775807) (hm : Fr 0 w mv mask ∧ Bs mask) :
    RA m (w.setCell ⟨L.n, j, none⟩ v) { L with mv } { s with dead, left, mask, ops, wrong } ∧ Kr m w (w.setCell ⟨L.n, j, none⟩ v) := by
  have k : Lie [76, 77, 80, 82, 38, 24, 5, 3] 0 w (w.setCell ⟨L.n, j, none⟩ v) := Lie.set v h.top (by decide)
  refine ⟨?_, Kr.set w v h.low0 h.top (by decide)⟩
  exact
  { ok := ⟨h.ok.d, h.ok.b, h.ok.p, h.ok.len, h.ok.bs, h.ok.nx, hl⟩
    top := by rw [← he]; exact heap_setCell_same w _ _ _ _ _ h.top
    rb := h.rb.lie k (Nat.zero_le _) (by decide)
    rl := h.rl.lie k (Nat.zero_le _) (by decide)
    blocks := fun d hd => (h.blocks d hd).lie k (Nat.zero_le _) (by decide)
    lk := fun d hd => (h.lk d hd).lie k (Nat.zero_le _) (by decide)
    pg := fun d b hd hb => (h.pg d b hd hb).lie k (Nat.zero_le _) (by decide)
    ng := fun d b hd hb => (h.ng d b hd hb).lie k (Nat.zero_le _) (by decide)
    hold := fun d b p hd hb hp => (h.hold d b p hd hb hp).lie k (by decide)
    nois := fun d b p hd hb hp => ⟨(h.nois d b p hd hb hp).1.lie k (by decide), (h.nois d b p hd hb hp).2⟩
    msk := ⟨hm.1.lie k (by decide), hm.2⟩
    xb := h.xb
    xl := h.xl
    cb := h.cb
    cl := h.cl
    cp := h.cp
    inj1 := h.inj1
    inj3 := h.inj3
    inj4 := h.inj4
    low0 := h.low0
    low1 := h.low1
    low2 := h.low2
    low3 := h.low3 }
theorem RA.setWrong {m : Nat} {w : World} {L : Lr} {s : Nd} (h : RA m w L s) (z : Int) : RA m (w.setCell ⟨L.n, 9, none⟩ (.int .i64 z)) L { s with wrong := z } ∧ Kr m w (w.setCell ⟨L.n, 9, none⟩ (.int .i64 z)) := h.tset 9 _ s.dead s.left s.mask s.ops z L.mv rfl h.ok.lf h.msk
theorem RA.setOps {m : Nat} {w : World} {L : Lr} {s : Nd} (h : RA m w L s) (z : Int) : RA m (w.setCell ⟨L.n, 8, none⟩ (.int .i64 z)) L { s with ops := z } ∧ Kr m w (w.setCell ⟨L.n, 8, none⟩ (.int .i64 z)) := h.tset 8 _ s.dead s.left s.mask z s.wrong L.mv rfl h.ok.lf h.msk
theorem RA.setDead {m : Nat} {w : World} {L : Lr} {s : Nd} (h : RA m w L s) (z : Bool) : RA m (w.setCell ⟨L.n, 7, none⟩ (.bool z)) L { s with dead := z } ∧ Kr m w (w.setCell ⟨L.n, 7, none⟩ (.bool z)) := h.tset 7 _ z s.left s.mask s.ops s.wrong L.mv rfl h.ok.lf h.msk
theorem RA.setLeft {m : Nat} {w : World} {L : Lr} {s : Nd} (h : RA m w L s) (z : Nat) (hz : z ≤ 9223372036854775807) : RA m (w.setCell ⟨L.n, 5, none⟩ (.int .i64 (z : Int))) L { s with left := z } ∧ Kr m w (w.setCell ⟨L.n, 5, none⟩ (.int .i64 (z : Int))) := h.tset 5 _ s.dead z s.mask s.ops s.wrong L.mv rfl hz h.msk
theorem RA.setMask {m : Nat} {w : World} {L : Lr} {s : Nd} (h : RA m w L s) (v : Value) (mask : List Nat) (hm : Fr 0 w v mask ∧ Bs mask) : RA m (w.setCell ⟨L.n, 6, none⟩ v) { L with mv := v } { s with mask } ∧ Kr m w (w.setCell ⟨L.n, 6, none⟩ v) := h.tset 6 _ s.dead s.left mask s.ops s.wrong v rfl h.ok.lf hm

theorem RowB.set {w : World} {g n : Nat} {f : Nat → Nat → Value} (h : RowB w g n f) {b i : Nat} (hb : b < n) (hi : i < 4) (v : Value) : RowB (w.setCell ⟨g, b * 4 + i, none⟩ v) g n (fun b' j => if b' = b ∧ j = i then v else f b' j) := by
  obtain ⟨cur, h1, h2⟩ := h
  refine ⟨_, heap_setCell_same w _ _ _ _ _ h1, fun b' hb' j hj => ?_⟩
  have hsz : b * 4 + i < cur.size := (Array.getElem?_eq_some_iff.1 (h2 b hb i hi)).1
  rw [Array.getElem?_setIfInBounds]
  by_cases e2 : b' = b ∧ j = i
  · obtain ⟨rfl, rfl⟩ := e2
    rw [if_pos rfl, if_pos hsz]; simp
  · rw [if_neg (by omega)]; simp only [if_neg e2]
    exact h2 b' hb' j hj
theorem RowB.eq {w : World} {g n : Nat} {f f' : Nat → Nat → Value} (h : RowB w g n f) (he : ∀ b, b < n → ∀ j, j < 4 → f b j = f' b j) : RowB w g n f' := by
  obtain ⟨cur, h1, h2⟩ := h
  exact ⟨cur, h1, fun i hi j hj => by rw [← he i hi j hj]; exact h2 i hi j hj⟩
theorem RowC.eq {w : World} {g n : Nat} {e : TypeId} {f f' : Nat → Value} (h : RowC w g e n f) (he : ∀ b, b < n → f b = f' b) : RowC w g e n f' := by
  obtain ⟨cur, h1, h2⟩ := h
  exact ⟨cur, h1, fun i hi => by rw [← he i hi]; exact h2 i hi⟩
theorem RowB.cell {w : World} {g n : Nat} {f : Nat → Nat → Value} (h : RowB w g n f) {b j : Nat} (hb : b < n) (hj : j < 4) : w.cell? ⟨g, b * 4 + j, none⟩ = some (f b j) := by
  obtain ⟨cur, h1, h2⟩ := h
  exact cell_blk h1 (h2 b hb j hj)
theorem RowB.free {w : World} {g n : Nat} {f : Nat → Nat → Value} (h : RowB w g n f) (i : Nat) : w.frozen? ⟨g, i, none⟩ = false := by
  obtain ⟨cur, h1, h2⟩ := h
  exact free_blk h1

/-- A cell of a block's state is written anew. -/
theorem RA.setB {m : Nat} {w : World} {L : Lr} {s : Nd} (h : RA m w L s) {d b i : Nat} (hd : d < s.D) (hb : b < s.B) (hi : i < 4) (v : Value) (bad : Nat → Nat → Bool) (next : Nat → Nat → Nat) (era : Nat → Nat → Int)
    (hnx : ∀ d b, next d b ≤ s.P)
    (hnew : ∀ d' b' j, d' < s.D → b' < s.B → j < 4 → blkR L { s with bad, next, era } d' b' j = if d' = d ∧ b' = b ∧ j = i then v else blkR L s d' b' j) :
    RA m (w.setCell ⟨L.bs d, b * 4 + i, none⟩ v) L { s with bad, next, era } ∧ Kr m w (w.setCell ⟨L.bs d, b * 4 + i, none⟩ v) := by
  obtain ⟨cb, hcb, hcb2⟩ := h.blocks d hd
  have k : Lie [75, 76, 77, 82, 38, 24, 5, 3] 0 w (w.setCell ⟨L.bs d, b * 4 + i, none⟩ v) := Lie.set v hcb (by decide)
  refine ⟨?_, Kr.set w v (h.low1 d hd) hcb (by decide)⟩
  exact
  { ok := ⟨h.ok.d, h.ok.b, h.ok.p, h.ok.len, h.ok.bs, hnx, h.ok.lf⟩
    top := k _ _ _ (Nat.zero_le _) (by decide) h.top
    rb := h.rb.lie k (Nat.zero_le _) (by decide)
    rl := h.rl.lie k (Nat.zero_le _) (by decide)
    blocks := fun d' hd' => by
      by_cases e : d' = d
      · subst e
        refine ((h.blocks d' hd').set hb hi v).eq (fun b' hb' j hj => ?_)
        rw [hnew d' b' j hd hb' hj]
        by_cases e2 : b' = b ∧ j = i
        · rw [if_pos e2, if_pos ⟨rfl, e2⟩]
        · rw [if_neg e2, if_neg (fun x => e2 x.2)]
      · refine ((h.blocks d' hd').of (Below.heap_setCell _ _ _ _ (fun e2 => e (h.inj1 _ _ hd' hd e2)))).eq (fun b' hb' j hj => ?_)
        rw [hnew d' b' j hd' hb' hj, if_neg (fun h => e h.1)]
    lk := fun d hd => (h.lk d hd).lie k (Nat.zero_le _) (by decide)
    pg := fun d b hd hb => (h.pg d b hd hb).lie k (Nat.zero_le _) (by decide)
    ng := fun d b hd hb => (h.ng d b hd hb).lie k (Nat.zero_le _) (by decide)
    hold := fun d b p hd hb hp => (h.hold d b p hd hb hp).lie k (by decide)
    nois := fun d b p hd hb hp => ⟨(h.nois d b p hd hb hp).1.lie k (by decide), (h.nois d b p hd hb hp).2⟩
    msk := ⟨h.msk.1.lie k (by decide), h.msk.2⟩
    xb := h.xb
    xl := h.xl
    cb := h.cb
    cl := h.cl
    cp := h.cp
    inj1 := h.inj1
    inj3 := h.inj3
    inj4 := h.inj4
    low0 := h.low0
    low1 := h.low1
    low2 := h.low2
    low3 := h.low3 }

/-- A page's bytes are others. -/
theorem RA.setP {m : Nat} {w : World} {L : Lr} {s : Nd} (h : RA m w L s) {d b p : Nat} (hd : d < s.D) (hb : b < s.B) (hp : p < s.P) (v : Value) (x : List Nat) (hF : Fr 0 w v x) (hl : x.length = 60) (hbs : Bs x) :
    RA m (w.setCell ⟨L.ps d b, p, none⟩ v) { L with hv := put3 L.hv d b p v } { s with held := put3 s.held d b p x } ∧ Kr m w (w.setCell ⟨L.ps d b, p, none⟩ v) := by
  obtain ⟨cp, hcp, hcp2⟩ := h.pg d b hd hb
  have k : Lie [75, 76, 77, 80, 82, 24, 5, 3] 0 w (w.setCell ⟨L.ps d b, p, none⟩ v) := Lie.set v hcp (by decide)
  refine ⟨?_, Kr.set w v (h.low2 d b hd hb) hcp (by decide)⟩
  exact
  { ok := ⟨h.ok.d, h.ok.b, h.ok.p, fun d' b' p' => by
        show (put3 s.held d b p x d' b' p').length = 60
        unfold put3
        by_cases e : d' = d ∧ b' = b ∧ p' = p
        · rw [if_pos e]; exact hl
        · rw [if_neg e]; exact h.ok.len d' b' p', fun d' b' p' => by
        show Bs (put3 s.held d b p x d' b' p')
        unfold put3
        by_cases e : d' = d ∧ b' = b ∧ p' = p
        · rw [if_pos e]; exact hbs
        · rw [if_neg e]; exact h.ok.bs d' b' p', h.ok.nx, h.ok.lf⟩
    top := k _ _ _ (Nat.zero_le _) (by decide) h.top
    rb := h.rb.lie k (Nat.zero_le _) (by decide)
    rl := h.rl.lie k (Nat.zero_le _) (by decide)
    blocks := fun d hd => (h.blocks d hd).lie k (Nat.zero_le _) (by decide)
    lk := fun d hd => (h.lk d hd).lie k (Nat.zero_le _) (by decide)
    pg := fun d' b' hd' hb' => by
      by_cases e : d' = d ∧ b' = b
      · obtain ⟨rfl, rfl⟩ := e
        refine ((h.pg d' b' hd' hb').set hp v).eq (fun p' _ => ?_)
        show _ = put3 L.hv d' b' p v d' b' p'
        unfold put3
        by_cases e : p' = p
        · rw [if_pos e, if_pos ⟨rfl, rfl, e⟩]
        · rw [if_neg e, if_neg (fun h => e h.2.2)]
      · refine ((h.pg d' b' hd' hb').of (Below.heap_setCell _ _ _ _ (fun e2 => e (h.inj3 _ _ _ _ hd' hb' hd hb e2)))).eq (fun p' _ => ?_)
        show _ = put3 L.hv d b p v d' b' p'
        unfold put3
        rw [if_neg (fun h => e ⟨h.1, h.2.1⟩)]
    ng := fun d b hd hb => (h.ng d b hd hb).lie k (Nat.zero_le _) (by decide)
    hold := fun d' b' p' hd' hb' hp' => by
      show Fr 0 _ (put3 L.hv d b p v d' b' p') (put3 s.held d b p x d' b' p')
      unfold put3
      by_cases e : d' = d ∧ b' = b ∧ p' = p
      · rw [if_pos e, if_pos e]; exact hF.lie k (by decide)
      · rw [if_neg e, if_neg e]; exact (h.hold d' b' p' hd' hb' hp').lie k (by decide)
    nois := fun d b p hd hb hp => ⟨(h.nois d b p hd hb hp).1.lie k (by decide), (h.nois d b p hd hb hp).2⟩
    msk := ⟨h.msk.1.lie k (by decide), h.msk.2⟩
    xb := h.xb
    xl := h.xl
    cb := h.cb
    cl := h.cl
    cp := h.cp
    inj1 := h.inj1
    inj3 := h.inj3
    inj4 := h.inj4
    low0 := h.low0
    low1 := h.low1
    low2 := h.low2
    low3 := h.low3 }

/-- A page's noise is another one. -/
theorem RA.setN {m : Nat} {w : World} {L : Lr} {s : Nd} (h : RA m w L s) {d b p : Nat} (hd : d < s.D) (hb : b < s.B) (hp : p < s.P) (v : Value) (x : List Int) (hF : FrZ w v x) (hx : ∀ z ∈ x, -9223372036854775808 ≤ z ∧ z ≤ 9223372036854775807) :
    RA m (w.setCell ⟨L.ns d b, p, none⟩ v) { L with nv := put3 L.nv d b p v } { s with noise := put3 s.noise d b p x } ∧ Kr m w (w.setCell ⟨L.ns d b, p, none⟩ v) := by
  obtain ⟨cp, hcp, hcp2⟩ := h.ng d b hd hb
  have k : Lie [75, 76, 77, 80, 82, 38, 5, 3] 0 w (w.setCell ⟨L.ns d b, p, none⟩ v) := Lie.set v hcp (by decide)
  refine ⟨?_, Kr.set w v (h.low3 d b hd hb) hcp (by decide)⟩
  exact
  { ok := ⟨h.ok.d, h.ok.b, h.ok.p, h.ok.len, h.ok.bs, h.ok.nx, h.ok.lf⟩
    top := k _ _ _ (Nat.zero_le _) (by decide) h.top
    rb := h.rb.lie k (Nat.zero_le _) (by decide)
    rl := h.rl.lie k (Nat.zero_le _) (by decide)
    blocks := fun d hd => (h.blocks d hd).lie k (Nat.zero_le _) (by decide)
    lk := fun d hd => (h.lk d hd).lie k (Nat.zero_le _) (by decide)
    pg := fun d b hd hb => (h.pg d b hd hb).lie k (Nat.zero_le _) (by decide)
    ng := fun d' b' hd' hb' => by
      by_cases e : d' = d ∧ b' = b
      · obtain ⟨rfl, rfl⟩ := e
        refine ((h.ng d' b' hd' hb').set hp v).eq (fun p' _ => ?_)
        show _ = put3 L.nv d' b' p v d' b' p'
        unfold put3
        by_cases e : p' = p
        · rw [if_pos e, if_pos ⟨rfl, rfl, e⟩]
        · rw [if_neg e, if_neg (fun h => e h.2.2)]
      · refine ((h.ng d' b' hd' hb').of (Below.heap_setCell _ _ _ _ (fun e2 => e (h.inj4 _ _ _ _ hd' hb' hd hb e2)))).eq (fun p' _ => ?_)
        show _ = put3 L.nv d b p v d' b' p'
        unfold put3
        rw [if_neg (fun h => e ⟨h.1, h.2.1⟩)]
    hold := fun d b p hd hb hp => (h.hold d b p hd hb hp).lie k (by decide)
    nois := fun d' b' p' hd' hb' hp' => by
      show FrZ _ (put3 L.nv d b p v d' b' p') (put3 s.noise d b p x d' b' p') ∧ ∀ z ∈ put3 s.noise d b p x d' b' p', _
      unfold put3
      by_cases e : d' = d ∧ b' = b ∧ p' = p
      · rw [if_pos e, if_pos e]; exact ⟨hF.lie k (by decide), hx⟩
      · rw [if_neg e, if_neg e]; exact ⟨(h.nois d' b' p' hd' hb' hp').1.lie k (by decide), (h.nois d' b' p' hd' hb' hp').2⟩
    msk := ⟨h.msk.1.lie k (by decide), h.msk.2⟩
    xb := h.xb
    xl := h.xl
    cb := h.cb
    cl := h.cl
    cp := h.cp
    inj1 := h.inj1
    inj3 := h.inj3
    inj4 := h.inj4
    low0 := h.low0
    low1 := h.low1
    low2 := h.low2
    low3 := h.low3 }

/-- Cells of the top. -/
theorem RA.tc {m : Nat} {w : World} {L : Lr} {s : Nd} (h : RA m w L s) (j : Nat) {v : Value} (hv : (topR L s)[j]? = some v) : w.cell? ⟨L.n, j, none⟩ = some v := cell_blk h.top hv
theorem RA.tf {m : Nat} {w : World} {L : Lr} {s : Nd} (h : RA m w L s) (j : Nat) : w.frozen? ⟨L.n, j, none⟩ = false := free_blk h.top
theorem RA.bc {m : Nat} {w : World} {L : Lr} {s : Nd} (h : RA m w L s) {d b j : Nat} (hd : d < s.D) (hb : b < s.B) (hj : j < 4) : w.cell? ⟨L.bs d, b * 4 + j, none⟩ = some (blkR L s d b j) := (h.blocks d hd).cell hb hj
theorem RA.bf {m : Nat} {w : World} {L : Lr} {s : Nd} (h : RA m w L s) {d : Nat} (hd : d < s.D) (j : Nat) : w.frozen? ⟨L.bs d, j, none⟩ = false := (h.blocks d hd).free j

end Go.Proofs.Ytnondiaefpdlpaa

namespace Go.Proofs.Ytnondiaefpdlpaa
open Go.RowKit Go.Shelf

set_option maxRecDepth 100000 in
set_option maxHeartbeats 4000000 in
theorem there_any {m : Nat} {w : World} {L : Lr} {s : Nd} (h : RA m w L s) (d b : Int) :
    Calls Try.prog 37 #[.pointer (some ⟨L.n, 0, none⟩), .int .i64 d, .int .i64 b] w fun e w' => e = .returned (.bool (decide (s.There d b))) ∧ w' = w := by
  have c0 : w.cell? ⟨L.n, 0, none⟩ = some (.int .i64 (s.D : Int)) := h.tc 0 rfl
  have c1 : w.cell? ⟨L.n, 1, none⟩ = some (.int .i64 (s.B : Int)) := h.tc 1 rfl
  clear h
  by_cases h1 : 0 ≤ d
  · by_cases h2 : d < (s.D : Int)
    · by_cases h3 : 0 ≤ b
      · by_cases h4 : b < (s.B : Int)
        · have HE := hide (decide_eq_true (show s.There d b from ⟨⟨h1, h2⟩, h3, h4⟩))
          go_enter Try.func37, Try.ntmps37
          go_wp2_with fail
          go_returns
          exact ⟨by rw [unhide HE]; rfl, rfl⟩
        · have HE := hide (decide_eq_false (show ¬ s.There d b from fun h => h4 h.2.2))
          go_enter Try.func37, Try.ntmps37
          go_wp2_with fail
          go_returns
          exact ⟨by rw [unhide HE]; rfl, rfl⟩
      · have HE := hide (decide_eq_false (show ¬ s.There d b from fun h => h3 h.2.1))
        go_enter Try.func37, Try.ntmps37
        go_wp2_with fail
        go_returns
        exact ⟨by rw [unhide HE]; rfl, rfl⟩
    · have HE := hide (decide_eq_false (show ¬ s.There d b from fun h => h2 h.1.2))
      go_enter Try.func37, Try.ntmps37
      go_wp2_with fail
      go_returns
      exact ⟨by rw [unhide HE]; rfl, rfl⟩
  · have HE := hide (decide_eq_false (show ¬ s.There d b from fun h => h1 h.1.1))
    go_enter Try.func37, Try.ntmps37
    go_wp2_with fail
    go_returns
    exact ⟨by rw [unhide HE]; rfl, rfl⟩

end Go.Proofs.Ytnondiaefpdlpaa
