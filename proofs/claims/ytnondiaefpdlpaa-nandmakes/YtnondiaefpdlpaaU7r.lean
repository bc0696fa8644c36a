/-
  The second telling of nand: how it lies in memory.
-/
import Derived.Test.YtnondiaefpdlpaaU7c
namespace Go.Proofs.Ytnondiaefpdlpaa
open Go.RowKit Go.Shelf

/-- A row of ints of one's own. -/
def FrZ (w : World) (v : Value) (zs : List Int) : Prop :=
  (zs = [] ∧ v = .slice none 0 0) ∨ ∃ g c, v = .slice (some ⟨g, 0, none⟩) zs.length c ∧ zs.length ≤ c ∧ c ≤ maxLen ∧ RowC w g 3 zs.length (fun j => .int .i64 (zs.getD j 0))
theorem FrZ.nil (w : World) : FrZ w (.slice none 0 0) [] := .inl ⟨rfl, rfl⟩
theorem FrZ.lie {ts : List TypeId} {w w' : World} {v : Value} {zs : List Int} (h : FrZ w v zs) (k : Lie ts 0 w w') (he : 3 ∈ ts) : FrZ w' v zs := by
  rcases h with h | ⟨g, c, h1, h2, h3, h4⟩
  · exact .inl h
  · exact .inr ⟨g, c, h1, h2, h3, h4.lie k (Nat.zero_le _) he⟩
theorem FrZ.zarg {w : World} {v : Value} {zs : List Int} (h : FrZ w v zs) (hb : ∀ z ∈ zs, -9223372036854775808 ≤ z ∧ z ≤ 9223372036854775807) : ∃ g, ZArg w v g zs := by
  rcases h with ⟨h1, h2⟩ | ⟨g, c, h1, h2, h3, h4⟩
  · subst h1; exact ⟨0, ⟨none, 0, h2, by simp, by unfold maxLen; omega, fun _ => rfl, .inl rfl⟩, hb⟩
  · exact ⟨g, ⟨some ⟨g, 0, none⟩, c, h1, h2, h3, fun h => (by cases h), .inr ⟨0, rfl, fun j hj => by rw [Nat.zero_add]; exact h4.cell hj⟩⟩, hb⟩
theorem FrZ.shape {w : World} {v : Value} {zs : List Int} (h : FrZ w v zs) : ∃ o n c, v = .slice o n c := by
  rcases h with ⟨_, h⟩ | ⟨g, c, h, _⟩
  · exact ⟨_, _, _, h⟩
  · exact ⟨_, _, _, h⟩

/-- Where its parts lie. -/
structure Lr where
  n : Nat
  gb : Nat
  xb : Nat
  gl : Nat
  xl : Nat
  bs : Nat → Nat
  cb : Nat → Nat
  ls : Nat → Nat
  cl : Nat → Nat
  ps : Nat → Nat → Nat
  cp : Nat → Nat → Nat
  ns : Nat → Nat → Nat
  hv : Nat → Nat → Nat → Value
  nv : Nat → Nat → Nat → Value
  mv : Value

def topR (L : Lr) (s : Nd) : Array Value := #[.int .i64 s.D, .int .i64 s.B, .int .i64 s.P, .slice (some ⟨L.gb, 0, none⟩) s.D L.xb, .slice (some ⟨L.gl, 0, none⟩) s.D L.xl, .int .i64 s.left, L.mv, .bool s.dead, .int .i64 s.ops, .int .i64 s.wrong]
def blkR (L : Lr) (s : Nd) (d b : Nat) : Nat → Value
  | 0 => .slice (some ⟨L.ps d b, 0, none⟩) s.P (L.cp d b)
  | 1 => .int .i64 (s.next d b : Nat)
  | 2 => .int .i64 (s.era d b)
  | _ => .bool (s.bad d b)

/-- The second telling lies in memory, from block m on. -/
structure RA (m : Nat) (w : World) (L : Lr) (s : Nd) : Prop where
  ok : s.Ok
  top : w.heap[L.n]? = some (.cells (topR L s) 75 (0, 0))
  rb : RowC w L.gb 76 s.D (fun d => .slice (some ⟨L.bs d, 0, none⟩) s.B (L.cb d))
  rl : RowC w L.gl 77 s.D (fun d => .slice (some ⟨L.ls d, 0, none⟩) s.B (L.cl d))
  blocks : ∀ d, d < s.D → RowB w (L.bs d) s.B (blkR L s d)
  lk : ∀ d, d < s.D → RowC w (L.ls d) 82 s.B (fun b => .slice (some ⟨L.ns d b, 0, none⟩) s.P s.P)
  pg : ∀ d b, d < s.D → b < s.B → RowC w (L.ps d b) 38 s.P (L.hv d b)
  ng : ∀ d b, d < s.D → b < s.B → RowC w (L.ns d b) 24 s.P (L.nv d b)
  hold : ∀ d b p, d < s.D → b < s.B → p < s.P → Fr 0 w (L.hv d b p) (s.held d b p)
  nois : ∀ d b p, d < s.D → b < s.B → p < s.P → FrZ w (L.nv d b p) (s.noise d b p) ∧ ∀ z ∈ s.noise d b p, -9223372036854775808 ≤ z ∧ z ≤ 9223372036854775807
  msk : Fr 0 w L.mv s.mask ∧ Bs s.mask
  xb : s.D ≤ L.xb ∧ L.xb ≤ maxLen
  xl : s.D ≤ L.xl ∧ L.xl ≤ maxLen
  cb : ∀ d, d < s.D → s.B ≤ L.cb d ∧ L.cb d ≤ maxLen
  cl : ∀ d, d < s.D → s.B ≤ L.cl d ∧ L.cl d ≤ maxLen
  cp : ∀ d b, d < s.D → b < s.B → s.P ≤ L.cp d b ∧ L.cp d b ≤ maxLen
  inj1 : ∀ d d', d < s.D → d' < s.D → L.bs d = L.bs d' → d = d'
  inj3 : ∀ d b d' b', d < s.D → b < s.B → d' < s.D → b' < s.B → L.ps d b = L.ps d' b' → d = d' ∧ b = b'
  inj4 : ∀ d b d' b', d < s.D → b < s.B → d' < s.D → b' < s.B → L.ns d b = L.ns d' b' → d = d' ∧ b = b'
  low0 : m ≤ L.n
  low1 : ∀ d, d < s.D → m ≤ L.bs d
  low2 : ∀ d b, d < s.D → b < s.B → m ≤ L.ps d b
  low3 : ∀ d b, d < s.D → b < s.B → m ≤ L.ns d b

def refT : List TypeId := [75, 76, 77, 80, 82, 38, 24, 5, 3]
theorem RA.lie {m : Nat} {w w' : World} {L : Lr} {s : Nd} (h : RA m w L s) (k : Lie refT 0 w w') : RA m w' L s where
  ok := h.ok
  top := k _ _ _ (Nat.zero_le _) (by decide) h.top
  rb := h.rb.lie k (Nat.zero_le _) (by decide)
  rl := h.rl.lie k (Nat.zero_le _) (by decide)
  blocks := fun d hd => (h.blocks d hd).lie k (Nat.zero_le _) (by decide)
  lk := fun d hd => (h.lk d hd).lie k (Nat.zero_le _) (by decide)
  pg := fun d b hd hb => (h.pg d b hd hb).lie k (Nat.zero_le _) (by decide)
  ng := fun d b hd hb => (h.ng d b hd hb).lie k (Nat.zero_le _) (by decide)
  hold := fun d b p hd hb hp => (h.hold d b p hd hb hp).lie k (by decide)
  nois := fun d b p hd hb hp => ⟨(h.nois d b p hd hb hp).1.lie k (by decide), (h.nois d b p hd hb hp).2⟩
  msk := ⟨h.msk.1.lie k (by decide), h.msk.2⟩
  xb := h.xb
  xl := h.xl
  cb := h.cb
  cl := h.cl
  cp := h.cp
  inj1 := h.inj1
  inj3 := h.inj3
  inj4 := h.inj4
  low0 := h.low0
  low1 := h.low1
  low2 := h.low2
  low3 := h.low3
theorem RA.below {m : Nat} {w w' : World} {L : Lr} {s : Nd} (h : RA m w L s) (k : Below w.heap.size w w') : RA m w' L s := h.lie (.of_below k)
theorem RA.kn {m n : Nat} {w w' : World} {L : Lr} {s : Nd} (h : RA m w L s) (k : Kn n w w') : RA m w' L s := h.lie (fun g cur t _ ht h1 => k.oth g _ h1 (by
    have : ∀ t ∈ refT, mine t = false := by decide
    exact this t ht))
theorem RA.n_lt {m : Nat} {w : World} {L : Lr} {s : Nd} (h : RA m w L s) : m < w.heap.size := by have := lt_of_block h.top; have := h.low0; omega

/-- Below m all lies as it lay; and so does what is not of the four types that are written. -/
def mineR (t : TypeId) : Bool := t == 75 || t == 80 || t == 38 || t == 24
structure Kr (m : Nat) (w w' : World) : Prop where
  os : w'.os = w.os
  tape : w'.tape = w.tape
  output : w'.output = w.output
  size : w.heap.size ≤ w'.heap.size
  low : ∀ k : Nat, k < m → w'.heap[k]? = w.heap[k]?
  oth : ∀ (k : Nat) (cur : Array Value) (t : TypeId), mineR t = false → w.heap[k]? = some (.cells cur t (0, 0)) → w'.heap[k]? = some (.cells cur t (0, 0))
theorem Kr.refl (m : Nat) (w : World) : Kr m w w := ⟨rfl, rfl, rfl, Nat.le_refl _, fun _ _ => rfl, fun _ _ _ _ h => h⟩
theorem Kr.trans {m : Nat} {a b c : World} (h : Kr m a b) (k : Kr m b c) : Kr m a c :=
  ⟨k.os.trans h.os, k.tape.trans h.tape, k.output.trans h.output, Nat.le_trans h.size k.size, fun i hi => (k.low i hi).trans (h.low i hi), fun i o t h1 h2 => k.oth i o t h1 (h.oth i o t h1 h2)⟩
theorem Kr.of_below {m : Nat} {a b : World} (h : Below a.heap.size a b) (hm : m ≤ a.heap.size) : Kr m a b :=
  ⟨h.os, h.tape, h.output, h.size, fun k hk => h.block k (by omega), fun k _ _ _ h1 => (h.block k (lt_of_block h1)).trans h1⟩
theorem Kr.below {m : Nat} {a b : World} (h : Kr m a b) : Below m a b := ⟨h.os, h.tape, h.output, h.size, h.low⟩
theorem Kr.drew {m : Nat} {a b : World} (h : Kr m a b) : Kr m a b.drew := ⟨h.os, h.tape, h.output, h.size, h.low, h.oth⟩
theorem Kr.set {m : Nat} (w : World) {q j : Nat} {cur : Array Value} {t : TypeId} (v : Value) (hq : m ≤ q) (h : w.heap[q]? = some (.cells cur t (0, 0))) (ht : mineR t = true) : Kr m w (w.setCell ⟨q, j, none⟩ v) :=
  ⟨rfl, rfl, rfl, by simp [World.setCell], fun k hk => Below.heap_setCell _ _ _ _ (by show k ≠ q; omega), fun k c t' h2 h1 => (Below.heap_setCell _ _ _ _ (fun e => by
    have e' : k = q := e
    subst e'
    rw [h] at h1
    cases h1
    rw [ht] at h2
    cases h2)).trans h1⟩
theorem Kr.lie {m M : Nat} {w w' : World} (k : Kr m w w') : Lie [5, 3] M w w' := fun g cur t _ ht h1 => k.oth g cur t (by
    have : ∀ t ∈ [5, 3], mineR t = false := by decide
    exact this t ht) h1
theorem NA.kr {m n : Nat} {w w' : World} {L : La} {s : Nd} (h : NA m w L s) (k : Kr n w w') : NA m w' L s where
  ok := h.ok
  top := k.oth _ _ _ (by decide) h.top
  dies := by obtain ⟨cur, h1, h2⟩ := h.dies; exact ⟨cur, k.oth _ _ _ (by decide) h1, h2⟩
  blocks := fun d hd => by obtain ⟨cur, h1, h2⟩ := h.blocks d hd; exact ⟨cur, k.oth _ _ _ (by decide) h1, h2⟩
  pages := fun d b hd hb => by obtain ⟨cur, h1, h2⟩ := h.pages d b hd hb; exact ⟨cur, k.oth _ _ _ (by decide) h1, h2⟩
  hold := fun d b p hd hb hp => (h.hold d b p hd hb hp).lie k.lie (by decide)
  nois := fun d b p hd hb hp => by
    obtain ⟨l, h1, h2, h3⟩ := h.nois d b p hd hb hp
    refine ⟨l, ⟨h1.1, ?_⟩, h2, h3⟩
    rcases h1.2 with h' | ⟨g, cap, cur, h1, h2, h3, h4⟩
    · exact .inl h'
    · exact .inr ⟨g, cap, cur, h1, h2, k.oth _ _ _ (by decide) h3, h4⟩
  msk := by obtain ⟨t, h1, h2, h3, h4⟩ := h.msk; exact ⟨t, h1.lie k.lie (by decide), h2, h3, h4⟩
  inj1 := h.inj1
  inj2 := h.inj2
  low0 := h.low0
  low1 := h.low1
  low2 := h.low2
  low3 := h.low3

/-- A cell of the top is written anew. -/
theorem RA.tset {m : Nat} {w : World} {L : Lr} {s : Nd} (h : RA m w L s) (j : Nat) (v : Value) (dead : Bool) (left : Nat) (mask : List Nat) (ops wrong : Int) (mv : Value)
    (he : (topR L s).setIfInBounds j v = topR { L with mv } { s with dead, left, mask, ops, wrong }) (hl : left ≤ 9223372036854775807) (hm : Fr 0 w mv mask ∧ Bs mask) :
    RA m (w.setCell ⟨L.n, j, none⟩ v) { L with mv } { s with dead, left, mask, ops, wrong } ∧ Kr m w (w.setCell ⟨L.n, j, none⟩ v) := by
  have k : Lie [76, 77, 80, 82, 38, 24, 5, 3] 0 w (w.setCell ⟨L.n, j, none⟩ v) := Lie.set v h.top (by decide)
  refine ⟨?_, Kr.set w v h.low0 h.top (by decide)⟩
  exact
  { ok := ⟨h.ok.d, h.ok.b, h.ok.p, h.ok.len, h.ok.bs, h.ok.nx, hl⟩
    top := by rw [← he]; exact heap_setCell_same w _ _ _ _ _ h.top
    rb := h.rb.lie k (Nat.zero_le _) (by decide)
    rl := h.rl.lie k (Nat.zero_le _) (by decide)
    blocks := fun d hd => (h.blocks d hd).lie k (Nat.zero_le _) (by decide)
    lk := fun d hd => (h.lk d hd).lie k (Nat.zero_le _) (by decide)
    pg := fun d b hd hb => (h.pg d b hd hb).lie k (Nat.zero_le _) (by decide)
    ng := fun d b hd hb => (h.ng d b hd hb).lie k (Nat.zero_le _) (by decide)
    hold := fun d b p hd hb hp => (h.hold d b p hd hb hp).lie k (by decide)
    nois := fun d b p hd hb hp => ⟨(h.nois d b p hd hb hp).1.lie k (by decide), (h.nois d b p hd hb hp).2⟩
    msk := ⟨hm.1.lie k (by decide), hm.2⟩
    xb := h.xb
    xl := h.xl
    cb := h.cb
    cl := h.cl
    cp := h.cp
    inj1 := h.inj1
    inj3 := h.inj3
    inj4 := h.inj4
    low0 := h.low0
    low1 := h.low1
    low2 := h.low2
    low3 := h.low3 }
theorem RA.setWrong {m : Nat} {w : World} {L : Lr} {s : Nd} (h : RA m w L s) (z : Int) : RA m (w.setCell ⟨L.n, 9, none⟩ (.int .i64 z)) L { s with wrong := z } ∧ Kr m w (w.setCell ⟨L.n, 9, none⟩ (.int .i64 z)) := h.tset 9 _ s.dead s.left s.mask s.ops z L.mv rfl h.ok.lf h.msk
theorem RA.setOps {m : Nat} {w : World} {L : Lr} {s : Nd} (h : RA m w L s) (z : Int) : RA m (w.setCell ⟨L.n, 8, none⟩ (.int .i64 z)) L { s with ops := z } ∧ Kr m w (w.setCell ⟨L.n, 8, none⟩ (.int .i64 z)) := h.tset 8 _ s.dead s.left s.mask z s.wrong L.mv rfl h.ok.lf h.msk
theorem RA.setDead {m : Nat} {w : World} {L : Lr} {s : Nd} (h : RA m w L s) (z : Bool) : RA m (w.setCell ⟨L.n, 7, none⟩ (.bool z)) L { s with dead := z } ∧ Kr m w (w.setCell ⟨L.n, 7, none⟩ (.bool z)) := h.tset 7 _ z s.left s.mask s.ops s.wrong L.mv rfl h.ok.lf h.msk
theorem RA.setLeft {m : Nat} {w : World} {L : Lr} {s : Nd} (h : RA m w L s) (z : Nat) (hz : z ≤ 9223372036854775807) : RA m (w.setCell ⟨L.n, 5, none⟩ (.int .i64 (z : Int))) L { s with left := z } ∧ Kr m w (w.setCell ⟨L.n, 5, none⟩ (.int .i64 (z : Int))) := h.tset 5 _ s.dead z s.mask s.ops s.wrong L.mv rfl hz h.msk
theorem RA.setMask {m : Nat} {w : World} {L : Lr} {s : Nd} (h : RA m w L s) (v : Value) (mask : List Nat) (hm : Fr 0 w v mask ∧ Bs mask) : RA m (w.setCell ⟨L.n, 6, none⟩ v) { L with mv := v } { s with mask } ∧ Kr m w (w.setCell ⟨L.n, 6, none⟩ v) := h.tset 6 _ s.dead s.left mask s.ops s.wrong v rfl h.ok.lf hm

theorem RowB.set {w : World} {g n : Nat} {f : Nat → Nat → Value} (h : RowB w g n f) {b i : Nat} (hb : b < n) (hi : i < 4) (v : Value) : RowB (w.setCell ⟨g, b * 4 + i, none⟩ v) g n (fun b' j => if b' = b ∧ j = i then v else f b' j) := by
  obtain ⟨cur, h1, h2⟩ := h
  refine ⟨_, heap_setCell_same w _ _ _ _ _ h1, fun b' hb' j hj => ?_⟩
  have hsz : b * 4 + i < cur.size := (Array.getElem?_eq_some_iff.1 (h2 b hb i hi)).1
  rw [Array.getElem?_setIfInBounds]
  by_cases e2 : b' = b ∧ j = i
  · obtain ⟨rfl, rfl⟩ := e2
    rw [if_pos rfl, if_pos hsz]; simp
  · rw [if_neg (by omega)]; simp only [if_neg e2]
    exact h2 b' hb' j hj
theorem RowB.eq {w : World} {g n : Nat} {f f' : Nat → Nat → Value} (h : RowB w g n f) (he : ∀ b, b < n → ∀ j, j < 4 → f b j = f' b j) : RowB w g n f' := by
  obtain ⟨cur, h1, h2⟩ := h
  exact ⟨cur, h1, fun i hi j hj => by rw [← he i hi j hj]; exact h2 i hi j hj⟩
theorem RowC.eq {w : World} {g n : Nat} {e : TypeId} {f f' : Nat → Value} (h : RowC w g e n f) (he : ∀ b, b < n → f b = f' b) : RowC w g e n f' := by
  obtain ⟨cur, h1, h2⟩ := h
  exact ⟨cur, h1, fun i hi => by rw [← he i hi]; exact h2 i hi⟩
theorem RowB.cell {w : World} {g n : Nat} {f : Nat → Nat → Value} (h : RowB w g n f) {b j : Nat} (hb : b < n) (hj : j < 4) : w.cell? ⟨g, b * 4 + j, none⟩ = some (f b j) := by
  obtain ⟨cur, h1, h2⟩ := h
  exact cell_blk h1 (h2 b hb j hj)
theorem RowB.free {w : World} {g n : Nat} {f : Nat → Nat → Value} (h : RowB w g n f) (i : Nat) : w.frozen? ⟨g, i, none⟩ = false := by
  obtain ⟨cur, h1, h2⟩ := h
  exact free_blk h1

/-- A cell of a block's state is written anew. -/
theorem RA.setB {m : Nat} {w : World} {L : Lr} {s : Nd} (h : RA m w L s) {d b i : Nat} (hd : d < s.D) (hb : b < s.B) (hi : i < 4) (v : Value) (bad : Nat → Nat → Bool) (next : Nat → Nat → Nat) (era : Nat → Nat → Int)
    (hnx : ∀ d b, next d b ≤ s.P)
    (hnew : ∀ d' b' j, d' < s.D → b' < s.B → j < 4 → blkR L { s with bad, next, era } d' b' j = if d' = d ∧ b' = b ∧ j = i then v else blkR L s d' b' j) :
    RA m (w.setCell ⟨L.bs d, b * 4 + i, none⟩ v) L { s with bad, next, era } ∧ Kr m w (w.setCell ⟨L.bs d, b * 4 + i, none⟩ v) := by
  obtain ⟨cb, hcb, hcb2⟩ := h.blocks d hd
  have k : Lie [75, 76, 77, 82, 38, 24, 5, 3] 0 w (w.setCell ⟨L.bs d, b * 4 + i, none⟩ v) := Lie.set v hcb (by decide)
  refine ⟨?_, Kr.set w v (h.low1 d hd) hcb (by decide)⟩
  exact
  { ok := ⟨h.ok.d, h.ok.b, h.ok.p, h.ok.len, h.ok.bs, hnx, h.ok.lf⟩
    top := k _ _ _ (Nat.zero_le _) (by decide) h.top
    rb := h.rb.lie k (Nat.zero_le _) (by decide)
    rl := h.rl.lie k (Nat.zero_le _) (by decide)
    blocks := fun d' hd' => by
      by_cases e : d' = d
      · subst e
        refine ((h.blocks d' hd').set hb hi v).eq (fun b' hb' j hj => ?_)
        rw [hnew d' b' j hd hb' hj]
        by_cases e2 : b' = b ∧ j = i
        · rw [if_pos e2, if_pos ⟨rfl, e2⟩]
        · rw [if_neg e2, if_neg (fun x => e2 x.2)]
      · refine ((h.blocks d' hd').of (Below.heap_setCell _ _ _ _ (fun e2 => e (h.inj1 _ _ hd' hd e2)))).eq (fun b' hb' j hj => ?_)
        rw [hnew d' b' j hd' hb' hj, if_neg (fun h => e h.1)]
    lk := fun d hd => (h.lk d hd).lie k (Nat.zero_le _) (by decide)
    pg := fun d b hd hb => (h.pg d b hd hb).lie k (Nat.zero_le _) (by decide)
    ng := fun d b hd hb => (h.ng d b hd hb).lie k (Nat.zero_le _) (by decide)
    hold := fun d b p hd hb hp => (h.hold d b p hd hb hp).lie k (by decide)
    nois := fun d b p hd hb hp => ⟨(h.nois d b p hd hb hp).1.lie k (by decide), (h.nois d b p hd hb hp).2⟩
    msk := ⟨h.msk.1.lie k (by decide), h.msk.2⟩
    xb := h.xb
    xl := h.xl
    cb := h.cb
    cl := h.cl
    cp := h.cp
    inj1 := h.inj1
    inj3 := h.inj3
    inj4 := h.inj4
    low0 := h.low0
    low1 := h.low1
    low2 := h.low2
    low3 := h.low3 }

/-- A page's bytes are others. -/
theorem RA.setP {m : Nat} {w : World} {L : Lr} {s : Nd} (h : RA m w L s) {d b p : Nat} (hd : d < s.D) (hb : b < s.B) (hp : p < s.P) (v : Value) (x : List Nat) (hF : Fr 0 w v x) (hl : x.length = 60) (hbs : Bs x) :
    RA m (w.setCell ⟨L.ps d b, p, none⟩ v) { L with hv := put3 L.hv d b p v } { s with held := put3 s.held d b p x } ∧ Kr m w (w.setCell ⟨L.ps d b, p, none⟩ v) := by
  obtain ⟨cp, hcp, hcp2⟩ := h.pg d b hd hb
  have k : Lie [75, 76, 77, 80, 82, 24, 5, 3] 0 w (w.setCell ⟨L.ps d b, p, none⟩ v) := Lie.set v hcp (by decide)
  refine ⟨?_, Kr.set w v (h.low2 d b hd hb) hcp (by decide)⟩
  exact
  { ok := ⟨h.ok.d, h.ok.b, h.ok.p, fun d' b' p' => by
        show (put3 s.held d b p x d' b' p').length = 60
        unfold put3
        by_cases e : d' = d ∧ b' = b ∧ p' = p
        · rw [if_pos e]; exact hl
        · rw [if_neg e]; exact h.ok.len d' b' p', fun d' b' p' => by
        show Bs (put3 s.held d b p x d' b' p')
        unfold put3
        by_cases e : d' = d ∧ b' = b ∧ p' = p
        · rw [if_pos e]; exact hbs
        · rw [if_neg e]; exact h.ok.bs d' b' p', h.ok.nx, h.ok.lf⟩
    top := k _ _ _ (Nat.zero_le _) (by decide) h.top
    rb := h.rb.lie k (Nat.zero_le _) (by decide)
    rl := h.rl.lie k (Nat.zero_le _) (by decide)
    blocks := fun d hd => (h.blocks d hd).lie k (Nat.zero_le _) (by decide)
    lk := fun d hd => (h.lk d hd).lie k (Nat.zero_le _) (by decide)
    pg := fun d' b' hd' hb' => by
      by_cases e : d' = d ∧ b' = b
      · obtain ⟨rfl, rfl⟩ := e
        refine ((h.pg d' b' hd' hb').set hp v).eq (fun p' _ => ?_)
        show _ = put3 L.hv d' b' p v d' b' p'
        unfold put3
        by_cases e : p' = p
        · rw [if_pos e, if_pos ⟨rfl, rfl, e⟩]
        · rw [if_neg e, if_neg (fun h => e h.2.2)]
      · refine ((h.pg d' b' hd' hb').of (Below.heap_setCell _ _ _ _ (fun e2 => e (h.inj3 _ _ _ _ hd' hb' hd hb e2)))).eq (fun p' _ => ?_)
        show _ = put3 L.hv d b p v d' b' p'
        unfold put3
        rw [if_neg (fun h => e ⟨h.1, h.2.1⟩)]
    ng := fun d b hd hb => (h.ng d b hd hb).lie k (Nat.zero_le _) (by decide)
    hold := fun d' b' p' hd' hb' hp' => by
      show Fr 0 _ (put3 L.hv d b p v d' b' p') (put3 s.held d b p x d' b' p')
      unfold put3
      by_cases e : d' = d ∧ b' = b ∧ p' = p
      · rw [if_pos e, if_pos e]; exact hF.lie k (by decide)
      · rw [if_neg e, if_neg e]; exact (h.hold d' b' p' hd' hb' hp').lie k (by decide)
    nois := fun d b p hd hb hp => ⟨(h.nois d b p hd hb hp).1.lie k (by decide), (h.nois d b p hd hb hp).2⟩
    msk := ⟨h.msk.1.lie k (by decide), h.msk.2⟩
    xb := h.xb
    xl := h.xl
    cb := h.cb
    cl := h.cl
    cp := h.cp
    inj1 := h.inj1
    inj3 := h.inj3
    inj4 := h.inj4
    low0 := h.low0
    low1 := h.low1
    low2 := h.low2
    low3 := h.low3 }

/-- A page's noise is another one. -/
theorem RA.setN {m : Nat} {w : World} {L : Lr} {s : Nd} (h : RA m w L s) {d b p : Nat} (hd : d < s.D) (hb : b < s.B) (hp : p < s.P) (v : Value) (x : List Int) (hF : FrZ w v x) (hx : ∀ z ∈ x, -9223372036854775808 ≤ z ∧ z ≤ 9223372036854775807) :
    RA m (w.setCell ⟨L.ns d b, p, none⟩ v) { L with nv := put3 L.nv d b p v } { s with noise := put3 s.noise d b p x } ∧ Kr m w (w.setCell ⟨L.ns d b, p, none⟩ v) := by
  obtain ⟨cp, hcp, hcp2⟩ := h.ng d b hd hb
  have k : Lie [75, 76, 77, 80, 82, 38, 5, 3] 0 w (w.setCell ⟨L.ns d b, p, none⟩ v) := Lie.set v hcp (by decide)
  refine ⟨?_, Kr.set w v (h.low3 d b hd hb) hcp (by decide)⟩
  exact
  { ok := ⟨h.ok.d, h.ok.b, h.ok.p, h.ok.len, h.ok.bs, h.ok.nx, h.ok.lf⟩
    top := k _ _ _ (Nat.zero_le _) (by decide) h.top
    rb := h.rb.lie k (Nat.zero_le _) (by decide)
    rl := h.rl.lie k (Nat.zero_le _) (by decide)
    blocks := fun d hd => (h.blocks d hd).lie k (Nat.zero_le _) (by decide)
    lk := fun d hd => (h.lk d hd).lie k (Nat.zero_le _) (by decide)
    pg := fun d b hd hb => (h.pg d b hd hb).lie k (Nat.zero_le _) (by decide)
    ng := fun d' b' hd' hb' => by
      by_cases e : d' = d ∧ b' = b
      · obtain ⟨rfl, rfl⟩ := e
        refine ((h.ng d' b' hd' hb').set hp v).eq (fun p' _ => ?_)
        show _ = put3 L.nv d' b' p v d' b' p'
        unfold put3
        by_cases e : p' = p
        · rw [if_pos e, if_pos ⟨rfl, rfl, e⟩]
        · rw [if_neg e, if_neg (fun h => e h.2.2)]
      · refine ((h.ng d' b' hd' hb').of (Below.heap_setCell _ _ _ _ (fun e2 => e (h.inj4 _ _ _ _ hd' hb' hd hb e2)))).eq (fun p' _ => ?_)
        show _ = put3 L.nv d b p v d' b' p'
        unfold put3
        rw [if_neg (fun h => e ⟨h.1, h.2.1⟩)]
    hold := fun d b p hd hb hp => (h.hold d b p hd hb hp).lie k (by decide)
    nois := fun d' b' p' hd' hb' hp' => by
      show FrZ _ (put3 L.nv d b p v d' b' p') (put3 s.noise d b p x d' b' p') ∧ ∀ z ∈ put3 s.noise d b p x d' b' p', _
      unfold put3
      by_cases e : d' = d ∧ b' = b ∧ p' = p
      · rw [if_pos e, if_pos e]; exact ⟨hF.lie k (by decide), hx⟩
      · rw [if_neg e, if_neg e]; exact ⟨(h.nois d' b' p' hd' hb' hp').1.lie k (by decide), (h.nois d' b' p' hd' hb' hp').2⟩
    msk := ⟨h.msk.1.lie k (by decide), h.msk.2⟩
    xb := h.xb
    xl := h.xl
    cb := h.cb
    cl := h.cl
    cp := h.cp
    inj1 := h.inj1
    inj3 := h.inj3
    inj4 := h.inj4
    low0 := h.low0
    low1 := h.low1
    low2 := h.low2
    low3 := h.low3 }

/-- Cells of the top. -/
theorem RA.tc {m : Nat} {w : World} {L : Lr} {s : Nd} (h : RA m w L s) (j : Nat) {v : Value} (hv : (topR L s)[j]? = some v) : w.cell? ⟨L.n, j, none⟩ = some v := cell_blk h.top hv
theorem RA.tf {m : Nat} {w : World} {L : Lr} {s : Nd} (h : RA m w L s) (j : Nat) : w.frozen? ⟨L.n, j, none⟩ = false := free_blk h.top
theorem RA.bc {m : Nat} {w : World} {L : Lr} {s : Nd} (h : RA m w L s) {d b j : Nat} (hd : d < s.D) (hb : b < s.B) (hj : j < 4) : w.cell? ⟨L.bs d, b * 4 + j, none⟩ = some (blkR L s d b j) := (h.blocks d hd).cell hb hj
theorem RA.bf {m : Nat} {w : World} {L : Lr} {s : Nd} (h : RA m w L s) {d : Nat} (hd : d < s.D) (j : Nat) : w.frozen? ⟨L.bs d, j, none⟩ = false := (h.blocks d hd).free j

end Go.Proofs.Ytnondiaefpdlpaa
