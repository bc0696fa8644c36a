/-
  nand: what it is by itself, and how it lies in memory.
  nand: a thing on a shelf, where it stands; a block, a page; what is refused.
  nand: all things of a shelf, where they stand.
-/
import Derived.Test.YtnondiaefpdlpaaMb
import Derived.Test.YtnondiaefpdlpaaMc
namespace Go.Proofs.Ytnondiaefpdlpaa
open Go.RowKit Go.Shelf

/-- Flash by itself. -/
structure Nd where
  D : Nat
  B : Nat
  P : Nat
  bad : Nat → Nat → Bool
  next : Nat → Nat → Nat
  era : Nat → Nat → Int
  held : Nat → Nat → Nat → List Nat
  noise : Nat → Nat → Nat → List Int
  left : Nat
  mask : List Nat
  dead : Bool
  ops : Int
  wrong : Int

structure Nd.Ok (s : Nd) : Prop where
  d : s.D ≤ 8
  b : s.B ≤ 12
  p : s.P ≤ 8
  len : ∀ d b p, (s.held d b p).length = 60
  bs : ∀ d b p, Bs (s.held d b p)
  nx : ∀ d b, s.next d b ≤ s.P
  lf : s.left ≤ 9223372036854775807

/-- Where its parts lie. -/
structure La where
  n : Nat
  ds : Nat
  bs : Nat → Nat
  ps : Nat → Nat → Nat
  hv : Nat → Nat → Nat → Value
  nv : Nat → Nat → Nat → Value
  mv : Value

def topC (L : La) (s : Nd) : Array Value := #[.int .i64 s.D, .int .i64 s.B, .int .i64 s.P, .slice (some ⟨L.ds, 0, none⟩) s.D s.D, .bool s.dead, .int .i64 s.left, L.mv, .int .i64 s.ops, .int .i64 s.wrong]
def blkC (L : La) (s : Nd) (d b : Nat) : Nat → Value
  | 0 => .bool (s.bad d b)
  | 1 => .slice (some ⟨L.ps d b, 0, none⟩) s.P s.P
  | 2 => .int .i64 (s.next d b : Nat)
  | _ => .int .i64 (s.era d b)
def pagC (L : La) (d b p : Nat) : Nat → Value
  | 0 => L.hv d b p
  | _ => L.nv d b p

theorem cell_blk {w : World} {g j : Nat} {cur : Array Value} {t : TypeId} {v : Value} (h : w.heap[g]? = some (.cells cur t (0, 0))) (hc : cur[j]? = some v) : w.cell? ⟨g, j, none⟩ = some v := by simp [World.cell?, h, hc]
theorem cf_rep {n i : Nat} (x : Nat) (h : i < n) : cf (List.replicate n x) i = x := by
  have h1 : i < (List.replicate n x).length := by rw [List.length_replicate]; exact h
  have := cf_get h1
  rw [List.getElem?_replicate, if_pos h] at this
  exact (Option.some.inj this).symm

/-- Of nand's four types. -/
def mine (t : TypeId) : Bool := t == 65 || t == 105 || t == 71 || t == 95
def mineO : Obj → Bool
  | .cells _ t _ => mine t
  | _ => false

/-- Flash lies in memory, from block m on. -/
structure NA (m : Nat) (w : World) (L : La) (s : Nd) : Prop where
  ok : s.Ok
  top : w.heap[L.n]? = some (.cells (topC L s) 65 (0, 0))
  dies : ∃ cur, w.heap[L.ds]? = some (.cells cur 105 (0, 0)) ∧ ∀ d, d < s.D → cur[d]? = some (.slice (some ⟨L.bs d, 0, none⟩) s.B s.B)
  blocks : ∀ d, d < s.D → ∃ cur, w.heap[L.bs d]? = some (.cells cur 71 (0, 0)) ∧ ∀ b, b < s.B → ∀ j, j < 4 → cur[b * 4 + j]? = some (blkC L s d b j)
  pages : ∀ d b, d < s.D → b < s.B → ∃ cur, w.heap[L.ps d b]? = some (.cells cur 95 (0, 0)) ∧ ∀ p, p < s.P → ∀ j, j < 2 → cur[p * 2 + j]? = some (pagC L d b p j)
  hold : ∀ d b p, d < s.D → b < s.B → p < s.P → Fr 0 w (L.hv d b p) (s.held d b p)
  nois : ∀ d b p, d < s.D → b < s.B → p < s.P → ∃ l, OwnI 0 w (L.nv d b p) l ∧ (∀ k ∈ l, k < 1000000) ∧ ∀ h : List Nat, h.length = 60 → Bs h → flipZ h (ints l) = flipZ h (s.noise d b p)
  msk : ∃ t, Fr 0 w L.mv t ∧ Bs t ∧ t.length ≤ 60 ∧ (s.left ≠ 0 → ∀ a b : List Nat, a.length = 60 → b.length = 60 → mixL a b t = mixL a b s.mask)
  inj1 : ∀ d d', d < s.D → d' < s.D → L.bs d = L.bs d' → d = d'
  inj2 : ∀ d b d' b', d < s.D → b < s.B → d' < s.D → b' < s.B → L.ps d b = L.ps d' b' → d = d' ∧ b = b'
  low0 : m ≤ L.n
  low1 : m ≤ L.ds
  low2 : ∀ d, d < s.D → m ≤ L.bs d
  low3 : ∀ d b, d < s.D → b < s.B → m ≤ L.ps d b

/-- Below m all lies as it lay; and so does what is not of nand's types. -/
structure Kn (m : Nat) (w w' : World) : Prop where
  os : w'.os = w.os
  tape : w'.tape = w.tape
  output : w'.output = w.output
  size : w.heap.size ≤ w'.heap.size
  low : ∀ k : Nat, k < m → w'.heap[k]? = w.heap[k]?
  oth : ∀ (k : Nat) (o : Obj), w.heap[k]? = some o → mineO o = false → w'.heap[k]? = some o
theorem Kn.refl (m : Nat) (w : World) : Kn m w w := ⟨rfl, rfl, rfl, Nat.le_refl _, fun _ _ => rfl, fun _ _ h _ => h⟩
theorem Kn.trans {m : Nat} {a b c : World} (h : Kn m a b) (k : Kn m b c) : Kn m a c :=
  ⟨k.os.trans h.os, k.tape.trans h.tape, k.output.trans h.output, Nat.le_trans h.size k.size, fun i hi => (k.low i hi).trans (h.low i hi), fun i o h1 h2 => k.oth i o (h.oth i o h1 h2) h2⟩
theorem Kn.of_below {m : Nat} {a b : World} (h : Below a.heap.size a b) (hm : m ≤ a.heap.size) : Kn m a b :=
  ⟨h.os, h.tape, h.output, h.size, fun k hk => h.block k (by omega), fun k o h1 _ => (h.block k (lt_of_block h1)).trans h1⟩
theorem Kn.below {m : Nat} {a b : World} (h : Kn m a b) : Below m a b := ⟨h.os, h.tape, h.output, h.size, h.low⟩
theorem Kn.set {m : Nat} (w : World) {q j : Nat} {cur : Array Value} {t : TypeId} {f : Nat × Nat} (v : Value) (hq : m ≤ q) (h : w.heap[q]? = some (.cells cur t f)) (ht : mine t = true) : Kn m w (w.setCell ⟨q, j, none⟩ v) :=
  ⟨rfl, rfl, rfl, by simp [World.setCell], fun k hk => Below.heap_setCell _ _ _ _ (by show k ≠ q; omega), fun k o h1 h2 => (Below.heap_setCell _ _ _ _ (fun e => by
    have e' : k = q := e
    subst e'
    rw [h] at h1
    cases h1
    simp only [mineO, ht] at h2
    cases h2)).trans h1⟩
theorem Kn.drew {m : Nat} {a b : World} (h : Kn m a b) : Kn m a b.drew := ⟨h.os, h.tape, h.output, h.size, h.low, h.oth⟩
theorem Blk.kn {m g : Nat} {w w' : World} {s : List Nat} (h : Blk w g s) (k : Kn m w w') : Blk w' g s := by
  obtain ⟨cur, h1, h2⟩ := h
  exact ⟨cur, k.oth g _ h1 rfl, h2⟩
theorem Fr.kn {m n : Nat} {w w' : World} {v : Value} {s : List Nat} (h : Fr n w v s) (k : Kn m w w') : Fr n w' v s := by
  rcases h with h | ⟨g, c, h1, h2, h3, h4, h5⟩
  · exact .inl h
  · exact .inr ⟨g, c, h1, h2, h3, h4.kn k, h5⟩
theorem OwnI.kn {m n : Nat} {w w' : World} {v : Value} {l : List Nat} (h : OwnI n w v l) (k : Kn m w w') : OwnI n w' v l := by
  refine ⟨h.1, ?_⟩
  rcases h.2 with h' | ⟨g, cap, cur, h1, h2, h3, h4⟩
  · exact .inl h'
  · exact .inr ⟨g, cap, cur, h1, h2, k.oth g _ h3 rfl, h4⟩
theorem Fr.low {n : Nat} {w : World} {v : Value} {s : List Nat} (h : Fr n w v s) : Fr 0 w v s := by
  rcases h with h | ⟨g, c, h1, h2, h3, h4, h5⟩
  · exact .inl h
  · exact .inr ⟨g, c, h1, h2, h3, h4, Nat.zero_le _⟩
/-- What lies below m stays an argument. -/
theorem Arg.kn {m g : Nat} {w w' : World} {v : Value} {s : List Nat} (h : Arg w v g s) (k : Kn m w w') (hg : s ≠ [] → g < m) : Arg w' v g s := by
  obtain ⟨⟨ao, c, h1, h2, h3, h4, h5⟩, hb⟩ := h
  refine ⟨⟨ao, c, h1, h2, h3, h4, ?_⟩, hb⟩
  rcases h5 with h0 | ⟨o, rfl, hc⟩
  · exact .inl h0
  · by_cases hs : s = []
    · subst hs; exact .inl rfl
    · exact .inr ⟨o, rfl, fun j hj => (World.cell?_of_block (k.low g (hg hs))).trans (hc j hj)⟩

theorem NA.n_lt {m : Nat} {w : World} {L : La} {s : Nd} (h : NA m w L s) : m < w.heap.size := by have := lt_of_block h.top; have := h.low0; omega
theorem NA.below {m : Nat} {w w' : World} {L : La} {s : Nd} (h : NA m w L s) (k : Below w.heap.size w w') : NA m w' L s where
  ok := h.ok
  top := (k.block _ (lt_of_block h.top)).trans h.top
  dies := by obtain ⟨cur, h1, h2⟩ := h.dies; exact ⟨cur, (k.block _ (lt_of_block h1)).trans h1, h2⟩
  blocks := fun d hd => by obtain ⟨cur, h1, h2⟩ := h.blocks d hd; exact ⟨cur, (k.block _ (lt_of_block h1)).trans h1, h2⟩
  pages := fun d b hd hb => by obtain ⟨cur, h1, h2⟩ := h.pages d b hd hb; exact ⟨cur, (k.block _ (lt_of_block h1)).trans h1, h2⟩
  hold := fun d b p hd hb hp => (h.hold d b p hd hb hp).below k (Nat.le_refl _)
  nois := fun d b p hd hb hp => by obtain ⟨l, h1, h2, h3⟩ := h.nois d b p hd hb hp; exact ⟨l, h1.below k, h2, h3⟩
  msk := by obtain ⟨t, h1, h2, h3, h4⟩ := h.msk; exact ⟨t, h1.below k (Nat.le_refl _), h2, h3, h4⟩
  inj1 := h.inj1
  inj2 := h.inj2
  low0 := h.low0
  low1 := h.low1
  low2 := h.low2
  low3 := h.low3

/-- The top is written anew. -/
theorem NA.setTop {m : Nat} {w w' : World} {L : La} {s : Nd} (h : NA m w L s) (dead : Bool) (left : Nat) (mask : List Nat) (ops wrong : Int) (mv : Value)
    (hk : Kn m w w') (hoth : ∀ k : Nat, k ≠ L.n → w'.heap[k]? = w.heap[k]?) (htop : w'.heap[L.n]? = some (.cells (topC { L with mv } { s with dead, left, mask, ops, wrong }) 65 (0, 0)))
    (hl : left ≤ 9223372036854775807)
    (hm : ∃ t, Fr 0 w mv t ∧ Bs t ∧ t.length ≤ 60 ∧ (left ≠ 0 → ∀ a b : List Nat, a.length = 60 → b.length = 60 → mixL a b t = mixL a b mask)) :
    NA m w' { L with mv } { s with dead, left, mask, ops, wrong } := by
  have hne : ∀ {k : Nat} {cur : Array Value} {t : TypeId}, t ≠ 65 → w.heap[k]? = some (.cells cur t (0, 0)) → w'.heap[k]? = some (.cells cur t (0, 0)) := fun {k cur t} ht h1 => (hoth k (fun e => by
    subst e
    rw [h.top] at h1
    cases h1
    exact ht rfl)).trans h1
  exact
  { ok := ⟨h.ok.d, h.ok.b, h.ok.p, h.ok.len, h.ok.bs, h.ok.nx, hl⟩
    top := htop
    dies := by obtain ⟨cur, h1, h2⟩ := h.dies; exact ⟨cur, hne (by decide) h1, h2⟩
    blocks := fun d hd => by obtain ⟨cur, h1, h2⟩ := h.blocks d hd; exact ⟨cur, hne (by decide) h1, h2⟩
    pages := fun d b hd hb => by obtain ⟨cur, h1, h2⟩ := h.pages d b hd hb; exact ⟨cur, hne (by decide) h1, h2⟩
    hold := fun d b p hd hb hp => (h.hold d b p hd hb hp).kn hk
    nois := fun d b p hd hb hp => by obtain ⟨l, h1, h2, h3⟩ := h.nois d b p hd hb hp; exact ⟨l, h1.kn hk, h2, h3⟩
    msk := by obtain ⟨t, h1, h2, h3, h4⟩ := hm; exact ⟨t, h1.kn hk, h2, h3, h4⟩
    inj1 := h.inj1
    inj2 := h.inj2
    low0 := h.low0
    low1 := h.low1
    low2 := h.low2
    low3 := h.low3 }

/-- A cell of a block's state is written anew. -/
theorem NA.setB {m : Nat} {w : World} {L : La} {s : Nd} (h : NA m w L s) {d b i : Nat} (hd : d < s.D) (hb : b < s.B) (hi : i < 4) (v : Value) (bad : Nat → Nat → Bool) (next : Nat → Nat → Nat) (era : Nat → Nat → Int)
    (hnx : ∀ d b, next d b ≤ s.P)
    (hnew : ∀ d' b' j, d' < s.D → b' < s.B → j < 4 → blkC L { s with bad, next, era } d' b' j = if d' = d ∧ b' = b ∧ j = i then v else blkC L s d' b' j) :
    NA m (w.setCell ⟨L.bs d, b * 4 + i, none⟩ v) L { s with bad, next, era } ∧ Kn m w (w.setCell ⟨L.bs d, b * 4 + i, none⟩ v) := by
  obtain ⟨cb, hcb, hcb2⟩ := h.blocks d hd
  have hk : Kn m w (w.setCell ⟨L.bs d, b * 4 + i, none⟩ v) := Kn.set w v (h.low2 d hd) hcb (by decide)
  have hoth : ∀ k : Nat, k ≠ L.bs d → (w.setCell ⟨L.bs d, b * 4 + i, none⟩ v).heap[k]? = w.heap[k]? := fun k hk => Below.heap_setCell _ _ _ _ hk
  have hne : ∀ {k : Nat} {cur : Array Value} {t : TypeId}, t ≠ 71 → w.heap[k]? = some (.cells cur t (0, 0)) → (w.setCell ⟨L.bs d, b * 4 + i, none⟩ v).heap[k]? = some (.cells cur t (0, 0)) := fun {k cur t} ht h1 => (hoth k (fun e => by
    subst e
    rw [hcb] at h1
    cases h1
    exact ht rfl)).trans h1
  refine ⟨?_, hk⟩
  exact
  { ok := ⟨h.ok.d, h.ok.b, h.ok.p, h.ok.len, h.ok.bs, hnx, h.ok.lf⟩
    top := hne (by decide) h.top
    dies := by obtain ⟨cur, h1, h2⟩ := h.dies; exact ⟨cur, hne (by decide) h1, h2⟩
    blocks := fun d' hd' => by
      by_cases e : d' = d
      · subst e
        refine ⟨cb.setIfInBounds (b * 4 + i) v, heap_setCell_same w _ _ _ _ _ hcb, fun b' hb' j hj => ?_⟩
        rw [hnew d' b' j hd hb' hj, Array.getElem?_setIfInBounds]
        have hsz : b * 4 + i < cb.size := (Array.getElem?_eq_some_iff.1 (hcb2 b hb i hi)).1
        by_cases e2 : b' = b ∧ j = i
        · obtain ⟨rfl, rfl⟩ := e2
          rw [if_pos rfl, if_pos hsz, if_pos ⟨rfl, rfl, rfl⟩]
        · rw [if_neg (by omega), if_neg (fun h => e2 h.2)]
          exact hcb2 b' hb' j hj
      · obtain ⟨cur, h1, h2⟩ := h.blocks d' hd'
        refine ⟨cur, (hoth _ (fun e2 => e (h.inj1 _ _ hd' hd e2))).trans h1, fun b' hb' j hj => ?_⟩
        rw [hnew d' b' j hd' hb' hj, if_neg (fun h => e h.1)]
        exact h2 b' hb' j hj
    pages := fun d b hd hb => by obtain ⟨cur, h1, h2⟩ := h.pages d b hd hb; exact ⟨cur, hne (by decide) h1, h2⟩
    hold := fun d b p hd hb hp => (h.hold d b p hd hb hp).kn hk
    nois := fun d b p hd hb hp => by obtain ⟨l, h1, h2, h3⟩ := h.nois d b p hd hb hp; exact ⟨l, h1.kn hk, h2, h3⟩
    msk := by obtain ⟨t, h1, h2, h3, h4⟩ := h.msk; exact ⟨t, h1.kn hk, h2, h3, h4⟩
    inj1 := h.inj1
    inj2 := h.inj2
    low0 := h.low0
    low1 := h.low1
    low2 := h.low2
    low3 := h.low3 }

/-- At one place of three another one. -/
def put3 {α : Type} (f : Nat → Nat → Nat → α) (d b p : Nat) (x : α) : Nat → Nat → Nat → α := fun d' b' p' => if d' = d ∧ b' = b ∧ p' = p then x else f d' b' p'
def put2 {α : Type} (f : Nat → Nat → α) (d b : Nat) (x : α) : Nat → Nat → α := fun d' b' => if d' = d ∧ b' = b then x else f d' b'

/-- A cell of a page is written anew. -/
theorem NA.setP {m : Nat} {w : World} {L : La} {s : Nd} (h : NA m w L s) {d b p i : Nat} (hd : d < s.D) (hb : b < s.B) (hp : p < s.P) (hi : i < 2) (v : Value) (held : Nat → Nat → Nat → List Nat) (noise : Nat → Nat → Nat → List Int) (hv nv : Nat → Nat → Nat → Value)
    (hlen : ∀ d b p, (held d b p).length = 60) (hbs : ∀ d b p, Bs (held d b p))
    (hnew : ∀ d' b' p' j, j < 2 → pagC { L with hv, nv } d' b' p' j = if d' = d ∧ b' = b ∧ p' = p ∧ j = i then v else pagC L d' b' p' j)
    (hhold : ∀ d b p, d < s.D → b < s.B → p < s.P → Fr 0 w (hv d b p) (held d b p))
    (hnois : ∀ d b p, d < s.D → b < s.B → p < s.P → ∃ l, OwnI 0 w (nv d b p) l ∧ (∀ k ∈ l, k < 1000000) ∧ ∀ h : List Nat, h.length = 60 → Bs h → flipZ h (ints l) = flipZ h (noise d b p)) :
    NA m (w.setCell ⟨L.ps d b, p * 2 + i, none⟩ v) { L with hv, nv } { s with held, noise } ∧ Kn m w (w.setCell ⟨L.ps d b, p * 2 + i, none⟩ v) := by
  obtain ⟨cp, hcp, hcp2⟩ := h.pages d b hd hb
  have hk : Kn m w (w.setCell ⟨L.ps d b, p * 2 + i, none⟩ v) := Kn.set w v (h.low3 d b hd hb) hcp (by decide)
  have hoth : ∀ k : Nat, k ≠ L.ps d b → (w.setCell ⟨L.ps d b, p * 2 + i, none⟩ v).heap[k]? = w.heap[k]? := fun k hk => Below.heap_setCell _ _ _ _ hk
  have hne : ∀ {k : Nat} {cur : Array Value} {t : TypeId}, t ≠ 95 → w.heap[k]? = some (.cells cur t (0, 0)) → (w.setCell ⟨L.ps d b, p * 2 + i, none⟩ v).heap[k]? = some (.cells cur t (0, 0)) := fun {k cur t} ht h1 => (hoth k (fun e => by
    subst e
    rw [hcp] at h1
    cases h1
    exact ht rfl)).trans h1
  refine ⟨?_, hk⟩
  exact
  { ok := ⟨h.ok.d, h.ok.b, h.ok.p, hlen, hbs, h.ok.nx, h.ok.lf⟩
    top := hne (by decide) h.top
    dies := by obtain ⟨cur, h1, h2⟩ := h.dies; exact ⟨cur, hne (by decide) h1, h2⟩
    blocks := fun d hd => by obtain ⟨cur, h1, h2⟩ := h.blocks d hd; exact ⟨cur, hne (by decide) h1, h2⟩
    pages := fun d' b' hd' hb' => by
      by_cases e : d' = d ∧ b' = b
      · obtain ⟨rfl, rfl⟩ := e
        refine ⟨cp.setIfInBounds (p * 2 + i) v, heap_setCell_same w _ _ _ _ _ hcp, fun p' hp' j hj => ?_⟩
        rw [hnew d' b' p' j hj, Array.getElem?_setIfInBounds]
        have hsz : p * 2 + i < cp.size := (Array.getElem?_eq_some_iff.1 (hcp2 p hp i hi)).1
        by_cases e2 : p' = p ∧ j = i
        · obtain ⟨rfl, rfl⟩ := e2
          rw [if_pos rfl, if_pos hsz, if_pos ⟨rfl, rfl, rfl, rfl⟩]
        · rw [if_neg (by omega), if_neg (fun h => e2 h.2.2)]
          exact hcp2 p' hp' j hj
      · obtain ⟨cur, h1, h2⟩ := h.pages d' b' hd' hb'
        refine ⟨cur, (hoth _ (fun e2 => e (h.inj2 _ _ _ _ hd' hb' hd hb e2))).trans h1, fun p' hp' j hj => ?_⟩
        rw [hnew d' b' p' j hj, if_neg (fun h => e ⟨h.1, h.2.1⟩)]
        exact h2 p' hp' j hj
    hold := fun d b p hd hb hp => (hhold d b p hd hb hp).kn hk
    nois := fun d b p hd hb hp => by obtain ⟨l, h1, h2, h3⟩ := hnois d b p hd hb hp; exact ⟨l, h1.kn hk, h2, h3⟩
    msk := by obtain ⟨t, h1, h2, h3, h4⟩ := h.msk; exact ⟨t, h1.kn hk, h2, h3, h4⟩
    inj1 := h.inj1
    inj2 := h.inj2
    low0 := h.low0
    low1 := h.low1
    low2 := h.low2
    low3 := h.low3 }

end Go.Proofs.Ytnondiaefpdlpaa

namespace Go.Proofs.Ytnondiaefpdlpaa
open Go.RowKit Go.Shelf

/-- Where a thing of n cells stands on a shelf. -/
def onS (g N n : Nat) (z : Int) : Value := .pointer (if 0 ≤ z ∧ z < (N : Int) then some ⟨g, z.toNat * n, none⟩ else none)

theorem onS_in {g N n : Nat} {k : Nat} (h : k < N) : onS g N n (k : Int) = .pointer (some ⟨g, k * n, none⟩) := by
  rw [onS, if_pos ⟨by omega, by omega⟩]; rfl
theorem onS_out {g N n : Nat} {z : Int} (h : ¬ (0 ≤ z ∧ z < (N : Int))) : onS g N n z = .pointer none := by rw [onS, if_neg h]

set_option maxRecDepth 100000 in
set_option maxHeartbeats 2000000 in
theorem atP_any (q o g N c : Nat) (z : Int) (w : World) (hc : w.cell? ⟨q, o, none⟩ = some (.slice (some ⟨g, 0, none⟩) N c)) (_hN : N ≤ 1000) :
    Calls Try.prog 68 #[.pointer (some ⟨q, o, none⟩), .int .i64 z] w fun e w' => e = .returned (onS g N 2 z) ∧ w' = w := by
  by_cases h0 : 0 ≤ z
  · obtain ⟨k, rfl⟩ := Int.eq_ofNat_of_zero_le h0
    clear h0
    by_cases hk : k < N
    · have h1 : (k : Int) < (N : Int) := by omega
      rw [onS_in hk]
      go_enter Try.func68, Try.ntmps68
      go_wp2
      go_ret
      exact ⟨rfl, rfl⟩
    · have h1 : (N : Int) ≤ (k : Int) := by omega
      rw [onS_out (by omega)]
      go_enter Try.func68, Try.ntmps68
      go_wp2
      go_ret
      exact ⟨rfl, rfl⟩
  · have h1 : z < 0 := by omega
    rw [onS_out (by omega)]
    go_enter Try.func68, Try.ntmps68
    go_wp2
    go_ret
    exact ⟨rfl, rfl⟩

set_option maxRecDepth 100000 in
set_option maxHeartbeats 2000000 in
theorem atB_any (q o g N c : Nat) (z : Int) (w : World) (hc : w.cell? ⟨q, o, none⟩ = some (.slice (some ⟨g, 0, none⟩) N c)) (_hN : N ≤ 1000) :
    Calls Try.prog 61 #[.pointer (some ⟨q, o, none⟩), .int .i64 z] w fun e w' => e = .returned (onS g N 4 z) ∧ w' = w := by
  by_cases h0 : 0 ≤ z
  · obtain ⟨k, rfl⟩ := Int.eq_ofNat_of_zero_le h0
    clear h0
    by_cases hk : k < N
    · have h1 : (k : Int) < (N : Int) := by omega
      rw [onS_in hk]
      go_enter Try.func61, Try.ntmps61
      go_wp2
      go_ret
      exact ⟨rfl, rfl⟩
    · have h1 : (N : Int) ≤ (k : Int) := by omega
      rw [onS_out (by omega)]
      go_enter Try.func61, Try.ntmps61
      go_wp2
      go_ret
      exact ⟨rfl, rfl⟩
  · have h1 : z < 0 := by omega
    rw [onS_out (by omega)]
    go_enter Try.func61, Try.ntmps61
    go_wp2
    go_ret
    exact ⟨rfl, rfl⟩

set_option maxRecDepth 100000 in
set_option maxHeartbeats 2000000 in
theorem atB_nil (z : Int) (w : World) :
    Calls Try.prog 61 #[.pointer none, .int .i64 z] w fun e w' => e = .returned (.pointer none) ∧ w' = w := by
  go_enter Try.func61, Try.ntmps61
  go_wp2
  go_ret
  exact ⟨rfl, rfl⟩

set_option maxRecDepth 100000 in
set_option maxHeartbeats 2000000 in
theorem atD_any (q o g N c : Nat) (z : Int) (w : World) (hc : w.cell? ⟨q, o, none⟩ = some (.slice (some ⟨g, 0, none⟩) N c)) (_hN : N ≤ 1000) :
    Calls Try.prog 60 #[.pointer (some ⟨q, o, none⟩), .int .i64 z] w fun e w' => e = .returned (onS g N 1 z) ∧ w' = w := by
  by_cases h0 : 0 ≤ z
  · obtain ⟨k, rfl⟩ := Int.eq_ofNat_of_zero_le h0
    clear h0
    by_cases hk : k < N
    · have h1 : (k : Int) < (N : Int) := by omega
      rw [onS_in hk, Nat.mul_one]
      go_enter Try.func60, Try.ntmps60
      go_wp2
      go_ret
      exact ⟨rfl, rfl⟩
    · have h1 : (N : Int) ≤ (k : Int) := by omega
      rw [onS_out (by omega)]
      go_enter Try.func60, Try.ntmps60
      go_wp2
      go_ret
      exact ⟨rfl, rfl⟩
  · have h1 : z < 0 := by omega
    rw [onS_out (by omega)]
    go_enter Try.func60, Try.ntmps60
    go_wp2
    go_ret
    exact ⟨rfl, rfl⟩

/-- Is there such a block? -/
def Nd.There (s : Nd) (d b : Int) : Prop := (0 ≤ d ∧ d < (s.D : Int)) ∧ 0 ≤ b ∧ b < (s.B : Int)
instance (s : Nd) (d b : Int) : Decidable (s.There d b) := by unfold Nd.There; infer_instance

theorem NA.tc {m : Nat} {w : World} {L : La} {s : Nd} (h : NA m w L s) {j : Nat} {v : Value} (hj : (topC L s)[j]? = some v) : w.cell? ⟨L.n, j, none⟩ = some v := cell_blk h.top hj
theorem NA.cDead {m : Nat} {w : World} {L : La} {s : Nd} (h : NA m w L s) : w.cell? ⟨L.n, 4, none⟩ = some (.bool s.dead) := h.tc rfl
theorem NA.cLeft {m : Nat} {w : World} {L : La} {s : Nd} (h : NA m w L s) : w.cell? ⟨L.n, 5, none⟩ = some (.int .i64 (s.left : Int)) := h.tc rfl
theorem NA.cMask {m : Nat} {w : World} {L : La} {s : Nd} (h : NA m w L s) : w.cell? ⟨L.n, 6, none⟩ = some L.mv := h.tc rfl
theorem NA.cOps {m : Nat} {w : World} {L : La} {s : Nd} (h : NA m w L s) : w.cell? ⟨L.n, 7, none⟩ = some (.int .i64 s.ops) := h.tc rfl
theorem NA.cWrong {m : Nat} {w : World} {L : La} {s : Nd} (h : NA m w L s) : w.cell? ⟨L.n, 8, none⟩ = some (.int .i64 s.wrong) := h.tc rfl
theorem NA.dc {m : Nat} {w : World} {L : La} {s : Nd} (h : NA m w L s) {d : Nat} (hd : d < s.D) : w.cell? ⟨L.ds, d, none⟩ = some (.slice (some ⟨L.bs d, 0, none⟩) s.B s.B) := by
  obtain ⟨cur, h1, h2⟩ := h.dies
  exact cell_blk h1 (h2 d hd)
theorem NA.bc {m : Nat} {w : World} {L : La} {s : Nd} (h : NA m w L s) {d b : Nat} (hd : d < s.D) (hb : b < s.B) {j : Nat} (hj : j < 4) : w.cell? ⟨L.bs d, b * 4 + j, none⟩ = some (blkC L s d b j) := by
  obtain ⟨cur, h1, h2⟩ := h.blocks d hd
  exact cell_blk h1 (h2 b hb j hj)
theorem NA.pc {m : Nat} {w : World} {L : La} {s : Nd} (h : NA m w L s) {d b p : Nat} (hd : d < s.D) (hb : b < s.B) (hp : p < s.P) {j : Nat} (hj : j < 2) : w.cell? ⟨L.ps d b, p * 2 + j, none⟩ = some (pagC L d b p j) := by
  obtain ⟨cur, h1, h2⟩ := h.pages d b hd hb
  exact cell_blk h1 (h2 p hp j hj)
theorem free_blk {w : World} {g j : Nat} {cur : Array Value} {t : TypeId} (h : w.heap[g]? = some (.cells cur t (0, 0))) : w.frozen? ⟨g, j, none⟩ = false := by simp [World.frozen?, h]
theorem NA.tf {m : Nat} {w : World} {L : La} {s : Nd} (h : NA m w L s) (j : Nat) : w.frozen? ⟨L.n, j, none⟩ = false := free_blk h.top
theorem NA.bf {m : Nat} {w : World} {L : La} {s : Nd} (h : NA m w L s) {d : Nat} (hd : d < s.D) (j : Nat) : w.frozen? ⟨L.bs d, j, none⟩ = false := by
  obtain ⟨cur, h1, h2⟩ := h.blocks d hd
  exact free_blk h1
theorem NA.pf {m : Nat} {w : World} {L : La} {s : Nd} (h : NA m w L s) {d b : Nat} (hd : d < s.D) (hb : b < s.B) (j : Nat) : w.frozen? ⟨L.ps d b, j, none⟩ = false := by
  obtain ⟨cur, h1, h2⟩ := h.pages d b hd hb
  exact free_blk h1

/-- Where a block stands. -/
def Nd.blk (s : Nd) (L : La) (d b : Int) : Value := .pointer (if s.There d b then some ⟨L.bs d.toNat, b.toNat * 4, none⟩ else none)
def Nd.snd (s : Nd) (L : La) (d b : Int) : Value := .pointer (if s.There d b ∧ s.bad d.toNat b.toNat = false then some ⟨L.bs d.toNat, b.toNat * 4, none⟩ else none)
theorem There.nat {s : Nd} {d b : Nat} (hd : d < s.D) (hb : b < s.B) : s.There d b := ⟨⟨by omega, by omega⟩, by omega, by omega⟩

set_option maxRecDepth 100000 in
set_option maxHeartbeats 2000000 in
theorem block_any {m : Nat} {w : World} {L : La} {s : Nd} (h : NA m w L s) (d b : Int) :
    Calls Try.prog 34 #[.pointer (some ⟨L.n, 0, none⟩), .int .i64 d, .int .i64 b] w fun e w' => e = .returned (s.blk L d b) ∧ w' = w := by
  have HN := hide h
  have hD := h.ok.d
  have hB := h.ok.b
  have HC := hide (h.tc (j := 3) rfl)
  clear h
  by_cases h1 : 0 ≤ d ∧ d < (s.D : Int)
  · obtain ⟨k, rfl⟩ := Int.eq_ofNat_of_zero_le h1.1
    have hk : k < s.D := by omega
    have HO := hide (onS_in (g := L.ds) (n := 1) hk)
    have HQ := hide ((unhide HN).dc hk)
    have hr : s.blk L (k : Int) b = onS (L.bs k) s.B 4 b := by
      unfold Nd.blk onS
      by_cases hb : 0 ≤ b ∧ b < (s.B : Int)
      · rw [if_pos hb, if_pos ⟨h1, hb⟩]; rfl
      · rw [if_neg hb, if_neg (fun h => hb h.2)]
    rw [hr]
    clear h1 hr
    go_enter Try.func34, Try.ntmps34
    go_wp2_with fail
    refine (atD_any _ _ _ _ _ _ w (unhide HC) (by omega)).mono ?_
    rintro e w1 ⟨rfl, rfl⟩
    rw [unhide HO, Nat.mul_one]
    go_wp2_with fail
    refine (atB_any _ _ _ _ _ _ w1 (unhide HQ) (by omega)).mono ?_
    rintro e w1 ⟨rfl, rfl⟩
    go_wp2_with fail
    go_ret
    exact ⟨rfl, rfl⟩
  · have HO := hide (onS_out (g := L.ds) (n := 1) h1)
    have hr : s.blk L d b = .pointer none := by rw [Nd.blk, if_neg (fun h => h1 h.1)]
    rw [hr]
    clear h1 hr
    go_enter Try.func34, Try.ntmps34
    go_wp2_with fail
    refine (atD_any _ _ _ _ _ _ w (unhide HC) (by omega)).mono ?_
    rintro e w1 ⟨rfl, rfl⟩
    rw [unhide HO]
    go_wp2_with fail
    refine (atB_nil _ w1).mono ?_
    rintro e w1 ⟨rfl, rfl⟩
    go_wp2_with fail
    go_ret
    exact ⟨rfl, rfl⟩

set_option maxRecDepth 100000 in
set_option maxHeartbeats 2000000 in
theorem sound_any {m : Nat} {w : World} {L : La} {s : Nd} (h : NA m w L s) (d b : Int) :
    Calls Try.prog 47 #[.pointer (some ⟨L.n, 0, none⟩), .int .i64 d, .int .i64 b] w fun e w' => e = .returned (s.snd L d b) ∧ w' = w := by
  have HN := hide h
  clear h
  by_cases h1 : s.There d b
  · have hr : s.blk L d b = .pointer (some ⟨L.bs d.toNat, b.toNat * 4, none⟩) := by rw [Nd.blk, if_pos h1]
    obtain ⟨k, hk⟩ := Int.eq_ofNat_of_zero_le h1.1.1
    obtain ⟨j, hj⟩ := Int.eq_ofNat_of_zero_le h1.2.1
    have hkD : k < s.D := by have := h1.1.2; omega
    have hjB : j < s.B := by have := h1.2.2; omega
    subst hk
    subst hj
    have hcc : w.cell? ⟨L.bs k, j * 4, none⟩ = some (.bool (s.bad k j)) := (unhide HN).bc hkD hjB (j := 0) (by omega)
    rw [Int.toNat_natCast, Int.toNat_natCast] at hr
    have HR := hide hr
    have HCC := hide hcc
    cases hbd : s.bad k j with
    | true =>
      have hs : s.snd L k j = .pointer none := by rw [Nd.snd, if_neg (fun h => by have := h.2; rw [Int.toNat_natCast, Int.toNat_natCast, hbd] at this; cases this)]
      rw [hs]
      rw [hbd] at HCC
      clear hs hr h1 hkD hjB hbd hcc
      go_enter Try.func47, Try.ntmps47
      go_wp2_with fail
      refine (block_any (unhide HN) _ _).mono ?_
      rintro e w1 ⟨rfl, rfl⟩
      rw [unhide HR]
      have hcc := unhide HCC
      go_wp2_with fail
      go_ret
      exact ⟨rfl, rfl⟩
    | false =>
      have hs : s.snd L k j = .pointer (some ⟨L.bs k, j * 4, none⟩) := by rw [Nd.snd, if_pos ⟨h1, by rw [Int.toNat_natCast, Int.toNat_natCast]; exact hbd⟩]; rfl
      rw [hs]
      rw [hbd] at HCC
      clear hs hr h1 hkD hjB hbd hcc
      go_enter Try.func47, Try.ntmps47
      go_wp2_with fail
      refine (block_any (unhide HN) _ _).mono ?_
      rintro e w1 ⟨rfl, rfl⟩
      rw [unhide HR]
      have hcc := unhide HCC
      go_wp2_with fail
      go_ret
      exact ⟨rfl, rfl⟩
  · have HR : Hid (s.blk L d b = .pointer none) := by show _ = _; rw [Nd.blk, if_neg h1]
    have hs : s.snd L d b = .pointer none := by rw [Nd.snd, if_neg (fun h => h1 h.1)]
    rw [hs]
    clear hs h1
    go_enter Try.func47, Try.ntmps47
    go_wp2_with fail
    refine (block_any (unhide HN) _ _).mono ?_
    rintro e w1 ⟨rfl, rfl⟩
    rw [unhide HR]
    go_wp2_with fail
    go_ret
    exact ⟨rfl, rfl⟩

set_option maxRecDepth 100000 in
set_option maxHeartbeats 2000000 in
theorem page_nil (z : Int) (w : World) :
    Calls Try.prog 53 #[.pointer none, .int .i64 z] w fun e w' => e = .returned (.pointer none) ∧ w' = w := by
  go_enter Try.func53, Try.ntmps53
  go_wp2_with fail
  go_ret
  exact ⟨rfl, rfl⟩

set_option maxRecDepth 100000 in
set_option maxHeartbeats 2000000 in
theorem page_any {m : Nat} {w : World} {L : La} {s : Nd} (h : NA m w L s) {d b : Nat} (hd : d < s.D) (hb : b < s.B) (z : Int) :
    Calls Try.prog 53 #[.pointer (some ⟨L.bs d, b * 4, none⟩), .int .i64 z] w fun e w' => e = .returned (onS (L.ps d b) s.P 2 z) ∧ w' = w := by
  have hP := h.ok.p
  have HC := hide (h.bc hd hb (j := 1) (by omega))
  clear h
  go_enter Try.func53, Try.ntmps53
  go_wp2_with fail
  refine (atP_any _ _ _ _ _ _ w (unhide HC) (by omega)).mono ?_
  rintro e w1 ⟨rfl, rfl⟩
  go_wp2_with fail
  go_ret
  exact ⟨rfl, rfl⟩

end Go.Proofs.Ytnondiaefpdlpaa

namespace Go.Proofs.Ytnondiaefpdlpaa
open Go.RowKit Go.Shelf
attribute [local go_sem] Oper.semAt_some

set_option maxHeartbeats 1000000 in
theorem allP_any (q : Addr) (w : World) : Calls Try.prog 50 #[.pointer (some q)] w fun e w' =>
    e = .returned (.func (.func 67) #[] #[.pointer (some ⟨w.heap.size, 0, none⟩)]) ∧ w'.cell? ⟨w.heap.size, 0, none⟩ = some (.pointer (some q)) ∧ w'.heap.size = w.heap.size + 1 ∧ Below w.heap.size w w' := by
  go_enter Try.func50, Try.ntmps50
  go_wp2
  go_ret
  exact ⟨rfl, (cell_new' w _ _).1, World.size_alloc _ _, (Below.refl _ w).alloc (Nat.le_refl _) _⟩

set_option maxRecDepth 100000 in
set_option maxHeartbeats 4000000 in
theorem allP_x (T : Nat → Prop) (b q o g N c : Nat) (hN : N ≤ 1000) (w : World) (hcap : w.cell? ⟨b, 0, none⟩ = some (.pointer (some ⟨q, o, none⟩))) (hcs : w.cell? ⟨q, o, none⟩ = some (.slice (some ⟨g, 0, none⟩) N c)) (hTb : T b) (hTq : T q) :
    (∀ args W, (callFunc 67 args).run Try.prog W = .ok (.enter 67 args) W) ∧ SeqY Try.prog 67 #[.pointer (some ⟨b, 0, none⟩)] (fun i : Fin N => #[Value.pointer (some ⟨g, i.val * 2, none⟩)]) T 0 (fun xs => xs.map Fin.val = List.range N) N w := by
  refine ⟨enters_of Try.func67 (by kernel_rfl) rfl, ?_⟩
  intro l J W hW hJ hY h0 n
  have hA := (hW.cell (p := ⟨b, 0, none⟩) (block_lt_of_cell hcap)).trans hcap
  have hB := (hW.cell (p := ⟨q, o, none⟩) (block_lt_of_cell hcs)).trans hcs
  have HA := hide hA
  have HB := hide hB
  show CallsIn Fence.wide n Try.prog 67 #[.func (.yield l) #[] #[], .pointer (some ⟨b, 0, none⟩)] W _
  refine callsIn_of_wp Try.func67 rfl trivial ?_ rfl
  simp only [Try.ntmps67, List.size_toArray, List.length_cons, List.length_nil, Nat.reduceAdd, Nat.reduceSub, Array.replicate_succ, Array.replicate_zero, List.push_toArray, List.append_toArray, List.nil_append, List.cons_append]
  gi_wp2
  clear hA hB
  gi_loopw [8] (fun p wr => ∃ (pre : List (Fin N)) (i : Nat), p = .int .i64 i ∧ i ≤ N ∧ pre.map Fin.val = List.range i ∧ J pre wr ∧ W.heap.size ≤ wr.heap.size ∧ wr.cell? ⟨b, 0, none⟩ = some (.pointer (some ⟨q, o, none⟩)) ∧ wr.cell? ⟨q, o, none⟩ = some (.slice (some ⟨g, 0, none⟩) N c)) (fun p _ => N - (intOf p).toNat)
  case atStart => exact ⟨[], 0, rfl, by omega, rfl, h0, Nat.le_refl _, unhide HA, unhide HB⟩
  case round =>
    obtain ⟨pre, i, rfl, hi, hp, hJ1, hzW, hc1, hc2⟩ := hrel
    have hl : pre.length = i := by have := congrArg List.length hp; simpa using this
    have HP := hide hp
    have HL := hide hl
    have HC1 := hide hc1
    have HC2 := hide hc2
    have HJ1 := hide hJ1
    clear hp hl hJ1 hc2
    by_cases hlt : i < N
    · have hi1 : (i : Int) < (N : Int) := by omega
      have HO := hide (onS_in (g := g) (n := 2) hlt)
      obtain ⟨fn, tmps, assign, body, hy1, hR⟩ := hY pre ⟨i, hlt⟩ wr (unhide HJ1) (by rw [unhide HL]; exact hlt) (Nat.le_trans hzW (Nat.le_refl _))
      have HY1 := hide hy1
      clear hy1
      gi_wp2
      refine ⟨trivial, fun h => absurd h (by simp [Fence.wide]), (callsIn_wide.2 (atP_any _ _ _ _ _ _ wr (unhide HC2) hN)).mono ?_⟩
      rintro e wr ⟨rfl, rfl⟩
      rw [unhide HO]
      have hy1 := unhide HY1
      gi_wp2
      refine ⟨fun h => absurd h (by simp [Fence.wide]), (round_any hR).mono ?_⟩
      rintro e W3 ⟨rfl, hJ3, hk3⟩
      have HC1' := hide (hk3.cell (p := ⟨b, 0, none⟩) (unhide HC1) (.inr hTb))
      have HC2' := hide (hk3.cell (p := ⟨q, o, none⟩) (unhide HC2) (.inr hTq))
      have HZ3 : Hid (W.heap.size ≤ W3.heap.size) := Nat.le_trans hzW hk3.size
      have HJ3 := hide hJ3
      clear hJ3 hk3 hy1 hR hc1
      gi_wp2
      go_roundw
      case rel => exact ⟨pre ++ [⟨i, hlt⟩], i + 1, by go_num, by omega, by rw [List.map_append, unhide HP, List.range_succ]; rfl, unhide HJ3, unhide HZ3, unhide HC1', unhide HC2'⟩
      case measure => simp [intOf]; omega
    · have hi2 : i = N := by omega
      subst hi2
      gi_wp2
      go_end0
      exact ⟨⟨_, rfl⟩, pre, unhide HP, unhide HJ1⟩

set_option maxHeartbeats 1000000 in
theorem allB_any (q : Addr) (w : World) : Calls Try.prog 58 #[.pointer (some q)] w fun e w' =>
    e = .returned (.func (.func 72) #[] #[.pointer (some ⟨w.heap.size, 0, none⟩)]) ∧ w'.cell? ⟨w.heap.size, 0, none⟩ = some (.pointer (some q)) ∧ w'.heap.size = w.heap.size + 1 ∧ Below w.heap.size w w' := by
  go_enter Try.func58, Try.ntmps58
  go_wp2
  go_ret
  exact ⟨rfl, (cell_new' w _ _).1, World.size_alloc _ _, (Below.refl _ w).alloc (Nat.le_refl _) _⟩

set_option maxRecDepth 100000 in
set_option maxHeartbeats 4000000 in
theorem allB_x (T : Nat → Prop) (b q o g N c : Nat) (hN : N ≤ 1000) (w : World) (hcap : w.cell? ⟨b, 0, none⟩ = some (.pointer (some ⟨q, o, none⟩))) (hcs : w.cell? ⟨q, o, none⟩ = some (.slice (some ⟨g, 0, none⟩) N c)) (hTb : T b) (hTq : T q) :
    (∀ args W, (callFunc 72 args).run Try.prog W = .ok (.enter 72 args) W) ∧ SeqY Try.prog 72 #[.pointer (some ⟨b, 0, none⟩)] (fun i : Fin N => #[Value.pointer (some ⟨g, i.val * 4, none⟩)]) T 0 (fun xs => xs.map Fin.val = List.range N) N w := by
  refine ⟨enters_of Try.func72 (by kernel_rfl) rfl, ?_⟩
  intro l J W hW hJ hY h0 n
  have hA := (hW.cell (p := ⟨b, 0, none⟩) (block_lt_of_cell hcap)).trans hcap
  have hB := (hW.cell (p := ⟨q, o, none⟩) (block_lt_of_cell hcs)).trans hcs
  have HA := hide hA
  have HB := hide hB
  show CallsIn Fence.wide n Try.prog 72 #[.func (.yield l) #[] #[], .pointer (some ⟨b, 0, none⟩)] W _
  refine callsIn_of_wp Try.func72 rfl trivial ?_ rfl
  simp only [Try.ntmps72, List.size_toArray, List.length_cons, List.length_nil, Nat.reduceAdd, Nat.reduceSub, Array.replicate_succ, Array.replicate_zero, List.push_toArray, List.append_toArray, List.nil_append, List.cons_append]
  gi_wp2
  clear hA hB
  gi_loopw [8] (fun p wr => ∃ (pre : List (Fin N)) (i : Nat), p = .int .i64 i ∧ i ≤ N ∧ pre.map Fin.val = List.range i ∧ J pre wr ∧ W.heap.size ≤ wr.heap.size ∧ wr.cell? ⟨b, 0, none⟩ = some (.pointer (some ⟨q, o, none⟩)) ∧ wr.cell? ⟨q, o, none⟩ = some (.slice (some ⟨g, 0, none⟩) N c)) (fun p _ => N - (intOf p).toNat)
  case atStart => exact ⟨[], 0, rfl, by omega, rfl, h0, Nat.le_refl _, unhide HA, unhide HB⟩
  case round =>
    obtain ⟨pre, i, rfl, hi, hp, hJ1, hzW, hc1, hc2⟩ := hrel
    have hl : pre.length = i := by have := congrArg List.length hp; simpa using this
    have HP := hide hp
    have HL := hide hl
    have HC1 := hide hc1
    have HC2 := hide hc2
    have HJ1 := hide hJ1
    clear hp hl hJ1 hc2
    by_cases hlt : i < N
    · have hi1 : (i : Int) < (N : Int) := by omega
      have HO := hide (onS_in (g := g) (n := 4) hlt)
      obtain ⟨fn, tmps, assign, body, hy1, hR⟩ := hY pre ⟨i, hlt⟩ wr (unhide HJ1) (by rw [unhide HL]; exact hlt) (Nat.le_trans hzW (Nat.le_refl _))
      have HY1 := hide hy1
      clear hy1
      gi_wp2
      refine ⟨trivial, fun h => absurd h (by simp [Fence.wide]), (callsIn_wide.2 (atB_any _ _ _ _ _ _ wr (unhide HC2) hN)).mono ?_⟩
      rintro e wr ⟨rfl, rfl⟩
      rw [unhide HO]
      have hy1 := unhide HY1
      gi_wp2
      refine ⟨fun h => absurd h (by simp [Fence.wide]), (round_any hR).mono ?_⟩
      rintro e W3 ⟨rfl, hJ3, hk3⟩
      have HC1' := hide (hk3.cell (p := ⟨b, 0, none⟩) (unhide HC1) (.inr hTb))
      have HC2' := hide (hk3.cell (p := ⟨q, o, none⟩) (unhide HC2) (.inr hTq))
      have HZ3 : Hid (W.heap.size ≤ W3.heap.size) := Nat.le_trans hzW hk3.size
      have HJ3 := hide hJ3
      clear hJ3 hk3 hy1 hR hc1
      gi_wp2
      go_roundw
      case rel => exact ⟨pre ++ [⟨i, hlt⟩], i + 1, by go_num, by omega, by rw [List.map_append, unhide HP, List.range_succ]; rfl, unhide HJ3, unhide HZ3, unhide HC1', unhide HC2'⟩
      case measure => simp [intOf]; omega
    · have hi2 : i = N := by omega
      subst hi2
      gi_wp2
      go_end0
      exact ⟨⟨_, rfl⟩, pre, unhide HP, unhide HJ1⟩

set_option maxHeartbeats 1000000 in
theorem allD_any (q : Addr) (w : World) : Calls Try.prog 57 #[.pointer (some q)] w fun e w' =>
    e = .returned (.func (.func 71) #[] #[.pointer (some ⟨w.heap.size, 0, none⟩)]) ∧ w'.cell? ⟨w.heap.size, 0, none⟩ = some (.pointer (some q)) ∧ w'.heap.size = w.heap.size + 1 ∧ Below w.heap.size w w' := by
  go_enter Try.func57, Try.ntmps57
  go_wp2
  go_ret
  exact ⟨rfl, (cell_new' w _ _).1, World.size_alloc _ _, (Below.refl _ w).alloc (Nat.le_refl _) _⟩

set_option maxRecDepth 100000 in
set_option maxHeartbeats 4000000 in
theorem allD_x (T : Nat → Prop) (b q o g N c : Nat) (hN : N ≤ 1000) (w : World) (hcap : w.cell? ⟨b, 0, none⟩ = some (.pointer (some ⟨q, o, none⟩))) (hcs : w.cell? ⟨q, o, none⟩ = some (.slice (some ⟨g, 0, none⟩) N c)) (hTb : T b) (hTq : T q) :
    (∀ args W, (callFunc 71 args).run Try.prog W = .ok (.enter 71 args) W) ∧ SeqY Try.prog 71 #[.pointer (some ⟨b, 0, none⟩)] (fun i : Fin N => #[Value.pointer (some ⟨g, i.val, none⟩)]) T 0 (fun xs => xs.map Fin.val = List.range N) N w := by
  refine ⟨enters_of Try.func71 (by kernel_rfl) rfl, ?_⟩
  intro l J W hW hJ hY h0 n
  have hA := (hW.cell (p := ⟨b, 0, none⟩) (block_lt_of_cell hcap)).trans hcap
  have hB := (hW.cell (p := ⟨q, o, none⟩) (block_lt_of_cell hcs)).trans hcs
  have HA := hide hA
  have HB := hide hB
  show CallsIn Fence.wide n Try.prog 71 #[.func (.yield l) #[] #[], .pointer (some ⟨b, 0, none⟩)] W _
  refine callsIn_of_wp Try.func71 rfl trivial ?_ rfl
  simp only [Try.ntmps71, List.size_toArray, List.length_cons, List.length_nil, Nat.reduceAdd, Nat.reduceSub, Array.replicate_succ, Array.replicate_zero, List.push_toArray, List.append_toArray, List.nil_append, List.cons_append]
  gi_wp2
  clear hA hB
  gi_loopw [8] (fun p wr => ∃ (pre : List (Fin N)) (i : Nat), p = .int .i64 i ∧ i ≤ N ∧ pre.map Fin.val = List.range i ∧ J pre wr ∧ W.heap.size ≤ wr.heap.size ∧ wr.cell? ⟨b, 0, none⟩ = some (.pointer (some ⟨q, o, none⟩)) ∧ wr.cell? ⟨q, o, none⟩ = some (.slice (some ⟨g, 0, none⟩) N c)) (fun p _ => N - (intOf p).toNat)
  case atStart => exact ⟨[], 0, rfl, by omega, rfl, h0, Nat.le_refl _, unhide HA, unhide HB⟩
  case round =>
    obtain ⟨pre, i, rfl, hi, hp, hJ1, hzW, hc1, hc2⟩ := hrel
    have hl : pre.length = i := by have := congrArg List.length hp; simpa using this
    have HP := hide hp
    have HL := hide hl
    have HC1 := hide hc1
    have HC2 := hide hc2
    have HJ1 := hide hJ1
    clear hp hl hJ1 hc2
    by_cases hlt : i < N
    · have hi1 : (i : Int) < (N : Int) := by omega
      have HO := hide (onS_in (g := g) (n := 1) hlt)
      obtain ⟨fn, tmps, assign, body, hy1, hR⟩ := hY pre ⟨i, hlt⟩ wr (unhide HJ1) (by rw [unhide HL]; exact hlt) (Nat.le_trans hzW (Nat.le_refl _))
      have HY1 := hide hy1
      clear hy1
      gi_wp2
      refine ⟨trivial, fun h => absurd h (by simp [Fence.wide]), (callsIn_wide.2 (atD_any _ _ _ _ _ _ wr (unhide HC2) hN)).mono ?_⟩
      rintro e wr ⟨rfl, rfl⟩
      rw [unhide HO, Nat.mul_one]
      have hy1 := unhide HY1
      gi_wp2
      refine ⟨fun h => absurd h (by simp [Fence.wide]), (round_any hR).mono ?_⟩
      rintro e W3 ⟨rfl, hJ3, hk3⟩
      have HC1' := hide (hk3.cell (p := ⟨b, 0, none⟩) (unhide HC1) (.inr hTb))
      have HC2' := hide (hk3.cell (p := ⟨q, o, none⟩) (unhide HC2) (.inr hTq))
      have HZ3 : Hid (W.heap.size ≤ W3.heap.size) := Nat.le_trans hzW hk3.size
      have HJ3 := hide hJ3
      clear hJ3 hk3 hy1 hR hc1
      gi_wp2
      go_roundw
      case rel => exact ⟨pre ++ [⟨i, hlt⟩], i + 1, by go_num, by omega, by rw [List.map_append, unhide HP, List.range_succ]; rfl, unhide HJ3, unhide HZ3, unhide HC1', unhide HC2'⟩
      case measure => simp [intOf]; omega
    · have hi2 : i = N := by omega
      subst hi2
      gi_wp2
      go_end0
      exact ⟨⟨_, rfl⟩, pre, unhide HP, unhide HJ1⟩

end Go.Proofs.Ytnondiaefpdlpaa
