/-
  nand: what it is by itself, and how it lies in memory.
-/
import Derived.Test.YtnondiaefpdlpaaB6k
import Derived.Test.YtnondiaefpdlpaaN6d
import Derived.Test.YtnondiaefpdlpaaM6
namespace Go.Proofs.Ytnondiaefpdlpaa
open Go.RowKit Go.Shelf

/-- Flash by itself. -/
structure Nd where
  D : Nat
  B : Nat
  P : Nat
  bad : Nat → Nat → Bool
  next : Nat → Nat → Nat
  era : Nat → Nat → Int
  held : Nat → Nat → Nat → List Nat
  noise : Nat → Nat → Nat → List Int
  left : Nat
  mask : List Nat
  dead : Bool
  ops : Int
  wrong : Int

structure Nd.Ok (s : Nd) : Prop where
  d : s.D ≤ 8
  b : s.B ≤ 12
  p : s.P ≤ 8
  len : ∀ d b p, (s.held d b p).length = 60
  bs : ∀ d b p, Bs (s.held d b p)
  nx : ∀ d b, s.next d b ≤ s.P
  lf : s.left ≤ 9223372036854775807

/-- Where its parts lie. -/
structure La where
  n : Nat
  ds : Nat
  bs : Nat → Nat
  ps : Nat → Nat → Nat
  hv : Nat → Nat → Nat → Value
  nv : Nat → Nat → Nat → Value
  mv : Value

def topC (L : La) (s : Nd) : Array Value := #[.int .i64 s.D, .int .i64 s.B, .int .i64 s.P, .slice (some ⟨L.ds, 0, none⟩) s.D s.D, .bool s.dead, .int .i64 s.left, L.mv, .int .i64 s.ops, .int .i64 s.wrong]
def blkC (L : La) (s : Nd) (d b : Nat) : Nat → Value
  | 0 => .bool (s.bad d b)
  | 1 => .slice (some ⟨L.ps d b, 0, none⟩) s.P s.P
  | 2 => .int .i64 (s.next d b : Nat)
  | _ => .int .i64 (s.era d b)
def pagC (L : La) (d b p : Nat) : Nat → Value
  | 0 => L.hv d b p
  | _ => L.nv d b p

theorem cell_blk {w : World} {g j : Nat} {cur : Array Value} {t : TypeId} {v : Value} (h : w.heap[g]? = some (.cells cur t (0, 0))) (hc : cur[j]? = some v) : w.cell? ⟨g, j, none⟩ = some v := by simp [World.cell?, h, hc]
theorem cf_rep {n i : Nat} (x : Nat) (h : i < n) : cf (List.replicate n x) i = x := by
  have h1 : i < (List.replicate n x).length := by rw [List.length_replicate]; exact h
  have := cf_get h1
  rw [List.getElem?_replicate, if_pos h] at this
  exact (Option.some.inj this).symm

/-- Of nand's four types. -/
def mine (t : TypeId) : Bool := t == 65 || t == 105 || t == 71 || t == 95
def mineO : Obj → Bool
  | .cells _ t _ => mine t
  | _ => false

/-- Flash lies in memory, from block m on. -/
structure NA (m : Nat) (w : World) (L : La) (s : Nd) : Prop where
  ok : s.Ok
  top : w.heap[L.n]? = some (.cells (topC L s) 65 (0, 0))
  dies : ∃ cur, w.heap[L.ds]? = some (.cells cur 105 (0, 0)) ∧ ∀ d, d < s.D → cur[d]? = some (.slice (some ⟨L.bs d, 0, none⟩) s.B s.B)
  blocks : ∀ d, d < s.D → ∃ cur, w.heap[L.bs d]? = some (.cells cur 71 (0, 0)) ∧ ∀ b, b < s.B → ∀ j, j < 4 → cur[b * 4 + j]? = some (blkC L s d b j)
  pages : ∀ d b, d < s.D → b < s.B → ∃ cur, w.heap[L.ps d b]? = some (.cells cur 95 (0, 0)) ∧ ∀ p, p < s.P → ∀ j, j < 2 → cur[p * 2 + j]? = some (pagC L d b p j)
  hold : ∀ d b p, d < s.D → b < s.B → p < s.P → Fr 0 w (L.hv d b p) (s.held d b p)
  nois : ∀ d b p, d < s.D → b < s.B → p < s.P → ∃ l, OwnI 0 w (L.nv d b p) l ∧ (∀ k ∈ l, k < 1000000) ∧ ∀ h : List Nat, h.length = 60 → Bs h → flipZ h (ints l) = flipZ h (s.noise d b p)
  msk : ∃ t, Fr 0 w L.mv t ∧ Bs t ∧ t.length ≤ 60 ∧ (s.left ≠ 0 → ∀ a b : List Nat, a.length = 60 → b.length = 60 → mixL a b t = mixL a b s.mask)
  inj1 : ∀ d d', d < s.D → d' < s.D → L.bs d = L.bs d' → d = d'
  inj2 : ∀ d b d' b', d < s.D → b < s.B → d' < s.D → b' < s.B → L.ps d b = L.ps d' b' → d = d' ∧ b = b'
  low0 : m ≤ L.n
  low1 : m ≤ L.ds
  low2 : ∀ d, d < s.D → m ≤ L.bs d
  low3 : ∀ d b, d < s.D → b < s.B → m ≤ L.ps d b

/-- Below m all lies as it lay; and so does what is not of nand's types. -/
structure Kn (m : Nat) (w w' : World) : Prop where
  os : w'.os = w.os
  tape : w'.tape = w.tape
  output : w'.output = w.output
  size : w.heap.size ≤ w'.heap.size
  low : ∀ k : Nat, k < m → w'.heap[k]? = w.heap[k]?
  oth : ∀ (k : Nat) (o : Obj), w.heap[k]? = some o → mineO o = false → w'.heap[k]? = some o
theorem Kn.refl (m : Nat) (w : World) : Kn m w w := ⟨rfl, rfl, rfl, Nat.le_refl _, fun _ _ => rfl, fun _ _ h _ => h⟩
theorem Kn.trans {m : Nat} {a b c : World} (h : Kn m a b) (k : Kn m b c) : Kn m a c :=
  ⟨k.os.trans h.os, k.tape.trans h.tape, k.output.trans h.output, Nat.le_trans h.size k.size, fun i hi => (k.low i hi).trans (h.low i hi), fun i o h1 h2 => k.oth i o (h.oth i o h1 h2) h2⟩
theorem Kn.of_below {m : Nat} {a b : World} (h : Below a.heap.size a b) (hm : m ≤ a.heap.size) : Kn m a b :=
  ⟨h.os, h.tape, h.output, h.size, fun k hk => h.block k (by omega), fun k o h1 _ => (h.block k (lt_of_block h1)).trans h1⟩
theorem Kn.below {m : Nat} {a b : World} (h : Kn m a b) : Below m a b := ⟨h.os, h.tape, h.output, h.size, h.low⟩
theorem Kn.set {m : Nat} (w : World) {q j : Nat} {cur : Array Value} {t : TypeId} {f : Nat × Nat} (v : Value) (hq : m ≤ q) (h : w.heap[q]? = some (.cells cur t f)) (ht : mine t = true) : Kn m w (w.setCell ⟨q, j, none⟩ v) :=
  ⟨rfl, rfl, rfl, by simp [World.setCell], fun k hk => Below.heap_setCell _ _ _ _ (by show k ≠ q; omega), fun k o h1 h2 => (Below.heap_setCell _ _ _ _ (fun e => by
    have e' : k = q := e
    subst e'
    rw [h] at h1
    cases h1
    simp only [mineO, ht] at h2
    cases h2)).trans h1⟩
theorem Kn.drew {m : Nat} {a b : World} (h : Kn m a b) : Kn m a b.drew := ⟨h.os, h.tape, h.output, h.size, h.low, h.oth⟩
theorem Blk.kn {m g : Nat} {w w' : World} {s : List Nat} (h : Blk w g s) (k : Kn m w w') : Blk w' g s := by
  obtain ⟨cur, h1, h2⟩ := h
  exact ⟨cur, k.oth g _ h1 rfl, h2⟩
theorem Fr.kn {m n : Nat} {w w' : World} {v : Value} {s : List Nat} (h : Fr n w v s) (k : Kn m w w') : Fr n w' v s := by
  rcases h with h | ⟨g, c, h1, h2, h3, h4, h5⟩
  · exact .inl h
  · exact .inr ⟨g, c, h1, h2, h3, h4.kn k, h5⟩
theorem OwnI.kn {m n : Nat} {w w' : World} {v : Value} {l : List Nat} (h : OwnI n w v l) (k : Kn m w w') : OwnI n w' v l := by
  refine ⟨h.1, ?_⟩
  rcases h.2 with h' | ⟨g, cap, cur, h1, h2, h3, h4⟩
  · exact .inl h'
  · exact .inr ⟨g, cap, cur, h1, h2, k.oth g _ h3 rfl, h4⟩
theorem Fr.low {n : Nat} {w : World} {v : Value} {s : List Nat} (h : Fr n w v s) : Fr 0 w v s := by
  rcases h with h | ⟨g, c, h1, h2, h3, h4, h5⟩
  · exact .inl h
  · exact .inr ⟨g, c, h1, h2, h3, h4, Nat.zero_le _⟩
/-- What lies below m stays an argument. -/
theorem Arg.kn {m g : Nat} {w w' : World} {v : Value} {s : List Nat} (h : Arg w v g s) (k : Kn m w w') (hg : s ≠ [] → g < m) : Arg w' v g s := by
  obtain ⟨⟨ao, c, h1, h2, h3, h4, h5⟩, hb⟩ := h
  refine ⟨⟨ao, c, h1, h2, h3, h4, ?_⟩, hb⟩
  rcases h5 with h0 | ⟨o, rfl, hc⟩
  · exact .inl h0
  · by_cases hs : s = []
    · subst hs; exact .inl rfl
    · exact .inr ⟨o, rfl, fun j hj => (World.cell?_of_block (k.low g (hg hs))).trans (hc j hj)⟩

theorem NA.n_lt {m : Nat} {w : World} {L : La} {s : Nd} (h : NA m w L s) : m < w.heap.size := by have := lt_of_block h.top; have := h.low0; omega
theorem NA.below {m : Nat} {w w' : World} {L : La} {s : Nd} (h : NA m w L s) (k : Below w.heap.size w w') : NA m w' L s where
  ok := h.ok
  top := (k.block _ (lt_of_block h.top)).trans h.top
  dies := by obtain ⟨cur, h1, h2⟩ := h.dies; exact ⟨cur, (k.block _ (lt_of_block h1)).trans h1, h2⟩
  blocks := fun d hd => by obtain ⟨cur, h1, h2⟩ := h.blocks d hd; exact ⟨cur, (k.block _ (lt_of_block h1)).trans h1, h2⟩
  pages := fun d b hd hb => by obtain ⟨cur, h1, h2⟩ := h.pages d b hd hb; exact ⟨cur, (k.block _ (lt_of_block h1)).trans h1, h2⟩
  hold := fun d b p hd hb hp => (h.hold d b p hd hb hp).below k (Nat.le_refl _)
  nois := fun d b p hd hb hp => by obtain ⟨l, h1, h2, h3⟩ := h.nois d b p hd hb hp; exact ⟨l, h1.below k, h2, h3⟩
  msk := by obtain ⟨t, h1, h2, h3, h4⟩ := h.msk; exact ⟨t, h1.below k (Nat.le_refl _), h2, h3, h4⟩
  inj1 := h.inj1
  inj2 := h.inj2
  low0 := h.low0
  low1 := h.low1
  low2 := h.low2
  low3 := h.low3

/-- The top is written anew. -/
theorem NA.setTop {m : Nat} {w w' : World} {L : La} {s : Nd} (h : NA m w L s) (dead : Bool) (left : Nat) (mask : List Nat) (ops wrong : Int) (mv : Value)
    (hk : Kn m w w') (hoth : ∀ k : Nat, k ≠ L.n → w'.heap[k]? = w.heap[k]?) (htop : w'.heap[L.n]? = some (.cells (topC { L with mv } { s with dead, left, mask, ops, wrong }) 65 (0, 0)))
    (hl : left ≤ 9223372036854775807)
    (hm : ∃ t, Fr 0 w mv t ∧ Bs t ∧ t.length ≤ 60 ∧ (left ≠ 0 → ∀ a b : List Nat, a.length = 60 → b.length = 60 → mixL a b t = mixL a b mask)) :
    NA m w' { L with mv } { s with dead, left, mask, ops, wrong } := by
  have hne : ∀ {k : Nat} {cur : Array Value} {t : TypeId}, t ≠ 65 → w.heap[k]? = some (.cells cur t (0, 0)) → w'.heap[k]? = some (.cells cur t (0, 0)) := fun {k cur t} ht h1 => (hoth k (fun e => by
    subst e
    rw [h.top] at h1
    cases h1
    exact ht rfl)).trans h1
  exact
  { ok := ⟨h.ok.d, h.ok.b, h.ok.p, h.ok.len, h.ok.bs, h.ok.nx, hl⟩
    top := htop
    dies := by obtain ⟨cur, h1, h2⟩ := h.dies; exact ⟨cur, hne (by decide) h1, h2⟩
    blocks := fun d hd => by obtain ⟨cur, h1, h2⟩ := h.blocks d hd; exact ⟨cur, hne (by decide) h1, h2⟩
    pages := fun d b hd hb => by obtain ⟨cur, h1, h2⟩ := h.pages d b hd hb; exact ⟨cur, hne (by decide) h1, h2⟩
    hold := fun d b p hd hb hp => (h.hold d b p hd hb hp).kn hk
    nois := fun d b p hd hb hp => by obtain ⟨l, h1, h2, h3⟩ := h.nois d b p hd hb hp; exact ⟨l, h1.kn hk, h2, h3⟩
    msk := by obtain ⟨t, h1, h2, h3, h4⟩ := hm; exact ⟨t, h1.kn hk, h2, h3, h4⟩
    inj1 := h.inj1
    inj2 := h.inj2
    low0 := h.low0
    low1 := h.low1
    low2 := h.low2
    low3 := h.low3 }

/-- A cell of a block's state is written anew. -/
theorem NA.setB {m : Nat} {w : World} {L : La} {s : Nd} (h : NA m w L s) {d b i : Nat} (hd : d < s.D) (hb : b < s.B) (hi : i < 4) (v : Value) (bad : Nat → Nat → Bool) (next : Nat → Nat → Nat) (era : Nat → Nat → Int)
    (hnx : ∀ d b, next d b ≤ s.P)
    (hnew : ∀ d' b' j, d' < s.D → b' < s.B → j < 4 → blkC L { s with bad, next, era } d' b' j = if d' = d ∧ b' = b ∧ j = i then v else blkC L s d' b' j) :
    NA m (w.setCell ⟨L.bs d, b * 4 + i, none⟩ v) L { s with bad, next, era } ∧ Kn m w (w.setCell ⟨L.bs d, b * 4 + i, none⟩ v) := by
  obtain ⟨cb, hcb, hcb2⟩ := h.blocks d hd
  have hk : Kn m w (w.setCell ⟨L.bs d, b * 4 + i, none⟩ v) := Kn.set w v (h.low2 d hd) hcb (by decide)
  have hoth : ∀ k : Nat, k ≠ L.bs d → (w.setCell ⟨L.bs d, b * 4 + i, none⟩ v).heap[k]? = w.heap[k]? := fun k hk => Below.heap_setCell _ _ _ _ hk
  have hne : ∀ {k : Nat} {cur : Array Value} {t : TypeId}, t ≠ 71 → w.heap[k]? = some (.cells cur t (0, 0)) → (w.setCell ⟨L.bs d, b * 4 + i, none⟩ v).heap[k]? = some (.cells cur t (0, 0)) := fun {k cur t} ht h1 => (hoth k (fun e => by
    subst e
    rw [hcb] at h1
    cases h1
    exact ht rfl)).trans h1
  refine ⟨?_, hk⟩
  exact
  { ok := ⟨h.ok.d, h.ok.b, h.ok.p, h.ok.len, h.ok.bs, hnx, h.ok.lf⟩
    top := hne (by decide) h.top
    dies := by obtain ⟨cur, h1, h2⟩ := h.dies; exact ⟨cur, hne (by decide) h1, h2⟩
    blocks := fun d' hd' => by
      by_cases e : d' = d
      · subst e
        refine ⟨cb.setIfInBounds (b * 4 + i) v, heap_setCell_same w _ _ _ _ _ hcb, fun b' hb' j hj => ?_⟩
        rw [hnew d' b' j hd hb' hj, Array.getElem?_setIfInBounds]
        have hsz : b * 4 + i < cb.size := (Array.getElem?_eq_some_iff.1 (hcb2 b hb i hi)).1
        by_cases e2 : b' = b ∧ j = i
        · obtain ⟨rfl, rfl⟩ := e2
          rw [if_pos rfl, if_pos hsz, if_pos ⟨rfl, rfl, rfl⟩]
        · rw [if_neg (by omega), if_neg (fun h => e2 h.2)]
          exact hcb2 b' hb' j hj
      · obtain ⟨cur, h1, h2⟩ := h.blocks d' hd'
        refine ⟨cur, (hoth _ (fun e2 => e (h.inj1 _ _ hd' hd e2))).trans h1, fun b' hb' j hj => ?_⟩
        rw [hnew d' b' j hd' hb' hj, if_neg (fun h => e h.1)]
        exact h2 b' hb' j hj
    pages := fun d b hd hb => by obtain ⟨cur, h1, h2⟩ := h.pages d b hd hb; exact ⟨cur, hne (by decide) h1, h2⟩
    hold := fun d b p hd hb hp => (h.hold d b p hd hb hp).kn hk
    nois := fun d b p hd hb hp => by obtain ⟨l, h1, h2, h3⟩ := h.nois d b p hd hb hp; exact ⟨l, h1.kn hk, h2, h3⟩
    msk := by obtain ⟨t, h1, h2, h3, h4⟩ := h.msk; exact ⟨t, h1.kn hk, h2, h3, h4⟩
    inj1 := h.inj1
    inj2 := h.inj2
    low0 := h.low0
    low1 := h.low1
    low2 := h.low2
    low3 := h.low3 }

/-- At one place of three another one. -/
def put3 {α : Type} (f : Nat → Nat → Nat → α) (d b p : Nat) (x : α) : Nat → Nat → Nat → α := fun d' b' p' => if d' = d ∧ b' = b ∧ p' = p then x else f d' b' p'
def put2 {α : Type} (f : Nat → Nat → α) (d b : Nat) (x : α) : Nat → Nat → α := fun d' b' => if d' = d ∧ b' = b then x else f d' b'

/-- A cell of a page is written anew. -/
theorem NA.setP {m : Nat} {w : World} {L : La} {s : Nd} (h : NA m w L s) {d b p i : Nat} (hd : d < s.D) (hb : b < s.B) (hp : p < s.P) (hi : i < 2) (v : Value) (held : Nat → Nat → Nat → List Nat) (noise : Nat → Nat → Nat → List Int) (hv nv : Nat → Nat → Nat → Value)
    (hlen : ∀ d b p, (held d b p).length = 60) (hbs : ∀ d b p, Bs (held d b p))
    (hnew : ∀ d' b' p' j, j < 2 → pagC { L with hv, nv } d' b' p' j = if d' = d ∧ b' = b ∧ p' = p ∧ j = i then v else pagC L d' b' p' j)
    (hhold : ∀ d b p, d < s.D → b < s.B → p < s.P → Fr 0 w (hv d b p) (held d b p))
    (hnois : ∀ d b p, d < s.D → b < s.B → p < s.P → ∃ l, OwnI 0 w (nv d b p) l ∧ (∀ k ∈ l, k < 1000000) ∧ ∀ h : List Nat, h.length = 60 → Bs h → flipZ h (ints l) = flipZ h (noise d b p)) :
    NA m (w.setCell ⟨L.ps d b, p * 2 + i, none⟩ v) { L with hv, nv } { s with held, noise } ∧ Kn m w (w.setCell ⟨L.ps d b, p * 2 + i, none⟩ v) := by
  obtain ⟨cp, hcp, hcp2⟩ := h.pages d b hd hb
  have hk : Kn m w (w.setCell ⟨L.ps d b, p * 2 + i, none⟩ v) := Kn.set w v (h.low3 d b hd hb) hcp (by decide)
  have hoth : ∀ k : Nat, k ≠ L.ps d b → (w.setCell ⟨L.ps d b, p * 2 + i, none⟩ v).heap[k]? = w.heap[k]? := fun k hk => Below.heap_setCell _ _ _ _ hk
  have hne : ∀ {k : Nat} {cur : Array Value} {t : TypeId}, t ≠ 95 → w.heap[k]? = some (.cells cur t (0, 0)) → (w.setCell ⟨L.ps d b, p * 2 + i, none⟩ v).heap[k]? = some (.cells cur t (0, 0)) := fun {k cur t} ht h1 => (hoth k (fun e => by
    subst e
    rw [hcp] at h1
    cases h1
    exact ht rfl)).trans h1
  refine ⟨?_, hk⟩
  exact
  { ok := ⟨h.ok.d, h.ok.b, h.ok.p, hlen, hbs, h.ok.nx, h.ok.lf⟩
    top := hne (by decide) h.top
    dies := by obtain ⟨cur, h1, h2⟩ := h.dies; exact ⟨cur, hne (by decide) h1, h2⟩
    blocks := fun d hd => by obtain ⟨cur, h1, h2⟩ := h.blocks d hd; exact ⟨cur, hne (by decide) h1, h2⟩
    pages := fun d' b' hd' hb' => by
      by_cases e : d' = d ∧ b' = b
      · obtain ⟨rfl, rfl⟩ := e
        refine ⟨cp.setIfInBounds (p * 2 + i) v, heap_setCell_same w _ _ _ _ _ hcp, fun p' hp' j hj => ?_⟩
        rw [hnew d' b' p' j hj, Array.getElem?_setIfInBounds]
        have hsz : p * 2 + i < cp.size := (Array.getElem?_eq_some_iff.1 (hcp2 p hp i hi)).1
        by_cases e2 : p' = p ∧ j = i
        · obtain ⟨rfl, rfl⟩ := e2
          rw [if_pos rfl, if_pos hsz, if_pos ⟨rfl, rfl, rfl, rfl⟩]
        · rw [if_neg (by omega), if_neg (fun h => e2 h.2.2)]
          exact hcp2 p' hp' j hj
      · obtain ⟨cur, h1, h2⟩ := h.pages d' b' hd' hb'
        refine ⟨cur, (hoth _ (fun e2 => e (h.inj2 _ _ _ _ hd' hb' hd hb e2))).trans h1, fun p' hp' j hj => ?_⟩
        rw [hnew d' b' p' j hj, if_neg (fun h => e ⟨h.1, h.2.1⟩)]
        exact h2 p' hp' j hj
    hold := fun d b p hd hb hp => (hhold d b p hd hb hp).kn hk
    nois := fun d b p hd hb hp => by obtain ⟨l, h1, h2, h3⟩ := hnois d b p hd hb hp; exact ⟨l, h1.kn hk, h2, h3⟩
    msk := by obtain ⟨t, h1, h2, h3, h4⟩ := h.msk; exact ⟨t, h1.kn hk, h2, h3, h4⟩
    inj1 := h.inj1
    inj2 := h.inj2
    low0 := h.low0
    low1 := h.low1
    low2 := h.low2
    low3 := h.low3 }

end Go.Proofs.Ytnondiaefpdlpaa
