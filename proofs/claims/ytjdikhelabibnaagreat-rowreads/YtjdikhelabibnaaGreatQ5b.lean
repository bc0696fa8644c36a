/-
  The loops of ramekinref5.Fix, taken out of it; what they make, by itself.
-/
import Derived.Test.YtjdikhelabibnaaGreatQ5a
import Derived.Test.YtjdikhelabibnaaGreatHp5
import Derived.Test.YtjdikhelabibnaaGreatF5
namespace Go.Proofs.YtjdikhelabibnaaGreat
open Go.RowKit

def loopsOf : Code → List Code
  | .loop c => [c]
  | .seq a b => loopsOf a ++ loopsOf b
  | .block _ c => loopsOf c
  | .scope c => loopsOf c
  | .cond _ a b => loopsOf a ++ loopsOf b
  | _ => []
noncomputable def fixLoop (k : Nat) : Code := ((Tryz.f39.body.map loopsOf).getD []).getD k .skip

theorem OutS.kp {S : List Nat} {W W' : World} {base gO N n : Nat} {G C : Nat → Nat} {out : List (List Nat)} (h : OutS W base gO N n G C out) (k : Kp S W W') (hg : gO ∉ S) (hr : ∀ i, i < N → G i ∉ S) : OutS W' base gO N n G C out :=
  h.of (k.block gO h.lt hg) (fun i hi => k.block _ (h.rows i hi).lt (hr i hi))
theorem BBlk.kp {S : List Nat} {W W' : World} {g N : Nat} {p : Nat → Bool} (h : BBlk W g N p) (k : Kp S W W') (hg : g ∉ S) : BBlk W' g N p := h.of (k.block g h.lt hg)
theorem kp_below {w w' : World} (h : Below w.heap.size w w') : Kp [] w w' := ⟨h.os, h.tape, h.output, h.size, fun k hk _ => h.block k hk⟩

/-- The rows that are there, and noughts for those that are lost. -/
def madeL (l : List (List Nat)) (zs : List Int) (n i : Nat) : List (List Nat) := (List.range i).map (fun c => if keep zs c = true then l.getD c [] else List.replicate n 0)
theorem madeL_len (l : List (List Nat)) (zs : List Int) (n i : Nat) : (madeL l zs n i).length = i := by simp [madeL]
theorem madeL_succ (l : List (List Nat)) (zs : List Int) (n i : Nat) : madeL l zs n (i + 1) = madeL l zs n i ++ [if keep zs i = true then l.getD i [] else List.replicate n 0] := by
  unfold madeL; rw [List.range_succ, List.map_append]; rfl
theorem madeL_get {l : List (List Nat)} {zs : List Int} {n N i : Nat} (hi : i < N) (hk : keep zs i = true) : (madeL l zs n N).getD i [] = l.getD i [] := by
  unfold madeL
  rw [List.getD_eq_getElem?_getD, List.getElem?_map, List.getElem?_range hi]
  simp [hk]

def gOf (ps : List (Option Addr × Nat)) (c : Nat) : Nat := match psA ps c with
  | some a => a.block
  | none => 0
/-- Rows that are being made. -/
structure Mk5 (base i n : Nat) (W : World) (v : Value) (ps : List (Option Addr × Nat)) (t : List (List Nat)) : Prop where
  own : OwnR base W v ps t
  tl : t.length = i
  at0 : ∀ c, c < i → psA ps c = some ⟨gOf ps c, 0, none⟩
  blk : ∀ c, c < i → Blk W (gOf ps c) (t.getD c [])
  rl : ∀ c, c < i → (t.getD c []).length = n
  cap : ∀ c, c < i → n ≤ psC ps c ∧ psC ps c ≤ maxLen
  lo : ∀ c, c < i → base ≤ gOf ps c
  inj : ∀ c c', c < c' → c' < i → gOf ps c < gOf ps c'
  bs : ∀ c, Bs (t.getD c [])
theorem gOf_snoc {ps : List (Option Addr × Nat)} {a : Option Addr} {c j : Nat} (hj : j < ps.length) : gOf (ps ++ [(a, c)]) j = gOf ps j := by
  unfold gOf; rw [(ps_snoc hj).1]
theorem gOf_last {ps : List (Option Addr × Nat)} {g c j : Nat} (hj : j = ps.length) : gOf (ps ++ [(some ⟨g, 0, none⟩, c)]) j = g := by
  unfold gOf; rw [(ps_last hj).1]
theorem Mk5.nil (base n : Nat) (W : World) : Mk5 base 0 n W (.slice none 0 0) [] [] :=
  ⟨OwnR.nil _ _, rfl, fun c h => by omega, fun c h => by omega, fun c h => by omega, fun c h => by omega, fun c h => by omega, fun c c' h h' => by omega, fun c => by simp [Bs.nil]⟩
theorem Mk5.snoc {base i n g c : Nat} {W Wq W2 : World} {v v2 : Value} {ps : List (Option Addr × Nat)} {t : List (List Nat)} {r : List Nat} (h : Mk5 base i n W v ps t) (k : Below W.heap.size W Wq) (hg : Wq.grownBy W2 v.ownBlock)
    (ho : W2.ownsRow base 47 1 v2 (i + 1) (vals5 ps t ++ [.slice (some ⟨g, 0, none⟩) n c])) (hb : Blk Wq g r) (hgl : W.heap.size ≤ g) (hrl : r.length = n) (hc : n ≤ c ∧ c ≤ maxLen) (hrb : Bs r) (hbase : base ≤ W.heap.size) :
    Mk5 base (i + 1) n W2 v2 (ps ++ [(some ⟨g, 0, none⟩, c)]) (t ++ [r]) := by
  have hpl : ps.length = i := by rw [h.own.len, h.tl]
  have hoq := h.own.below k
  have hbl : ∀ j, j < i → Blk W2 (gOf ps j) (t.getD j []) := fun j hj => ((h.blk j hj).below k (h.blk j hj).lt).grown hg (blk_ne_own hoq ((h.blk j hj).below k (h.blk j hj).lt))
  have hbr : Blk W2 g r := hb.grown hg (blk_ne_own hoq hb)
  refine ⟨h.own.snoc (n := n) (by rw [h.tl]; exact ho) (fun j hj => ?_) hrl ⟨g, by have := hbr.arg hrb (c := c) (by rw [hrl]; exact hc.1) hc.2; rwa [hrl] at this⟩, by rw [List.length_append, h.tl]; rfl, fun j hj => ?_, fun j hj => ?_, fun j hj => ?_, fun j hj => ?_, fun j hj => ?_, fun a b hab hb2 => ?_, fun j => ?_⟩
  · rw [h.tl] at hj
    rw [h.at0 j hj]
    exact ⟨_, (hbl j hj).arg (h.bs j) (by rw [h.rl j hj]; exact (h.cap j hj).1) (h.cap j hj).2⟩
  · by_cases e : j < i
    · rw [gOf_snoc (by omega), (ps_snoc (by omega)).1, h.at0 j e]
    · rw [gOf_last (by omega), (ps_last (by omega)).1]
  · by_cases e : j < i
    · rw [gOf_snoc (by omega), getD_snoc (by rw [h.tl]; exact e)]; exact hbl j e
    · have e2 : j = t.length := by rw [h.tl]; omega
      rw [gOf_last (by omega), e2, getD_last]; exact hbr
  · by_cases e : j < i
    · rw [getD_snoc (by rw [h.tl]; exact e)]; exact h.rl j e
    · have e2 : j = t.length := by rw [h.tl]; omega
      rw [e2, getD_last]; exact hrl
  · by_cases e : j < i
    · rw [(ps_snoc (by omega)).2]; exact h.cap j e
    · rw [(ps_last (by omega)).2]; exact hc
  · by_cases e : j < i
    · rw [gOf_snoc (by omega)]; exact h.lo j e
    · rw [gOf_last (by omega)]; omega
  · by_cases e : b < i
    · rw [gOf_snoc (by omega), gOf_snoc (by omega)]; exact h.inj a b hab e
    · rw [gOf_snoc (by omega), gOf_last (j := b) (by omega)]
      have := (h.blk a (by omega)).lt
      omega
  · by_cases e : j < i
    · rw [getD_snoc (by rw [h.tl]; exact e)]; exact h.bs j
    · by_cases e3 : j = i
      · have e2 : j = t.length := by rw [h.tl]; omega
        rw [e2, getD_last]; exact hrb
      · rw [List.getD_eq_getElem?_getD, List.getElem?_eq_none (by rw [List.length_append, h.tl]; simp; omega)]
        exact Bs.nil
theorem Mk5.out {base N n : Nat} {W : World} {v : Value} {ps : List (Option Addr × Nat)} {t : List (List Nat)} (h : Mk5 base N n W v ps t) (hN : 0 < N) : ∃ gO cO, v = .slice (some ⟨gO, 0, none⟩) N cO ∧ N ≤ cO ∧ cO ≤ maxLen ∧ OutS W base gO N n (gOf ps) (psC ps) t := by
  rcases h.own.own.2 with ⟨_, h0⟩ | ⟨g, cap, cur, h1, h2, h3, h4, h5, h6, h7⟩
  · rw [h.tl] at h0; omega
  · rw [h.tl] at h1 h4
    refine ⟨g, cap, h1, h4, h5, ⟨h.tl, ⟨cur, h3, fun j hj => ?_⟩, h.blk, h.rl, h.cap, h.lo, h.inj, h.bs, h2⟩⟩
    have e : (cur.toList.take (t.length * 1))[j]? = (vals5 ps t)[j]? := by rw [h7]
    rw [List.getElem?_take, if_pos (by rw [h.tl]; omega), Array.getElem?_toList, vals_get h.own.len (by rw [h.tl]; exact hj), h.rl j hj, h.at0 j hj] at e
    exact e

/-- The lost ones below d. -/
def lostL (zs : List Int) (d : Nat) : List Nat := (List.range d).filter (fun c => !keep zs c)
theorem lostL_succ (zs : List Int) (d : Nat) : lostL zs (d + 1) = lostL zs d ++ (if keep zs d = true then [] else [d]) := by
  unfold lostL
  rw [List.range_succ, List.filter_append]
  cases h : keep zs d <;> simp [h]
theorem lostL_mem {zs : List Int} {d i : Nat} : i ∈ lostL zs d ↔ i < d ∧ (i : Int) ∈ zs := by
  unfold lostL
  rw [List.mem_filter, List.mem_range]
  unfold keep
  simp
theorem lostL_nodup (zs : List Int) (d : Nat) : (lostL zs d).Nodup := List.Nodup.sublist List.filter_sublist List.nodup_range
theorem lostL_len {zs : List Int} {d : Nat} (hz : zs.length ≤ 2) : (lostL zs d).length ≤ 2 := by
  have hnd := lostL_nodup zs d
  have hm : ∀ i ∈ lostL zs d, (i : Int) ∈ zs := fun i hi => (lostL_mem.1 hi).2
  match h : lostL zs d, hnd, hm with
  | [], _, _ => simp
  | [_], _, _ => simp
  | [_, _], _, _ => simp
  | a :: b :: c :: r, hnd, hm =>
    exfalso
    have h1 := hm a (by simp)
    have h2 := hm b (by simp)
    have h3 := hm c (by simp)
    simp at hnd
    match zs, hz with
    | [], _ => simp at h1
    | [p], _ => simp at h1 h2 h3; omega
    | [p, q], _ => simp at h1 h2 h3; omega

/-- What all rows below d make at a byte. -/
def aP (out : List (List Nat)) (d c : Nat) : Nat := xsum (fun i => rc out i c) (List.range d)
def aQ (out : List (List Nat)) (d c : Nat) : Nat := xsum (fun i => gmul (E i) (rc out i c)) (List.range d)
/-- The equations that hold at a byte. -/
def Gd (a b : Bool) (d : Nat) (out : List (List Nat)) (c : Nat) : Prop := (a = true → aP out d c = rc out d c) ∧ (b = true → aQ out d c = rc out (d + 1) c)
theorem Gd.none (d : Nat) (out : List (List Nat)) (c : Nat) : Gd false false d out c := ⟨fun h => (by cases h), fun h => (by cases h)⟩
theorem Gd.congr {a b : Bool} {d c : Nat} {out out' : List (List Nat)} (h : Gd a b d out c) (e : ∀ i, rc out' i c = rc out i c) : Gd a b d out' c := by
  unfold Gd aP aQ at *
  simp only [e]
  exact h
theorem xsum_one {d x a : Nat} : xsum (fun i => if i = x then a else 0) (List.range d) = if x < d then a else 0 := by
  induction d with
  | zero => rfl
  | succ d ih =>
    rw [List.range_succ, xsum_append, ih]
    by_cases h1 : x < d
    · simp [h1, show x < d + 1 by omega, show ¬ d = x by omega]
    · by_cases h2 : d = x
      · subst h2; simp
      · simp [h1, h2, show ¬ x < d + 1 by omega]
theorem xsum_split (f : Nat → Nat) (p : Nat → Bool) (d : Nat) : xsum f (List.range d) = xsum (fun i => if p i = true then 0 else f i) (List.range d) ^^^ xsum (fun i => if p i = true then f i else 0) (List.range d) := by
  rw [← xsum_xor]
  refine xsum_congr (fun i _ => ?_)
  cases p i <;> simp
theorem xsum_part1 {f : Nat → Nat} {p : Nat → Bool} {d x : Nat} (hx : x < d) (hp : ∀ i, i < d → (p i = true ↔ i = x)) : xsum f (List.range d) = xsum (fun i => if p i = true then 0 else f i) (List.range d) ^^^ f x := by
  rw [xsum_split f p d]
  congr 1
  rw [xsum_congr (g := fun i => if i = x then f x else 0), xsum_one, if_pos hx]
  intro i hi
  have h := hp i (List.mem_range.1 hi)
  by_cases e : i = x
  · subst e; simp [h.2 rfl]
  · simp only [if_neg e]; rw [if_neg (fun h1 => e (h.1 h1))]
theorem xsum_part2 {f : Nat → Nat} {p : Nat → Bool} {d x y : Nat} (hx : x < d) (hy : y < d) (hxy : x ≠ y) (hp : ∀ i, i < d → (p i = true ↔ i = x ∨ i = y)) : xsum f (List.range d) = xsum (fun i => if p i = true then 0 else f i) (List.range d) ^^^ (f x ^^^ f y) := by
  rw [xsum_split f p d]
  congr 1
  rw [xsum_congr (g := fun i => (if i = x then f x else 0) ^^^ (if i = y then f y else 0)), xsum_xor, xsum_one, xsum_one, if_pos hx, if_pos hy]
  intro i hi
  have h := hp i (List.mem_range.1 hi)
  by_cases e : i = x
  · subst e; simp [h.2 (.inl rfl), hxy]
  · by_cases e2 : i = y
    · subst e2; simp [h.2 (.inr rfl), e]
    · simp only [if_neg e, if_neg e2]; rw [if_neg (fun h1 => (h.1 h1).elim e e2)]; simp
theorem rc_store {out : List (List Nat)} {x k v i c n : Nat} (hx : x < out.length) (hl : (out.getD x []).length = n) (hk : k < n) : rc (out.set x ((out.getD x []).set k v)) i c = if i = x ∧ c = k then v else rc out i c := by
  unfold rc
  rw [getD_set hx]
  by_cases e : x = i
  · subst e
    rw [if_pos rfl, cf_set _ _ _ _ (by rw [hl]; exact hk)]
    by_cases e2 : c = k
    · rw [if_pos e2, if_pos ⟨rfl, e2⟩]
    · rw [if_neg e2, if_neg (fun h => e2 h.2)]
  · rw [if_neg e, if_neg (fun h => e h.1.symm)]
theorem E_ne_of {x y : Nat} (hx : x < 255) (hy : y < 255) (h : x ≠ y) : E x ^^^ E y ≠ 0 := by
  intro e
  have h1 := xor_nil.1 e
  have h2 := congrArg L h1
  rw [L_E hx, L_E hy] at h2
  exact h h2
theorem xor_self_left (a b : Nat) : a ^^^ (a ^^^ b) = b := by rw [← Nat.xor_assoc, Nat.xor_self, Nat.zero_xor]
/-- Two unknowns, two equations. -/
theorem solve2 {s t p q X' Y' v u o o' : Nat} (hp : p = s ^^^ o) (hq : q = t ^^^ o') (hs : s < 256) (ht : t < 256) (ho : o < 256) (ho' : o' < 256) (hX : X' < 256) (hY : Y' < 256) (hne : X' ^^^ Y' ≠ 0) (hv : v = gmul (q ^^^ gmul Y' p) (pw (X' ^^^ Y') (-1))) (hu : u = p ^^^ v) :
    s ^^^ (v ^^^ u) = o ∧ t ^^^ (gmul X' v ^^^ gmul Y' u) = o' := by
  have hp8 : p < 256 := by rw [hp]; exact xor_lt hs ho
  have hq8 : q < 256 := by rw [hq]; exact xor_lt ht ho'
  have hr8 : q ^^^ gmul Y' p < 256 := xor_lt hq8 (gmul_lt hY)
  have hv8 : v < 256 := by rw [hv]; exact gmul_lt hr8
  have hxy : X' ^^^ Y' < 256 := xor_lt hX hY
  have hvv : gmul (X' ^^^ Y') v = q ^^^ gmul Y' p := by
    rw [hv, gmul_comm hr8 (pw_lt _ _), ← gmul_assoc hxy (pw_lt _ _) hr8, gmul_inv hxy hne, one_gmul hr8]
  constructor
  · rw [hu, Nat.xor_comm p v, xor_self_left, hp, xor_self_left]
  · rw [hu, gmul_xor]
    rw [show gmul X' v ^^^ (gmul Y' p ^^^ gmul Y' v) = (gmul X' v ^^^ gmul Y' v) ^^^ gmul Y' p by rw [Nat.xor_assoc, Nat.xor_comm (gmul Y' v)]]
    rw [← xor_gmul hX hY hv8, hvv, Nat.xor_assoc, Nat.xor_self, Nat.xor_zero, hq, xor_self_left]
/-- One unknown, by the second sum. -/
theorem solve1 {t X' v o' : Nat} (ht : t < 256) (ho' : o' < 256) (hX : X' < 256) (hne : X' ≠ 0) (hv : v = gmul (t ^^^ o') (pw X' (-1))) : t ^^^ gmul X' v = o' := by
  have hr8 : t ^^^ o' < 256 := xor_lt ht ho'
  rw [hv, gmul_comm hr8 (pw_lt _ _), ← gmul_assoc hX (pw_lt _ _) hr8, gmul_inv hX hne, one_gmul hr8, xor_self_left]

end Go.Proofs.YtjdikhelabibnaaGreat
