/-
  What the last loop of ramekinref5.Fix keeps, and what a round of it makes.
-/
import Derived.Test.YtjdikhelabibnaaGreatQ5b
namespace Go.Proofs.YtjdikhelabibnaaGreat
open Go.RowKit

theorem IBlk.kp {S : List Nat} {W W' : World} {g : Nat} {zs : List Int} (h : IBlk W g zs) (k : Kp S W W') (hg : g ∉ S) : IBlk W' g zs := h.of (k.block g h.lt hg)
theorem OutS.ine {W : World} {base gO N n : Nat} {G C : Nat → Nat} {out : List (List Nat)} (h : OutS W base gO N n G C out) {i g : Nat} {zs : List Int} (hb : IBlk W g zs) (hi : i < N) : g ≠ G i := by
  intro e
  obtain ⟨cur, h1, _⟩ := hb
  obtain ⟨c2, h2, _⟩ := h.rows i hi
  rw [← e, h1] at h2
  injection h2 with h3
  injection h3 with h4 h5
  exact absurd h5 (by decide)

/-- What stands as the last loop begins a round. -/
structure L5S (base gO N n gg ga d : Nat) (G C : Nat → Nat) (zs : List Int) (xs : List Nat) (a b : Bool) (out0 : List (List Nat)) (w W : World) (k : Nat) (out : List (List Nat)) : Prop where
  o : OutS W base gO N n G C out
  g : BBlk W gg N (fun j => !keep zs j)
  i : xs ≠ [] → IBlk W ga (ints xs)
  kp : ∀ j, j < N → keep zs j = true → out.getD j [] = out0.getD j []
  bl : Below base w W
  gd : ∀ c, c < k → Gd a b d out c
theorem L5S.below {base gO N n gg ga d k : Nat} {G C : Nat → Nat} {zs : List Int} {xs : List Nat} {a b : Bool} {out0 out : List (List Nat)} {w W W' : World} (h : L5S base gO N n gg ga d G C zs xs a b out0 w W k out) (hk : Below W.heap.size W W') : L5S base gO N n gg ga d G C zs xs a b out0 w W' k out :=
  have hb : base ≤ W.heap.size := Nat.le_of_lt (Nat.lt_of_le_of_lt h.o.ob h.o.lt)
  ⟨h.o.below hk, h.g.of (hk.block _ h.g.lt), fun ha => (h.i ha).of (hk.block _ (h.i ha).lt), h.kp, h.bl.trans (hk.mono hb), h.gd⟩
theorem L5S.drew {base gO N n gg ga d k : Nat} {G C : Nat → Nat} {zs : List Int} {xs : List Nat} {a b : Bool} {out0 out : List (List Nat)} {w W : World} (h : L5S base gO N n gg ga d G C zs xs a b out0 w W k out) : L5S base gO N n gg ga d G C zs xs a b out0 w W.drew k out :=
  h.below (W' := W.drew) ⟨rfl, rfl, rfl, Nat.le_refl _, fun _ _ => rfl⟩
theorem L5S.set {base gO N n gg ga d k x v : Nat} {G C : Nat → Nat} {zs : List Int} {xs : List Nat} {a b : Bool} {out0 out : List (List Nat)} {w W : World} (h : L5S base gO N n gg ga d G C zs xs a b out0 w W k out) (hx : x < N) (hkx : keep zs x = false) (hk : k < n) (hv : v < 256) :
    L5S base gO N n gg ga d G C zs xs a b out0 w (W.setCell ⟨G x, k, none⟩ (.int .u8 (v : Int))) k (out.set x ((out.getD x []).set k v)) := by
  have hxl : x < out.length := by rw [h.o.len]; exact hx
  have hkp : Kp [G x] W (W.setCell ⟨G x, k, none⟩ (.int .u8 (v : Int))) := (Kp.refl _ W).setCell _ _ (.inl (by simp))
  have hb : base ≤ W.heap.size := Nat.le_of_lt (Nat.lt_of_le_of_lt h.o.ob h.o.lt)
  refine ⟨h.o.set hx hk hv, h.g.kp hkp (by simpa using h.o.bne h.g hx), fun ha => (h.i ha).kp hkp (by simpa using h.o.ine (h.i ha) hx), fun j hj hkj => ?_, below_kp h.bl hkp (by simpa using h.o.lo x hx) hb, fun c hc => (h.gd c hc).congr (fun i => ?_)⟩
  · rw [getD_set hxl, if_neg (fun e => by rw [e, hkj] at hkx; cases hkx)]
    exact h.kp j hj hkj
  · rw [rc_store hxl (h.o.rl x hx) hk, if_neg (fun e => by omega)]
theorem L5S.next {base gO N n gg ga d k : Nat} {G C : Nat → Nat} {zs : List Int} {xs : List Nat} {a b : Bool} {out0 out : List (List Nat)} {w W : World} (h : L5S base gO N n gg ga d G C zs xs a b out0 w W k out) (hg : Gd a b d out k) : L5S base gO N n gg ga d G C zs xs a b out0 w W (k + 1) out :=
  ⟨h.o, h.g, h.i, h.kp, h.bl, fun c hc => by
    by_cases e : c = k
    · rw [e]; exact hg
    · exact h.gd c (by omega)⟩

theorem rc_two {out : List (List Nat)} {x y k v u n N i : Nat} (hl : out.length = N) (hr : ∀ i, i < N → (out.getD i []).length = n) (hx : x < N) (hy : y < N) (hk : k < n) :
    rc ((out.set x ((out.getD x []).set k v)).set y (((out.set x ((out.getD x []).set k v)).getD y []).set k u)) i k = if i = y then u else if i = x then v else rc out i k := by
  have hx1 : x < out.length := by omega
  rw [rc_store (n := n) (by rw [List.length_set]; omega) (by
    rw [getD_set hx1]
    split
    · rw [List.length_set]; exact hr x hx
    · exact hr y hy) hk, rc_store hx1 (hr x hx) hk]
  simp

theorem gd_two {out out2 : List (List Nat)} {p : Nat → Bool} {d k x y v u pp q : Nat} (hr : ∀ i, rc out2 i k = if i = y then u else if i = x then v else rc out i k) (hx : x < d) (hy : y < d) (hxy : x ≠ y) (hd : d ≤ 14) (hp : ∀ i, i < d → (p i = true ↔ i = x ∨ i = y)) (hb : ∀ i, Bs (out.getD i []))
    (hpp : sP out p d k ^^^ rc out d k = pp) (hq : sQ out p d k ^^^ rc out (d + 1) k = q) (hv : gmul (q ^^^ gmul (E y) pp) (pw (E x ^^^ E y) (-1)) = v) (hu : pp ^^^ v = u) : Gd true true d out2 k := by
  obtain ⟨h1, h2⟩ := solve2 (s := sP out p d k) (t := sQ out p d k) (p := pp) (q := q) (X' := E x) (Y' := E y) (v := v) (u := u) (o := rc out d k) (o' := rc out (d + 1) k) hpp.symm hq.symm (sP_lt hb) sQ_lt (hb _ _) (hb _ _) (E_lt _) (E_lt _) (E_ne_of (by omega) (by omega) hxy) hv.symm hu.symm
  have e1 : ∀ i, i < d → ¬ p i = true → rc out2 i k = rc out i k := fun i hi h => by
    rw [hr i, if_neg (fun e => h ((hp i hi).2 (.inr e))), if_neg (fun e => h ((hp i hi).2 (.inl e)))]
  have sp : xsum (fun i => if p i = true then 0 else rc out2 i k) (List.range d) = sP out p d k := xsum_congr (fun i hi => by
    by_cases h : p i = true
    · simp only [if_pos h]
    · simp only [if_neg h]; exact e1 i (List.mem_range.1 hi) h)
  have sq : xsum (fun i => if p i = true then 0 else gmul (E i) (rc out2 i k)) (List.range d) = sQ out p d k := xsum_congr (fun i hi => by
    by_cases h : p i = true
    · simp only [if_pos h]
    · simp only [if_neg h]; rw [e1 i (List.mem_range.1 hi) h])
  have rx : rc out2 x k = v := by rw [hr x, if_neg hxy, if_pos rfl]
  have ry : rc out2 y k = u := by rw [hr y, if_pos rfl]
  have rd : ∀ i, d ≤ i → rc out2 i k = rc out i k := fun i hi => by rw [hr i, if_neg (by omega), if_neg (by omega)]
  refine ⟨fun _ => ?_, fun _ => ?_⟩
  · unfold aP
    rw [xsum_part2 hx hy hxy hp, sp, rx, ry, rd d (by omega)]
    exact h1
  · unfold aQ
    rw [xsum_part2 hx hy hxy hp, sq, rx, ry, rd (d + 1) (by omega)]
    exact h2
theorem one_facts {out out2 : List (List Nat)} {p : Nat → Bool} {d k x v : Nat} (hr : ∀ i, rc out2 i k = if i = x then v else rc out i k) (hx : x < d) (hp : ∀ i, i < d → (p i = true ↔ i = x)) : aP out2 d k = sP out p d k ^^^ v ∧ aQ out2 d k = sQ out p d k ^^^ gmul (E x) v ∧ ∀ i, d ≤ i → rc out2 i k = rc out i k := by
  have e1 : ∀ i, i < d → ¬ p i = true → rc out2 i k = rc out i k := fun i hi h => by
    rw [hr i, if_neg (fun e => h ((hp i hi).2 e))]
  have sp : xsum (fun i => if p i = true then 0 else rc out2 i k) (List.range d) = sP out p d k := xsum_congr (fun i hi => by
    by_cases h : p i = true
    · simp only [if_pos h]
    · simp only [if_neg h]; exact e1 i (List.mem_range.1 hi) h)
  have sq : xsum (fun i => if p i = true then 0 else gmul (E i) (rc out2 i k)) (List.range d) = sQ out p d k := xsum_congr (fun i hi => by
    by_cases h : p i = true
    · simp only [if_pos h]
    · simp only [if_neg h]; rw [e1 i (List.mem_range.1 hi) h])
  have rx : rc out2 x k = v := by rw [hr x, if_pos rfl]
  refine ⟨?_, ?_, fun i hi => by rw [hr i, if_neg (by omega)]⟩
  · unfold aP
    rw [xsum_part1 hx hp, sp, rx]
  · unfold aQ
    rw [xsum_part1 hx hp, sq, rx]
theorem gd_oneP {out out2 : List (List Nat)} {p : Nat → Bool} {d k x v : Nat} (hr : ∀ i, rc out2 i k = if i = x then v else rc out i k) (hx : x < d) (hp : ∀ i, i < d → (p i = true ↔ i = x)) (hv : sP out p d k ^^^ rc out d k = v) : Gd true false d out2 k := by
  obtain ⟨h1, _, h3⟩ := one_facts hr hx hp
  exact ⟨fun _ => by rw [h1, h3 d (Nat.le_refl _), ← hv, xor_self_left], fun h => (by cases h)⟩
theorem gd_oneQ {out out2 : List (List Nat)} {p : Nat → Bool} {d k x v q : Nat} (hr : ∀ i, rc out2 i k = if i = x then v else rc out i k) (hx : x < d) (hp : ∀ i, i < d → (p i = true ↔ i = x)) (hb : ∀ i, Bs (out.getD i [])) (hq : sQ out p d k ^^^ rc out (d + 1) k = q) (hv : gmul q (pw (E x) (-1)) = v) : Gd false true d out2 k := by
  obtain ⟨_, h2, h3⟩ := one_facts hr hx hp
  have h0 := E_ne x
  refine ⟨fun h => (by cases h), fun _ => ?_⟩
  rw [h2, h3 (d + 1) (by omega)]
  exact solve1 sQ_lt (hb _ _) (E_lt _) (by omega) (by rw [hq, hv])
theorem two_of5 {zs : List Int} {d x y : Nat} (h : lostL zs d = [x, y]) : x < d ∧ y < d ∧ x ≠ y ∧ keep zs x = false ∧ keep zs y = false ∧ ∀ i, i < d → ((!keep zs i) = true ↔ i = x ∨ i = y) := by
  have hm : ∀ i, i ∈ lostL zs d ↔ i = x ∨ i = y := fun i => by rw [h]; simp
  have hx := lostL_mem.1 ((hm x).2 (.inl rfl))
  have hy := lostL_mem.1 ((hm y).2 (.inr rfl))
  have hnd := lostL_nodup zs d
  rw [h] at hnd
  simp at hnd
  refine ⟨hx.1, hy.1, hnd, by unfold keep; simp [hx.2], by unfold keep; simp [hy.2], fun i hi => ?_⟩
  rw [← hm i, lostL_mem]
  unfold keep
  simp [hi]
theorem one_of {zs : List Int} {d x : Nat} (h : lostL zs d = [x]) : x < d ∧ keep zs x = false ∧ ∀ i, i < d → ((!keep zs i) = true ↔ i = x) := by
  have hm : ∀ i, i ∈ lostL zs d ↔ i = x := fun i => by rw [h]; simp
  have hx := lostL_mem.1 ((hm x).2 rfl)
  refine ⟨hx.1, by unfold keep; simp [hx.2], fun i hi => ?_⟩
  rw [← hm i, lostL_mem]
  unfold keep
  simp [hi]

theorem rmul_to {a b v : Nat} (h : gmul a b = v) (ha : a < 256) (hb : b < 256) (w : World) : Calls Tryz.prog 60 #[.int .u8 a, .int .u8 b] w fun e w' => e = .returned (.int .u8 (v : Nat)) ∧ w' = w := by
  subst h
  exact rmul_any a b ha hb w
theorem rexp_to {x a : Nat} (h : E x = a) (w : World) : Calls Tryz.prog 59 #[.int .i64 (x : Int)] w fun e w' => e = .returned (.int .u8 (a : Nat)) ∧ w' = w := by
  subst h
  rw [← X_nat]
  exact rexp_any (x : Int) w
theorem rinv_to {a v : Nat} (h : pw a (-1) = v) (ha : a < 256) (w : World) : Calls Tryz.prog 73 #[.int .u8 a] w fun e w' => e = .returned (.int .u8 (v : Nat)) ∧ w' = w := by
  subst h
  exact rinv_any a ha w
theorem rsums_to {w : World} {base gO N n gg cO cG k d s t : Nat} {G C : Nat → Nat} {out : List (List Nat)} {p : Nat → Bool} (hs : sP out p d k = s) (ht : sQ out p d k = t) (hO : OutS w base gO N n G C out) (hB : BBlk w gg N p) (hdN : d + 2 = N) (hN16 : N ≤ 16) (hk : k < n) :
    Calls Tryz.prog 72 #[.slice (some ⟨gO, 0, none⟩) N cO, .slice (some ⟨gg, 0, none⟩) N cG, .int .i64 (k : Int)] w fun e w' => e = .returned (.tuple #[.int .u8 (s : Nat), .int .u8 (t : Nat)]) ∧ Below w.heap.size w w' := by
  subst hs
  subst ht
  have h := rsums_any (cO := cO) (cG := cG) hO hB (by omega) hN16 hk
  rwa [show N - 2 = d by omega] at h

end Go.Proofs.YtjdikhelabibnaaGreat
