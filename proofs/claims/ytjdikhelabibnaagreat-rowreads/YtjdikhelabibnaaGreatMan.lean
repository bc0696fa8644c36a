/-
  
-/
import Derived.Test.YtjdikhelabibnaaGreatMam
import Derived.Test.YtjdikhelabibnaaGreatMal
namespace Go.Proofs.YtjdikhelabibnaaGreat
open Go.RowKit
def loopsOf : Code → List Code
 | .loop c => [c]
 | .seq a b => loopsOf a ++ loopsOf b
 | .block _ c => loopsOf c
 | .scope c => loopsOf c
 | .cond _ a b => loopsOf a ++ loopsOf b
 | _ => []
noncomputable def fixLoop (k : Nat) : Code := ((Tryz.f39.body.map loopsOf).getD []).getD k .skip
theorem BBlk.kp {S : List Nat} {W W' : World} {g N : Nat} {p : Nat → Bool} (h : BBlk W g N p) (k : Kp S W W') (hg : g ∉ S) : BBlk W' g N p := h.of (k.block g h.lt hg)
theorem kp_below {w w' : World} (h : Below w.heap.size w w') : Kp [] w w' := ⟨h.os, h.tape, h.output, h.size, fun k hk _ => h.block k hk⟩
def madeL (l : List (List Nat)) (zs : List Int) (n i : Nat) : List (List Nat) := (List.range i).map (fun c => if keep zs c = true then l.getD c [] else List.replicate n 0)
theorem madeL_succ (l : List (List Nat)) (zs : List Int) (n i : Nat) : madeL l zs n (i + 1) = madeL l zs n i ++ [if keep zs i = true then l.getD i [] else List.replicate n 0] := by
 unfold madeL; rw [List.range_succ, List.map_append]; rfl
theorem madeL_get {l : List (List Nat)} {zs : List Int} {n N i : Nat} (hi : i < N) (hk : keep zs i = true) : (madeL l zs n N).getD i [] = l.getD i [] := by
 unfold madeL
 rw [List.getD_eq_getElem?_getD, List.getElem?_map, List.getElem?_range hi]
 simp [hk]
def gOf (ps : List (Option Addr × Nat)) (c : Nat) : Nat := match psA ps c with
 | some a => a.block
 | none => 0
structure Mk5 (base i n : Nat) (W : World) (v : Value) (ps : List (Option Addr × Nat)) (t : List (List Nat)) : Prop where
 own : OwnR base W v ps t
 tl : t.length = i
 at0 : ∀ c, c < i → psA ps c = some ⟨gOf ps c, 0, none⟩
 blk : ∀ c, c < i → Blk W (gOf ps c) (t.getD c [])
 rl : ∀ c, c < i → (t.getD c []).length = n
 cap : ∀ c, c < i → n ≤ psC ps c ∧ psC ps c ≤ maxLen
 lo : ∀ c, c < i → base ≤ gOf ps c
 inj : ∀ c c', c < c' → c' < i → gOf ps c < gOf ps c'
 bs : ∀ c, Bs (t.getD c [])
theorem gOf_snoc {ps : List (Option Addr × Nat)} {a : Option Addr} {c j : Nat} (hj : j < ps.length) : gOf (ps ++ [(a, c)]) j = gOf ps j := by
 unfold gOf; rw [(ps_snoc hj).1]
theorem gOf_last {ps : List (Option Addr × Nat)} {g c j : Nat} (hj : j = ps.length) : gOf (ps ++ [(some ⟨g, 0, none⟩, c)]) j = g := by
 unfold gOf; rw [(ps_last hj).1]
theorem Mk5.nil (base n : Nat) (W : World) : Mk5 base 0 n W (.slice none 0 0) [] [] :=
 ⟨OwnR.nil _ _, rfl, fun c h => by omega, fun c h => by omega, fun c h => by omega, fun c h => by omega, fun c h => by omega, fun c c' h h' => by omega, fun c => by simp [Bs.nil]⟩
theorem Mk5.snoc {base i n g c : Nat} {W Wq W2 : World} {v v2 : Value} {ps : List (Option Addr × Nat)} {t : List (List Nat)} {r : List Nat} (h : Mk5 base i n W v ps t) (k : Below W.heap.size W Wq) (hg : Wq.grownBy W2 v.ownBlock)
  (ho : W2.ownsRow base 47 1 v2 (i + 1) (vals5 ps t ++ [.slice (some ⟨g, 0, none⟩) n c])) (hb : Blk Wq g r) (hgl : W.heap.size ≤ g) (hrl : r.length = n) (hc : n ≤ c ∧ c ≤ maxLen) (hrb : Bs r) (hbase : base ≤ W.heap.size) :
  Mk5 base (i + 1) n W2 v2 (ps ++ [(some ⟨g, 0, none⟩, c)]) (t ++ [r]) := by
 have hpl : ps.length = i := by rw [h.own.len, h.tl]
 have hoq := h.own.below k
 have hbl : ∀ j, j < i → Blk W2 (gOf ps j) (t.getD j []) := fun j hj => ((h.blk j hj).below k (h.blk j hj).lt).grown hg (blk_ne_own hoq ((h.blk j hj).below k (h.blk j hj).lt))
 have hbr : Blk W2 g r := hb.grown hg (blk_ne_own hoq hb)
 refine ⟨h.own.snoc (n := n) (by rw [h.tl]; exact ho) (fun j hj => ?_) hrl ⟨g, by have := hbr.arg hrb (c := c) (by rw [hrl]; exact hc.1) hc.2; rwa [hrl] at this⟩, by rw [List.length_append, h.tl]; rfl, fun j hj => ?_, fun j hj => ?_, fun j hj => ?_, fun j hj => ?_, fun j hj => ?_, fun a b hab hb2 => ?_, fun j => ?_⟩
 ·rw [h.tl] at hj
  rw [h.at0 j hj]
  exact ⟨_, (hbl j hj).arg (h.bs j) (by rw [h.rl j hj]; exact (h.cap j hj).1) (h.cap j hj).2⟩
 ·by_cases e : j < i
  ·rw [gOf_snoc (by omega), (ps_snoc (by omega)).1, h.at0 j e]
  rw [gOf_last (by omega), (ps_last (by omega)).1]
 ·by_cases e : j < i
  ·rw [gOf_snoc (by omega), getD_snoc (by rw [h.tl]; exact e)]; exact hbl j e
  have e2 : j = t.length := by rw [h.tl]; omega
  rw [gOf_last (by omega), e2, getD_last]; exact hbr
 ·by_cases e : j < i
  ·rw [getD_snoc (by rw [h.tl]; exact e)]; exact h.rl j e
  have e2 : j = t.length := by rw [h.tl]; omega
  rw [e2, getD_last]; exact hrl
 ·by_cases e : j < i
  ·rw [(ps_snoc (by omega)).2]; exact h.cap j e
  rw [(ps_last (by omega)).2]; exact hc
 ·by_cases e : j < i
  ·rw [gOf_snoc (by omega)]; exact h.lo j e
  rw [gOf_last (by omega)]; omega
 ·by_cases e : b < i
  ·rw [gOf_snoc (by omega), gOf_snoc (by omega)]; exact h.inj a b hab e
  rw [gOf_snoc (by omega), gOf_last (j := b) (by omega)]
  have := (h.blk a (by omega)).lt
  omega
 by_cases e : j < i
 ·rw [getD_snoc (by rw [h.tl]; exact e)]; exact h.bs j
 by_cases e3 : j = i
 ·have e2 : j = t.length := by rw [h.tl]; omega
  rw [e2, getD_last]; exact hrb
 rw [List.getD_eq_getElem?_getD, List.getElem?_eq_none (by rw [List.length_append, h.tl]; simp; omega)]
 exact Bs.nil
theorem Mk5.out {base N n : Nat} {W : World} {v : Value} {ps : List (Option Addr × Nat)} {t : List (List Nat)} (h : Mk5 base N n W v ps t) (hN : 0 < N) : ∃ gO cO, v = .slice (some ⟨gO, 0, none⟩) N cO ∧ N ≤ cO ∧ cO ≤ maxLen ∧ OutS W base gO N n (gOf ps) (psC ps) t := by
 rcases h.own.own.2 with ⟨_, h0⟩ | ⟨g, cap, cur, h1, h2, h3, h4, h5, h6, h7⟩
 ·rw [h.tl] at h0; omega
 rw [h.tl] at h1 h4
 refine ⟨g, cap, h1, h4, h5, ⟨h.tl, ⟨cur, h3, fun j hj => ?_⟩, h.blk, h.rl, h.cap, h.lo, h.inj, h.bs, h2⟩⟩
 have e : (cur.toList.take (t.length * 1))[j]? = (vals5 ps t)[j]? := by rw [h7]
 rw [List.getElem?_take, if_pos (by rw [h.tl]; omega), Array.getElem?_toList, vals_get h.own.len (by rw [h.tl]; exact hj), h.rl j hj, h.at0 j hj] at e
 exact e
def lostL (zs : List Int) (d : Nat) : List Nat := (List.range d).filter (fun c => !keep zs c)
theorem lostL_succ (zs : List Int) (d : Nat) : lostL zs (d + 1) = lostL zs d ++ (if keep zs d = true then [] else [d]) := by
 unfold lostL
 rw [List.range_succ, List.filter_append]
 cases h : keep zs d <;> simp [h]
theorem lostL_mem {zs : List Int} {d i : Nat} : i ∈ lostL zs d ↔ i < d ∧ (i : Int) ∈ zs := by
 unfold lostL
 rw [List.mem_filter, List.mem_range]
 unfold keep
 simp
theorem lostL_nodup (zs : List Int) (d : Nat) : (lostL zs d).Nodup := List.Nodup.sublist List.filter_sublist List.nodup_range
theorem lostL_len {zs : List Int} {d : Nat} (hz : zs.length ≤ 2) : (lostL zs d).length ≤ 2 := by
 have hnd := lostL_nodup zs d
 have hm : ∀ i ∈ lostL zs d, (i : Int) ∈ zs := fun i hi => (lostL_mem.1 hi).2
 match h : lostL zs d, hnd, hm with
 | [], _, _ => simp
 | [_], _, _ => simp
 | [_, _], _, _ => simp
 | a :: b :: c :: r, hnd, hm =>
  exfalso
  have h1 := hm a (by simp)
  have h2 := hm b (by simp)
  have h3 := hm c (by simp)
  simp at hnd
  match zs, hz with
  | [], _ => simp at h1
  | [p], _ => simp at h1 h2 h3; omega
  | [p, q], _ => simp at h1 h2 h3; omega
def aP (out : List (List Nat)) (d c : Nat) : Nat := xsum (fun i => rc out i c) (List.range d)
def aQ (out : List (List Nat)) (d c : Nat) : Nat := xsum (fun i => gmul (E i) (rc out i c)) (List.range d)
def Gd (a b : Bool) (d : Nat) (out : List (List Nat)) (c : Nat) : Prop := (a = true → aP out d c = rc out d c) ∧ (b = true → aQ out d c = rc out (d + 1) c)
theorem Gd.none (d : Nat) (out : List (List Nat)) (c : Nat) : Gd false false d out c := ⟨fun h => (by cases h), fun h => (by cases h)⟩
theorem Gd.congr {a b : Bool} {d c : Nat} {out out' : List (List Nat)} (h : Gd a b d out c) (e : ∀ i, rc out' i c = rc out i c) : Gd a b d out' c := by
 unfold Gd aP aQ at *
 simp only [e]
 exact h
theorem xsum_one {d x a : Nat} : xsum (fun i => if i = x then a else 0) (List.range d) = if x < d then a else 0 := by
 induction d with
 | zero => rfl
 | succ d ih =>
  rw [List.range_succ, xsum_append, ih]
  by_cases h1 : x < d
  ·simp [h1, show x < d + 1 by omega, show ¬ d = x by omega]
  by_cases h2 : d = x
  ·subst h2; simp
  simp [h1, h2, show ¬ x < d + 1 by omega]
theorem xsum_split (f : Nat → Nat) (p : Nat → Bool) (d : Nat) : xsum f (List.range d) = xsum (fun i => if p i = true then 0 else f i) (List.range d) ^^^ xsum (fun i => if p i = true then f i else 0) (List.range d) := by
 rw [← xsum_xor]
 refine xsum_congr (fun i _ => ?_)
 cases p i <;> simp
theorem xsum_part1 {f : Nat → Nat} {p : Nat → Bool} {d x : Nat} (hx : x < d) (hp : ∀ i, i < d → (p i = true ↔ i = x)) : xsum f (List.range d) = xsum (fun i => if p i = true then 0 else f i) (List.range d) ^^^ f x := by
 rw [xsum_split f p d]
 congr 1
 rw [xsum_congr (g := fun i => if i = x then f x else 0), xsum_one, if_pos hx]
 intro i hi
 have h := hp i (List.mem_range.1 hi)
 by_cases e : i = x
 ·subst e; simp [h.2 rfl]
 simp only [if_neg e]; rw [if_neg (fun h1 => e (h.1 h1))]
theorem xsum_part2 {f : Nat → Nat} {p : Nat → Bool} {d x y : Nat} (hx : x < d) (hy : y < d) (hxy : x ≠ y) (hp : ∀ i, i < d → (p i = true ↔ i = x ∨ i = y)) : xsum f (List.range d) = xsum (fun i => if p i = true then 0 else f i) (List.range d) ^^^ (f x ^^^ f y) := by
 rw [xsum_split f p d]
 congr 1
 rw [xsum_congr (g := fun i => (if i = x then f x else 0) ^^^ (if i = y then f y else 0)), xsum_xor, xsum_one, xsum_one, if_pos hx, if_pos hy]
 intro i hi
 have h := hp i (List.mem_range.1 hi)
 by_cases e : i = x
 ·subst e; simp [h.2 (.inl rfl), hxy]
 by_cases e2 : i = y
 ·subst e2; simp [h.2 (.inr rfl), e]
 simp only [if_neg e, if_neg e2]; rw [if_neg (fun h1 => (h.1 h1).elim e e2)]; simp
theorem rc_store {out : List (List Nat)} {x k v i c n : Nat} (hx : x < out.length) (hl : (out.getD x []).length = n) (hk : k < n) : rc (out.set x ((out.getD x []).set k v)) i c = if i = x ∧ c = k then v else rc out i c := by
 unfold rc
 rw [getD_set hx]
 by_cases e : x = i
 ·subst e
  rw [if_pos rfl, cf_set _ _ _ _ (by rw [hl]; exact hk)]
  by_cases e2 : c = k
  ·rw [if_pos e2, if_pos ⟨rfl, e2⟩]
  rw [if_neg e2, if_neg (fun h => e2 h.2)]
 rw [if_neg e, if_neg (fun h => e h.1.symm)]
theorem E_ne_of {x y : Nat} (hx : x < 255) (hy : y < 255) (h : x ≠ y) : E x ^^^ E y ≠ 0 := by
 intro e
 have h1 := xor_nil.1 e
 have h2 := congrArg L h1
 rw [L_E hx, L_E hy] at h2
 exact h h2
theorem xor_self_left (a b : Nat) : a ^^^ (a ^^^ b) = b := by rw [← Nat.xor_assoc, Nat.xor_self, Nat.zero_xor]
theorem solve2 {s t p q X' Y' v u o o' : Nat} (hp : p = s ^^^ o) (hq : q = t ^^^ o') (hs : s < 256) (ht : t < 256) (ho : o < 256) (ho' : o' < 256) (hX : X' < 256) (hY : Y' < 256) (hne : X' ^^^ Y' ≠ 0) (hv : v = gmul (q ^^^ gmul Y' p) (pw (X' ^^^ Y') (-1))) (hu : u = p ^^^ v) :
  s ^^^ (v ^^^ u) = o ∧ t ^^^ (gmul X' v ^^^ gmul Y' u) = o' := by
 have hp8 : p < 256 := by rw [hp]; exact xor_lt hs ho
 have hq8 : q < 256 := by rw [hq]; exact xor_lt ht ho'
 have hr8 : q ^^^ gmul Y' p < 256 := xor_lt hq8 (gmul_lt hY)
 have hv8 : v < 256 := by rw [hv]; exact gmul_lt hr8
 have hxy : X' ^^^ Y' < 256 := xor_lt hX hY
 have hvv : gmul (X' ^^^ Y') v = q ^^^ gmul Y' p := by
  rw [hv, gmul_comm hr8 (pw_lt _ _), ← gmul_assoc hxy (pw_lt _ _) hr8, gmul_inv hxy hne, one_gmul hr8]
 constructor
 ·rw [hu, Nat.xor_comm p v, xor_self_left, hp, xor_self_left]
 rw [hu, gmul_xor]
 rw [show gmul X' v ^^^ (gmul Y' p ^^^ gmul Y' v) = (gmul X' v ^^^ gmul Y' v) ^^^ gmul Y' p by rw [Nat.xor_assoc, Nat.xor_comm (gmul Y' v)]]
 rw [← xor_gmul hX hY hv8, hvv, Nat.xor_assoc, Nat.xor_self, Nat.xor_zero, hq, xor_self_left]
theorem solve1 {t X' v o' : Nat} (ht : t < 256) (ho' : o' < 256) (hX : X' < 256) (hne : X' ≠ 0) (hv : v = gmul (t ^^^ o') (pw X' (-1))) : t ^^^ gmul X' v = o' := by
 have hr8 : t ^^^ o' < 256 := xor_lt ht ho'
 rw [hv, gmul_comm hr8 (pw_lt _ _), ← gmul_assoc hX (pw_lt _ _) hr8, gmul_inv hX hne, one_gmul hr8, xor_self_left]
end Go.Proofs.YtjdikhelabibnaaGreat

namespace Go.Proofs.YtjdikhelabibnaaGreat
open Go.RowKit
set_option maxRecDepth 1000000 in
set_option maxHeartbeats 16000000 in
theorem fixL1 {Q : Exit → Act → World → Prop} {c2 c3 c4 c5 c8 c9 c10 c11 c12 c13 c14 c15 c16 c17 c18 c19 c20 c21 c22 c23 c24 c25 c26 c27 c28 c29 c30 c31 c32 c33 c34 c35 c36 c37 c38 c39 c40 c41 c42 c43 c44 c45 c46 c47 c48 c49 c50 c51 c52 c53 c54 c55 c56 c57 c58 c59 c60 c61 c62 c63 c64 c65 c66 c67 c68 c69 c70 c71 c72 c73 c74 c75 c76 c77 c78 c79 c80 c81 c82 c83 c84 c85 c86 c87 c88 c89 c90 c91 c92 c93 c94 c95 c96 c97 c98 c99 c100 c101 c102 c103 c104 c105 c106 c107 c108 c109 c110 c111 c112 c113 c114 c115 c116 c117 c118 c119 c120 c121 c122 c123 c124 c125 c126 c127 c128 c129 c130 c131 c132 c133 c134 c135 c136 c137 c138 c139 c140 c141 c142 c143 c144 c145 c146 c147 c148 c149 c150 c151 c152 c153 c154 c155 c156 c157 c158 c159 c160 c161 c162 c163 c164 c165 c166 c167 c168 c169 c170 c171 c172 c173 c174 c175 c176 c177 c178 c179 c180 c181 c182 c183 c184 c185 c186 c187 c188 c189 c190 c191 c192 c193 c194 c195 c196 c197 c198 c199 c200 c201 c202 c203 c204 c205 c206 c207 c208 c209 c210 c211 c212 c213 c214 c215 c216 c217 c218 c219 c220 c221 c222 c223 c224 c225 c226 c227 c228 c229 c230 c231 c232 c233 c234 c235 c236 c237 c238 c239 c240 c241 c242 c243 c244 c245 c246 c247 c248 c249 c250 c251 c252 c253 c254 c255 c256 c257 c258 c259 c260 c261 c262 c263 c264 c265 c266 c267 c268 c269 c270 c271 c272 c273 c274 c275 c276 c277 c278 c279 c280 c281 c282 c283 c284 c285 c286 c287 c288 c289 c290 c291 c292 c293 c294 c295 c296 c297 c298 c299 c300 c301 c302 c303 c304 c305 c306 c307 c308 c309 c310 c311 c312 c313 c314 c315 : Value} {w : World} {ao za : Option Addr} {N c zl zc gz gg : Nat} {zs : List Int} (hzl : zs.length = zl) (hl2 : zl ≤ 2) (hZ : IRow w za gz zs) (hbd : ∀ z ∈ zs, -9223372036854775808 ≤ z ∧ z ≤ 9223372036854775807) (hG : BBlk w gg N (fun _ => false)) (hne : zs ≠ [] → gz ≠ gg)
  (hexit : ∀ (u4 u5 u7 u54 u55 u56 u57 u58 u59 u60 u61 u62 u63 u64 u65 u66 u67 u68 u69 u70 u71 u72 u73 u74 u75 u76 u77 u78 u79 : Value) (wr : World), (∀ z ∈ zs, 0 ≤ z ∧ z < (N : Int)) → BBlk wr gg N (fun j => !keep zs j) → Kp [gg] w wr → Q (.exit 0) ⟨List.toArray ((.slice ao N c) :: (.slice za zl zc) :: c2 :: c3 :: u4 :: u5 :: (.slice (some ⟨gg, 0, none⟩) N N) :: u7 :: c8 :: c9 :: c10 :: c11 :: c12 :: c13 :: c14 :: c15 :: c16 :: c17 :: c18 :: c19 :: c20 :: c21 :: c22 :: c23 :: c24 :: c25 :: c26 :: c27 :: c28 :: c29 :: c30 :: c31 :: c32 :: c33 :: c34 :: c35 :: c36 :: c37 :: c38 :: c39 :: c40 :: c41 :: c42 :: c43 :: c44 :: c45 :: c46 :: c47 :: c48 :: c49 :: c50 :: c51 :: c52 :: c53 :: u54 :: u55 :: u56 :: u57 :: u58 :: u59 :: u60 :: u61 :: u62 :: u63 :: u64 :: u65 :: u66 :: u67 :: u68 :: u69 :: u70 :: u71 :: u72 :: u73 :: u74 :: u75 :: u76 :: u77 :: u78 :: u79 :: c80 :: c81 :: c82 :: c83 :: c84 :: c85 :: c86 :: c87 :: c88 :: c89 :: c90 :: c91 :: c92 :: c93 :: c94 :: c95 :: c96 :: c97 :: c98 :: c99 :: c100 :: c101 :: c102 :: c103 :: c104 :: c105 :: c106 :: c107 :: c108 :: c109 :: c110 :: c111 :: c112 :: c113 :: c114 :: c115 :: c116 :: c117 :: c118 :: c119 :: c120 :: c121 :: c122 :: c123 :: c124 :: c125 :: c126 :: c127 :: c128 :: c129 :: c130 :: c131 :: c132 :: c133 :: c134 :: c135 :: c136 :: c137 :: c138 :: c139 :: c140 :: c141 :: c142 :: c143 :: c144 :: c145 :: c146 :: c147 :: c148 :: c149 :: c150 :: c151 :: c152 :: c153 :: c154 :: c155 :: c156 :: c157 :: c158 :: c159 :: c160 :: c161 :: c162 :: c163 :: c164 :: c165 :: c166 :: c167 :: c168 :: c169 :: c170 :: c171 :: c172 :: c173 :: c174 :: c175 :: c176 :: c177 :: c178 :: c179 :: c180 :: c181 :: c182 :: c183 :: c184 :: c185 :: c186 :: c187 :: c188 :: c189 :: c190 :: c191 :: c192 :: c193 :: c194 :: c195 :: c196 :: c197 :: c198 :: c199 :: c200 :: c201 :: c202 :: c203 :: c204 :: c205 :: c206 :: c207 :: c208 :: c209 :: c210 :: c211 :: c212 :: c213 :: c214 :: c215 :: c216 :: c217 :: c218 :: c219 :: c220 :: c221 :: c222 :: c223 :: c224 :: c225 :: c226 :: c227 :: c228 :: c229 :: c230 :: c231 :: c232 :: c233 :: c234 :: c235 :: c236 :: c237 :: c238 :: c239 :: c240 :: c241 :: c242 :: c243 :: c244 :: c245 :: c246 :: c247 :: c248 :: c249 :: c250 :: c251 :: c252 :: c253 :: c254 :: c255 :: c256 :: c257 :: c258 :: c259 :: c260 :: c261 :: c262 :: c263 :: c264 :: c265 :: c266 :: c267 :: c268 :: c269 :: c270 :: c271 :: c272 :: c273 :: c274 :: c275 :: c276 :: c277 :: c278 :: c279 :: c280 :: c281 :: c282 :: c283 :: c284 :: c285 :: c286 :: c287 :: c288 :: c289 :: c290 :: c291 :: c292 :: c293 :: c294 :: c295 :: c296 :: c297 :: c298 :: c299 :: c300 :: c301 :: c302 :: c303 :: c304 :: c305 :: c306 :: c307 :: c308 :: c309 :: c310 :: c311 :: c312 :: c313 :: c314 :: c315 :: []), []⟩ wr)
  (hret : ∀ (u7 u54 u55 u56 u57 u58 u59 u60 u61 u62 u63 u64 u65 u66 u67 u68 u69 u70 u71 u72 u73 u74 u75 u76 u77 u78 u79 : Value) (wr : World), (∃ z ∈ zs, ¬ (0 ≤ z ∧ z < (N : Int))) → Kp [gg] w wr → Q (.ret) ⟨List.toArray ((.slice ao N c) :: (.slice za zl zc) :: c2 :: c3 :: (.slice none 0 0) :: (.bool false) :: (.slice (some ⟨gg, 0, none⟩) N N) :: u7 :: c8 :: c9 :: c10 :: c11 :: c12 :: c13 :: c14 :: c15 :: c16 :: c17 :: c18 :: c19 :: c20 :: c21 :: c22 :: c23 :: c24 :: c25 :: c26 :: c27 :: c28 :: c29 :: c30 :: c31 :: c32 :: c33 :: c34 :: c35 :: c36 :: c37 :: c38 :: c39 :: c40 :: c41 :: c42 :: c43 :: c44 :: c45 :: c46 :: c47 :: c48 :: c49 :: c50 :: c51 :: c52 :: c53 :: u54 :: u55 :: u56 :: u57 :: u58 :: u59 :: u60 :: u61 :: u62 :: u63 :: u64 :: u65 :: u66 :: u67 :: u68 :: u69 :: u70 :: u71 :: u72 :: u73 :: u74 :: u75 :: u76 :: u77 :: u78 :: u79 :: c80 :: c81 :: c82 :: c83 :: c84 :: c85 :: c86 :: c87 :: c88 :: c89 :: c90 :: c91 :: c92 :: c93 :: c94 :: c95 :: c96 :: c97 :: c98 :: c99 :: c100 :: c101 :: c102 :: c103 :: c104 :: c105 :: c106 :: c107 :: c108 :: c109 :: c110 :: c111 :: c112 :: c113 :: c114 :: c115 :: c116 :: c117 :: c118 :: c119 :: c120 :: c121 :: c122 :: c123 :: c124 :: c125 :: c126 :: c127 :: c128 :: c129 :: c130 :: c131 :: c132 :: c133 :: c134 :: c135 :: c136 :: c137 :: c138 :: c139 :: c140 :: c141 :: c142 :: c143 :: c144 :: c145 :: c146 :: c147 :: c148 :: c149 :: c150 :: c151 :: c152 :: c153 :: c154 :: c155 :: c156 :: c157 :: c158 :: c159 :: c160 :: c161 :: c162 :: c163 :: c164 :: c165 :: c166 :: c167 :: c168 :: c169 :: c170 :: c171 :: c172 :: c173 :: c174 :: c175 :: c176 :: c177 :: c178 :: c179 :: c180 :: c181 :: c182 :: c183 :: c184 :: c185 :: c186 :: c187 :: c188 :: c189 :: c190 :: c191 :: c192 :: c193 :: c194 :: c195 :: c196 :: c197 :: c198 :: c199 :: c200 :: c201 :: c202 :: c203 :: c204 :: c205 :: c206 :: c207 :: c208 :: c209 :: c210 :: c211 :: c212 :: c213 :: c214 :: c215 :: c216 :: c217 :: c218 :: c219 :: c220 :: c221 :: c222 :: c223 :: c224 :: c225 :: c226 :: c227 :: c228 :: c229 :: c230 :: c231 :: c232 :: c233 :: c234 :: c235 :: c236 :: c237 :: c238 :: c239 :: c240 :: c241 :: c242 :: c243 :: c244 :: c245 :: c246 :: c247 :: c248 :: c249 :: c250 :: c251 :: c252 :: c253 :: c254 :: c255 :: c256 :: c257 :: c258 :: c259 :: c260 :: c261 :: c262 :: c263 :: c264 :: c265 :: c266 :: c267 :: c268 :: c269 :: c270 :: c271 :: c272 :: c273 :: c274 :: c275 :: c276 :: c277 :: c278 :: c279 :: c280 :: c281 :: c282 :: c283 :: c284 :: c285 :: c286 :: c287 :: c288 :: c289 :: c290 :: c291 :: c292 :: c293 :: c294 :: c295 :: c296 :: c297 :: c298 :: c299 :: c300 :: c301 :: c302 :: c303 :: c304 :: c305 :: c306 :: c307 :: c308 :: c309 :: c310 :: c311 :: c312 :: c313 :: c314 :: c315 :: []), []⟩ wr)
  : Code.wp Tryz.prog (Code.loop (fixLoop 0)) Q ⟨List.toArray ((.slice ao N c) :: (.slice za zl zc) :: c2 :: c3 :: c4 :: c5 :: (.slice (some ⟨gg, 0, none⟩) N N) :: (.int .i64 0) :: c8 :: c9 :: c10 :: c11 :: c12 :: c13 :: c14 :: c15 :: c16 :: c17 :: c18 :: c19 :: c20 :: c21 :: c22 :: c23 :: c24 :: c25 :: c26 :: c27 :: c28 :: c29 :: c30 :: c31 :: c32 :: c33 :: c34 :: c35 :: c36 :: c37 :: c38 :: c39 :: c40 :: c41 :: c42 :: c43 :: c44 :: c45 :: c46 :: c47 :: c48 :: c49 :: c50 :: c51 :: c52 :: c53 :: c54 :: c55 :: c56 :: c57 :: c58 :: c59 :: c60 :: c61 :: c62 :: c63 :: c64 :: c65 :: c66 :: c67 :: c68 :: c69 :: c70 :: c71 :: c72 :: c73 :: c74 :: c75 :: c76 :: c77 :: c78 :: c79 :: c80 :: c81 :: c82 :: c83 :: c84 :: c85 :: c86 :: c87 :: c88 :: c89 :: c90 :: c91 :: c92 :: c93 :: c94 :: c95 :: c96 :: c97 :: c98 :: c99 :: c100 :: c101 :: c102 :: c103 :: c104 :: c105 :: c106 :: c107 :: c108 :: c109 :: c110 :: c111 :: c112 :: c113 :: c114 :: c115 :: c116 :: c117 :: c118 :: c119 :: c120 :: c121 :: c122 :: c123 :: c124 :: c125 :: c126 :: c127 :: c128 :: c129 :: c130 :: c131 :: c132 :: c133 :: c134 :: c135 :: c136 :: c137 :: c138 :: c139 :: c140 :: c141 :: c142 :: c143 :: c144 :: c145 :: c146 :: c147 :: c148 :: c149 :: c150 :: c151 :: c152 :: c153 :: c154 :: c155 :: c156 :: c157 :: c158 :: c159 :: c160 :: c161 :: c162 :: c163 :: c164 :: c165 :: c166 :: c167 :: c168 :: c169 :: c170 :: c171 :: c172 :: c173 :: c174 :: c175 :: c176 :: c177 :: c178 :: c179 :: c180 :: c181 :: c182 :: c183 :: c184 :: c185 :: c186 :: c187 :: c188 :: c189 :: c190 :: c191 :: c192 :: c193 :: c194 :: c195 :: c196 :: c197 :: c198 :: c199 :: c200 :: c201 :: c202 :: c203 :: c204 :: c205 :: c206 :: c207 :: c208 :: c209 :: c210 :: c211 :: c212 :: c213 :: c214 :: c215 :: c216 :: c217 :: c218 :: c219 :: c220 :: c221 :: c222 :: c223 :: c224 :: c225 :: c226 :: c227 :: c228 :: c229 :: c230 :: c231 :: c232 :: c233 :: c234 :: c235 :: c236 :: c237 :: c238 :: c239 :: c240 :: c241 :: c242 :: c243 :: c244 :: c245 :: c246 :: c247 :: c248 :: c249 :: c250 :: c251 :: c252 :: c253 :: c254 :: c255 :: c256 :: c257 :: c258 :: c259 :: c260 :: c261 :: c262 :: c263 :: c264 :: c265 :: c266 :: c267 :: c268 :: c269 :: c270 :: c271 :: c272 :: c273 :: c274 :: c275 :: c276 :: c277 :: c278 :: c279 :: c280 :: c281 :: c282 :: c283 :: c284 :: c285 :: c286 :: c287 :: c288 :: c289 :: c290 :: c291 :: c292 :: c293 :: c294 :: c295 :: c296 :: c297 :: c298 :: c299 :: c300 :: c301 :: c302 :: c303 :: c304 :: c305 :: c306 :: c307 :: c308 :: c309 :: c310 :: c311 :: c312 :: c313 :: c314 :: c315 :: []), []⟩ w := by
 conv => arg 2; arg 1; whnf
 have HEXIT := hide hexit
 clear hexit
 have HRET := hide hret
 clear hret
 have HZ := hide hZ
 have HBD := hide hbd
 have HG := hide hG
 have HNE := hide hne
 have HZL := hide hzl
 clear hZ hbd hG hne hzl
 go_loopw [7] (fun p wr => ∃ i : Nat, p = .int .i64 i ∧ i ≤ zl ∧ (∀ z ∈ zs.take i, 0 ≤ z ∧ z < (N : Int)) ∧ BBlk wr gg N (fun j => decide ((j : Int) ∈ zs.take i)) ∧ Kp [gg] w wr) (fun p _ => zl - (intOf p).toNat)
 case atStart => exact ⟨0, rfl, by omega, by simp, by simpa using uh HG, Kp.refl _ _⟩
 case round =>
  obtain ⟨i, rfl, hi, hall, hB, hK⟩ := hrel
  have HALL := hide hall
  have HB := hide hB
  have HK := hide hK
  clear hall hB hK
  by_cases hlt : i < zl
  ·have hi1 : (i : Int) < (zl : Int) := by omega
   have hzn : 0 < zs.length := by rw [uh HZL]; omega
   obtain ⟨o, rfl, hcl⟩ := irow_some' (uh HZ) hzn
   have hgz : gz ≠ gg := uh HNE (List.length_pos_iff.1 hzn)
   have hc := (uh HK).cell (hcl i (by rw [uh HZL]; exact hlt)) (by simpa using hgz)
   have hmem : zs.getD i 0 ∈ zs := by
    rw [List.getD_eq_getElem?_getD, List.getElem?_eq_getElem (by rw [uh HZL]; exact hlt)]
    exact List.getElem_mem _
   obtain ⟨hb1, hb2⟩ := uh HBD _ hmem
   have HMEM := hide hmem
   have HTK := hide (fun x : Int => take_getD (zs := zs) (i := i) (by rw [uh HZL]; exact hlt) x)
   obtain ⟨z, hz⟩ : ∃ z, zs.getD i 0 = z := ⟨_, rfl⟩
   rw [hz] at hc HMEM hb1 hb2 HTK
   clear hz hcl hmem
   by_cases hz0 : z < 0
   ·go_wp2_with fail
    refine uh HRET _ _ _ _ _ _ _ _ _ _ _ _ _ _ _ _ _ _ _ _ _ _ _ _ _ _ _ _ ?_ ?_
    ·exact ⟨z, uh HMEM, by omega⟩
    exact uh HK
   by_cases hzN : (N : Int) ≤ z
   ·have hz1 : 0 ≤ z := by omega
    go_wp2_with fail
    refine uh HRET _ _ _ _ _ _ _ _ _ _ _ _ _ _ _ _ _ _ _ _ _ _ _ _ _ _ _ _ ?_ ?_
    ·exact ⟨z, uh HMEM, by omega⟩
    exact uh HK
   obtain ⟨m, rfl⟩ : ∃ m : Nat, z = (m : Int) := ⟨z.toNat, by omega⟩
   have hm : m < N := by omega
   have hm1 : (m : Int) < (N : Int) := by omega
   have hm0 : (0 : Int) ≤ (m : Int) := by omega
   have hcb := (uh HB).cell hm
   have hfb := (uh HB).free (j := m)
   have HB2 := hide (((uh HB).set m true hm).congr (q := fun j => decide ((j : Int) ∈ zs.take (i + 1))) (fun j hj => by
    by_cases e : j = m
    ·rw [if_pos e, e]; exact (decide_eq_true ((uh HTK _).2 (.inr rfl))).symm
    rw [if_neg e]
    refine decide_eq_decide.2 ⟨fun h => (uh HTK _).2 (.inl h), fun h => ?_⟩
    rcases (uh HTK _).1 h with h | h
    ·exact h
    exact absurd h (by omega)))
   have HK2 := hide ((uh HK).setCell ⟨gg, m, none⟩ (.bool true) (.inl (by simp)))
   clear hz0 hzN
   go_wp2_with fail
   go_roundw
   case rel => exact ⟨i + 1, by go_num, by omega, fun x hx => by
    rcases (uh HTK x).1 hx with h | h
    ·exact uh HALL x h
    rw [← h]; exact ⟨by omega, by omega⟩, uh HB2, uh HK2⟩
   case measure => simp [intOf]; omega
  have hi2 : i = zl := by omega
  subst hi2
  have HA2 : Hid (∀ z ∈ zs, 0 ≤ z ∧ z < (N : Int)) := by
   have h := uh HALL
   rw [← uh HZL, List.take_length] at h
   exact h
  have HB2 : Hid (BBlk wr gg N (fun j => !keep zs j)) := (uh HB).congr (fun j _ => by rw [← uh HZL, List.take_length]; simp [keep])
  go_wp2_with fail
  refine uh HEXIT _ _ _ _ _ _ _ _ _ _ _ _ _ _ _ _ _ _ _ _ _ _ _ _ _ _ _ _ _ _ ?_ ?_ ?_
  ·exact uh HA2
  ·exact uh HB2
  exact uh HK
end Go.Proofs.YtjdikhelabibnaaGreat

namespace Go.Proofs.YtjdikhelabibnaaGreat
open Go.RowKit
set_option maxRecDepth 1000000 in
set_option maxHeartbeats 16000000 in
theorem fixL2 {Q : Exit → Act → World → Prop} {c1 c2 c3 c4 c5 c7 c10 c11 c12 c13 c14 c15 c16 c17 c18 c19 c20 c21 c22 c23 c24 c25 c26 c27 c28 c29 c30 c31 c32 c33 c34 c35 c36 c37 c38 c39 c40 c41 c42 c43 c44 c45 c46 c47 c48 c49 c50 c51 c52 c53 c54 c55 c56 c57 c58 c59 c60 c61 c62 c63 c64 c65 c66 c67 c68 c69 c70 c71 c72 c73 c74 c75 c76 c77 c78 c79 c80 c81 c82 c83 c84 c85 c86 c87 c88 c89 c90 c91 c92 c93 c94 c95 c96 c97 c98 c99 c100 c101 c102 c103 c104 c105 c106 c107 c108 c109 c110 c111 c112 c113 c114 c115 c116 c117 c118 c119 c120 c121 c122 c123 c124 c125 c126 c127 c128 c129 c130 c131 c132 c133 c134 c135 c136 c137 c138 c139 c140 c141 c142 c143 c144 c145 c146 c147 c148 c149 c150 c151 c152 c153 c154 c155 c156 c157 c158 c159 c160 c161 c162 c163 c164 c165 c166 c167 c168 c169 c170 c171 c172 c173 c174 c175 c176 c177 c178 c179 c180 c181 c182 c183 c184 c185 c186 c187 c188 c189 c190 c191 c192 c193 c194 c195 c196 c197 c198 c199 c200 c201 c202 c203 c204 c205 c206 c207 c208 c209 c210 c211 c212 c213 c214 c215 c216 c217 c218 c219 c220 c221 c222 c223 c224 c225 c226 c227 c228 c229 c230 c231 c232 c233 c234 c235 c236 c237 c238 c239 c240 c241 c242 c243 c244 c245 c246 c247 c248 c249 c250 c251 c252 c253 c254 c255 c256 c257 c258 c259 c260 c261 c262 c263 c264 c265 c266 c267 c268 c269 c270 c271 c272 c273 c274 c275 c276 c277 c278 c279 c280 c281 c282 c283 c284 c285 c286 c287 c288 c289 c290 c291 c292 c293 c294 c295 c296 c297 c298 c299 c300 c301 c302 c303 c304 c305 c306 c307 c308 c309 c310 c311 c312 c313 c314 c315 : Value} {w : World} {ao : Option Addr} {N c gg G : Nat} {A : Nat → Option Addr} {C : Nat → Nat} {l : List (List Nat)} {zs : List Int} (hN : N ≤ 16) (hR : VRow w ao G A (fun i => (l.getD i []).length) C N) (hlen : ∀ i, (l.getD i []).length ≤ 100000) (hG : BBlk w gg N (fun j => !keep zs j)) (hk : ∃ i, i < N ∧ keep zs i = true)
  (hexit : ∀ (u4 u5 u9 u80 u81 u82 u83 u84 u85 u86 u87 u88 u89 u90 u91 u92 u93 u94 u95 u96 u97 u98 u99 u100 u101 u102 u103 u104 u105 u106 u107 u108 u109 u110 u111 u112 u113 : Value) (wr : World) (n : Nat), wr = w → n ≤ 100000 → (∀ i, i < N → keep zs i = true → (l.getD i []).length = n) → Q (.exit 2) ⟨List.toArray ((.slice ao N c) :: c1 :: c2 :: c3 :: u4 :: u5 :: (.slice (some ⟨gg, 0, none⟩) N N) :: c7 :: (.int .i64 (n : Int)) :: u9 :: c10 :: c11 :: c12 :: c13 :: c14 :: c15 :: c16 :: c17 :: c18 :: c19 :: c20 :: c21 :: c22 :: c23 :: c24 :: c25 :: c26 :: c27 :: c28 :: c29 :: c30 :: c31 :: c32 :: c33 :: c34 :: c35 :: c36 :: c37 :: c38 :: c39 :: c40 :: c41 :: c42 :: c43 :: c44 :: c45 :: c46 :: c47 :: c48 :: c49 :: c50 :: c51 :: c52 :: c53 :: c54 :: c55 :: c56 :: c57 :: c58 :: c59 :: c60 :: c61 :: c62 :: c63 :: c64 :: c65 :: c66 :: c67 :: c68 :: c69 :: c70 :: c71 :: c72 :: c73 :: c74 :: c75 :: c76 :: c77 :: c78 :: c79 :: u80 :: u81 :: u82 :: u83 :: u84 :: u85 :: u86 :: u87 :: u88 :: u89 :: u90 :: u91 :: u92 :: u93 :: u94 :: u95 :: u96 :: u97 :: u98 :: u99 :: u100 :: u101 :: u102 :: u103 :: u104 :: u105 :: u106 :: u107 :: u108 :: u109 :: u110 :: u111 :: u112 :: u113 :: c114 :: c115 :: c116 :: c117 :: c118 :: c119 :: c120 :: c121 :: c122 :: c123 :: c124 :: c125 :: c126 :: c127 :: c128 :: c129 :: c130 :: c131 :: c132 :: c133 :: c134 :: c135 :: c136 :: c137 :: c138 :: c139 :: c140 :: c141 :: c142 :: c143 :: c144 :: c145 :: c146 :: c147 :: c148 :: c149 :: c150 :: c151 :: c152 :: c153 :: c154 :: c155 :: c156 :: c157 :: c158 :: c159 :: c160 :: c161 :: c162 :: c163 :: c164 :: c165 :: c166 :: c167 :: c168 :: c169 :: c170 :: c171 :: c172 :: c173 :: c174 :: c175 :: c176 :: c177 :: c178 :: c179 :: c180 :: c181 :: c182 :: c183 :: c184 :: c185 :: c186 :: c187 :: c188 :: c189 :: c190 :: c191 :: c192 :: c193 :: c194 :: c195 :: c196 :: c197 :: c198 :: c199 :: c200 :: c201 :: c202 :: c203 :: c204 :: c205 :: c206 :: c207 :: c208 :: c209 :: c210 :: c211 :: c212 :: c213 :: c214 :: c215 :: c216 :: c217 :: c218 :: c219 :: c220 :: c221 :: c222 :: c223 :: c224 :: c225 :: c226 :: c227 :: c228 :: c229 :: c230 :: c231 :: c232 :: c233 :: c234 :: c235 :: c236 :: c237 :: c238 :: c239 :: c240 :: c241 :: c242 :: c243 :: c244 :: c245 :: c246 :: c247 :: c248 :: c249 :: c250 :: c251 :: c252 :: c253 :: c254 :: c255 :: c256 :: c257 :: c258 :: c259 :: c260 :: c261 :: c262 :: c263 :: c264 :: c265 :: c266 :: c267 :: c268 :: c269 :: c270 :: c271 :: c272 :: c273 :: c274 :: c275 :: c276 :: c277 :: c278 :: c279 :: c280 :: c281 :: c282 :: c283 :: c284 :: c285 :: c286 :: c287 :: c288 :: c289 :: c290 :: c291 :: c292 :: c293 :: c294 :: c295 :: c296 :: c297 :: c298 :: c299 :: c300 :: c301 :: c302 :: c303 :: c304 :: c305 :: c306 :: c307 :: c308 :: c309 :: c310 :: c311 :: c312 :: c313 :: c314 :: c315 :: []), []⟩ wr)
  (hret : ∀ (u8 u9 u80 u81 u82 u83 u84 u85 u86 u87 u88 u89 u90 u91 u92 u93 u94 u95 u96 u97 u98 u99 u100 u101 u102 u103 u104 u105 u106 u107 u108 u109 u110 u111 u112 u113 : Value) (wr : World), wr = w → (∃ i j, i < N ∧ j < N ∧ keep zs i = true ∧ keep zs j = true ∧ (l.getD i []).length ≠ (l.getD j []).length) → Q (.ret) ⟨List.toArray ((.slice ao N c) :: c1 :: c2 :: c3 :: (.slice none 0 0) :: (.bool false) :: (.slice (some ⟨gg, 0, none⟩) N N) :: c7 :: u8 :: u9 :: c10 :: c11 :: c12 :: c13 :: c14 :: c15 :: c16 :: c17 :: c18 :: c19 :: c20 :: c21 :: c22 :: c23 :: c24 :: c25 :: c26 :: c27 :: c28 :: c29 :: c30 :: c31 :: c32 :: c33 :: c34 :: c35 :: c36 :: c37 :: c38 :: c39 :: c40 :: c41 :: c42 :: c43 :: c44 :: c45 :: c46 :: c47 :: c48 :: c49 :: c50 :: c51 :: c52 :: c53 :: c54 :: c55 :: c56 :: c57 :: c58 :: c59 :: c60 :: c61 :: c62 :: c63 :: c64 :: c65 :: c66 :: c67 :: c68 :: c69 :: c70 :: c71 :: c72 :: c73 :: c74 :: c75 :: c76 :: c77 :: c78 :: c79 :: u80 :: u81 :: u82 :: u83 :: u84 :: u85 :: u86 :: u87 :: u88 :: u89 :: u90 :: u91 :: u92 :: u93 :: u94 :: u95 :: u96 :: u97 :: u98 :: u99 :: u100 :: u101 :: u102 :: u103 :: u104 :: u105 :: u106 :: u107 :: u108 :: u109 :: u110 :: u111 :: u112 :: u113 :: c114 :: c115 :: c116 :: c117 :: c118 :: c119 :: c120 :: c121 :: c122 :: c123 :: c124 :: c125 :: c126 :: c127 :: c128 :: c129 :: c130 :: c131 :: c132 :: c133 :: c134 :: c135 :: c136 :: c137 :: c138 :: c139 :: c140 :: c141 :: c142 :: c143 :: c144 :: c145 :: c146 :: c147 :: c148 :: c149 :: c150 :: c151 :: c152 :: c153 :: c154 :: c155 :: c156 :: c157 :: c158 :: c159 :: c160 :: c161 :: c162 :: c163 :: c164 :: c165 :: c166 :: c167 :: c168 :: c169 :: c170 :: c171 :: c172 :: c173 :: c174 :: c175 :: c176 :: c177 :: c178 :: c179 :: c180 :: c181 :: c182 :: c183 :: c184 :: c185 :: c186 :: c187 :: c188 :: c189 :: c190 :: c191 :: c192 :: c193 :: c194 :: c195 :: c196 :: c197 :: c198 :: c199 :: c200 :: c201 :: c202 :: c203 :: c204 :: c205 :: c206 :: c207 :: c208 :: c209 :: c210 :: c211 :: c212 :: c213 :: c214 :: c215 :: c216 :: c217 :: c218 :: c219 :: c220 :: c221 :: c222 :: c223 :: c224 :: c225 :: c226 :: c227 :: c228 :: c229 :: c230 :: c231 :: c232 :: c233 :: c234 :: c235 :: c236 :: c237 :: c238 :: c239 :: c240 :: c241 :: c242 :: c243 :: c244 :: c245 :: c246 :: c247 :: c248 :: c249 :: c250 :: c251 :: c252 :: c253 :: c254 :: c255 :: c256 :: c257 :: c258 :: c259 :: c260 :: c261 :: c262 :: c263 :: c264 :: c265 :: c266 :: c267 :: c268 :: c269 :: c270 :: c271 :: c272 :: c273 :: c274 :: c275 :: c276 :: c277 :: c278 :: c279 :: c280 :: c281 :: c282 :: c283 :: c284 :: c285 :: c286 :: c287 :: c288 :: c289 :: c290 :: c291 :: c292 :: c293 :: c294 :: c295 :: c296 :: c297 :: c298 :: c299 :: c300 :: c301 :: c302 :: c303 :: c304 :: c305 :: c306 :: c307 :: c308 :: c309 :: c310 :: c311 :: c312 :: c313 :: c314 :: c315 :: []), []⟩ wr)
  : Code.wp Tryz.prog (Code.loop (fixLoop 1)) Q ⟨List.toArray ((.slice ao N c) :: c1 :: c2 :: c3 :: c4 :: c5 :: (.slice (some ⟨gg, 0, none⟩) N N) :: c7 :: (.int .i64 (-1)) :: (.int .i64 0) :: c10 :: c11 :: c12 :: c13 :: c14 :: c15 :: c16 :: c17 :: c18 :: c19 :: c20 :: c21 :: c22 :: c23 :: c24 :: c25 :: c26 :: c27 :: c28 :: c29 :: c30 :: c31 :: c32 :: c33 :: c34 :: c35 :: c36 :: c37 :: c38 :: c39 :: c40 :: c41 :: c42 :: c43 :: c44 :: c45 :: c46 :: c47 :: c48 :: c49 :: c50 :: c51 :: c52 :: c53 :: c54 :: c55 :: c56 :: c57 :: c58 :: c59 :: c60 :: c61 :: c62 :: c63 :: c64 :: c65 :: c66 :: c67 :: c68 :: c69 :: c70 :: c71 :: c72 :: c73 :: c74 :: c75 :: c76 :: c77 :: c78 :: c79 :: c80 :: c81 :: c82 :: c83 :: c84 :: c85 :: c86 :: c87 :: c88 :: c89 :: c90 :: c91 :: c92 :: c93 :: c94 :: c95 :: c96 :: c97 :: c98 :: c99 :: c100 :: c101 :: c102 :: c103 :: c104 :: c105 :: c106 :: c107 :: c108 :: c109 :: c110 :: c111 :: c112 :: c113 :: c114 :: c115 :: c116 :: c117 :: c118 :: c119 :: c120 :: c121 :: c122 :: c123 :: c124 :: c125 :: c126 :: c127 :: c128 :: c129 :: c130 :: c131 :: c132 :: c133 :: c134 :: c135 :: c136 :: c137 :: c138 :: c139 :: c140 :: c141 :: c142 :: c143 :: c144 :: c145 :: c146 :: c147 :: c148 :: c149 :: c150 :: c151 :: c152 :: c153 :: c154 :: c155 :: c156 :: c157 :: c158 :: c159 :: c160 :: c161 :: c162 :: c163 :: c164 :: c165 :: c166 :: c167 :: c168 :: c169 :: c170 :: c171 :: c172 :: c173 :: c174 :: c175 :: c176 :: c177 :: c178 :: c179 :: c180 :: c181 :: c182 :: c183 :: c184 :: c185 :: c186 :: c187 :: c188 :: c189 :: c190 :: c191 :: c192 :: c193 :: c194 :: c195 :: c196 :: c197 :: c198 :: c199 :: c200 :: c201 :: c202 :: c203 :: c204 :: c205 :: c206 :: c207 :: c208 :: c209 :: c210 :: c211 :: c212 :: c213 :: c214 :: c215 :: c216 :: c217 :: c218 :: c219 :: c220 :: c221 :: c222 :: c223 :: c224 :: c225 :: c226 :: c227 :: c228 :: c229 :: c230 :: c231 :: c232 :: c233 :: c234 :: c235 :: c236 :: c237 :: c238 :: c239 :: c240 :: c241 :: c242 :: c243 :: c244 :: c245 :: c246 :: c247 :: c248 :: c249 :: c250 :: c251 :: c252 :: c253 :: c254 :: c255 :: c256 :: c257 :: c258 :: c259 :: c260 :: c261 :: c262 :: c263 :: c264 :: c265 :: c266 :: c267 :: c268 :: c269 :: c270 :: c271 :: c272 :: c273 :: c274 :: c275 :: c276 :: c277 :: c278 :: c279 :: c280 :: c281 :: c282 :: c283 :: c284 :: c285 :: c286 :: c287 :: c288 :: c289 :: c290 :: c291 :: c292 :: c293 :: c294 :: c295 :: c296 :: c297 :: c298 :: c299 :: c300 :: c301 :: c302 :: c303 :: c304 :: c305 :: c306 :: c307 :: c308 :: c309 :: c310 :: c311 :: c312 :: c313 :: c314 :: c315 :: []), []⟩ w := by
 conv => arg 2; arg 1; whnf
 have HEXIT := hide hexit
 clear hexit
 have HRET := hide hret
 clear hret
 have HR := hide hR
 have HLEN := hide hlen
 have HG := hide hG
 have HKE := hide hk
 clear hR hlen hG hk
 go_loop [8, 9] (fun s p => ∃ i : Nat, p = .int .i64 i ∧ i ≤ N ∧ ((s = .int .i64 (-1) ∧ ∀ c, c < i → keep zs c = false) ∨ (∃ n c0 : Nat, s = .int .i64 (n : Int) ∧ n ≤ 100000 ∧ c0 < i ∧ keep zs c0 = true ∧ (l.getD c0 []).length = n ∧ ∀ c, c < i → keep zs c = true → (l.getD c []).length = n))) (fun _ p => N - (intOf p).toNat)
 case atStart => exact ⟨0, rfl, by omega, .inl ⟨rfl, fun c h => by omega⟩⟩
 case round =>
  obtain ⟨i, rfl, hi, hs⟩ := hrel
  by_cases hlt : i < N
  ·have hi1 : (i : Int) < (N : Int) := by omega
   have hb := (uh HG).cell hlt
   obtain ⟨o, rfl, hcl⟩ := (uh HR).at (by omega)
   have hc := hcl i hlt
   obtain ⟨m, hm⟩ : ∃ m, (l.getD i []).length = m := ⟨_, rfl⟩
   have hm5 : m ≤ 100000 := by rw [← hm]; exact uh HLEN i
   rw [hm] at hc
   have HM := hide hm
   clear hm hcl
   cases hkp : keep zs i with
   | false =>
    rw [hkp] at hb
    have hb' : _ = some (Value.bool true) := hb
    clear hb
    have HKP := hide hkp
    clear hkp
    rcases hs with ⟨rfl, hno⟩ | ⟨n, c0, rfl, hn5, hc0, hk0, hl0, hall⟩
    ·have HNO := hide hno
     clear hno
     go_wp2_with fail
     go_round
     case rel => exact ⟨i + 1, by go_num, by omega, .inl ⟨rfl, fun c h => by
      by_cases e : c = i
      ·rw [e]; exact uh HKP
      exact uh HNO c (by omega)⟩⟩
     case measure => simp [intOf]; omega
    have HALL := hide hall
    have HK0 := hide hk0
    have HL0 := hide hl0
    clear hall hk0 hl0
    go_wp2_with fail
    go_round
    case rel => exact ⟨i + 1, by go_num, by omega, .inr ⟨n, c0, rfl, hn5, by omega, uh HK0, uh HL0, fun c h hk => by
     by_cases e : c = i
     ·rw [e, uh HKP] at hk; cases hk
     exact uh HALL c (by omega) hk⟩⟩
    case measure => simp [intOf]; omega
   | true =>
    rw [hkp] at hb
    have hb' : _ = some (Value.bool false) := hb
    clear hb
    have HKP := hide hkp
    clear hkp
    rcases hs with ⟨rfl, hno⟩ | ⟨n, c0, rfl, hn5, hc0, hk0, hl0, hall⟩
    ·have HNO := hide hno
     clear hno
     go_wp2_with fail
     go_round
     case rel => exact ⟨i + 1, by go_num, by omega, .inr ⟨m, i, rfl, hm5, by omega, uh HKP, uh HM, fun c h hk => by
      by_cases e : c = i
      ·rw [e]; exact uh HM
      rw [uh HNO c (by omega)] at hk; cases hk⟩⟩
     case measure => simp [intOf]; omega
    have HALL := hide hall
    have HK0 := hide hk0
    have HL0 := hide hl0
    clear hall hk0 hl0
    have hn0 : (0 : Int) ≤ (n : Int) := by omega
    by_cases he : m = n
    ·have e3 : ((m : Int) != (n : Int)) = false := by rw [he]; simp
     have HE := hide he
     clear he
     go_wp2_with fail
     go_round
     case rel => exact ⟨i + 1, by go_num, by omega, .inr ⟨m, i, rfl, hm5, by omega, uh HKP, uh HM, fun c h hk => by
      by_cases e : c = i
      ·rw [e]; exact uh HM
      rw [uh HE]; exact uh HALL c (by omega) hk⟩⟩
     case measure => simp [intOf]; omega
    have e3 : ((m : Int) != (n : Int)) = true := by rw [bne_iff_ne]; omega
    go_wp2_with fail
    refine uh HRET _ _ _ _ _ _ _ _ _ _ _ _ _ _ _ _ _ _ _ _ _ _ _ _ _ _ _ _ _ _ _ _ _ _ _ _ _ rfl ?_
    exact ⟨i, c0, hlt, by omega, uh HKP, uh HK0, by rw [uh HM, uh HL0]; exact he⟩
  have hi2 : i = N := by omega
  subst hi2
  rcases hs with ⟨rfl, hno⟩ | ⟨n, c0, rfl, hn5, hc0, hk0, hl0, hall⟩
  ·obtain ⟨i0, h1, h2⟩ := uh HKE
   rw [hno i0 h1] at h2
   cases h2
  have HALL := hide hall
  clear hall hk0 hl0
  go_wp2_with fail
  refine uh HEXIT _ _ _ _ _ _ _ _ _ _ _ _ _ _ _ _ _ _ _ _ _ _ _ _ _ _ _ _ _ _ _ _ _ _ _ _ _ _ n rfl hn5 ?_
  exact uh HALL
end Go.Proofs.YtjdikhelabibnaaGreat

namespace Go.Proofs.YtjdikhelabibnaaGreat
open Go.RowKit
theorem src_one {W : World} {a : Option Addr} {n c g : Nat} (h : W.heap[g]? = some (.cells #[.slice a n c] 47 (0, 0))) : SrcV W (some ⟨g, 0, none⟩) g [.slice a n c] := by
 refine .inr ⟨0, rfl, fun j u hu => ?_⟩
 obtain ⟨hj, hu⟩ := List.getElem?_eq_some_iff.1 hu
 have : j = 0 := by simpa using hj
 subst this
 simp at hu
 rw [← hu]
 simp [World.cell?, h]
theorem arg_nil {W : World} {ao : Option Addr} {n c g : Nat} {s : List Nat} (h : Arg W (.slice ao n c) g s) (ha : ao = none) : n = 0 ∧ c = 0 := by
 obtain ⟨ao', c', h1, h2, h3, h4, h5⟩ := h.ex
 cases h1
 refine ⟨?_, h4 ha⟩
 have := h4 ha
 omega
theorem arg_row5 {W : World} {ao : Option Addr} {n c g : Nat} {s : List Nat} (h : Arg W (.slice ao n c) g s) : Row W ao g (ints s) := by
 obtain ⟨ao', c', h1, h2, h3, h4, h5⟩ := h.ex
 cases h1
 exact h5
theorem bs_zeros5 (n : Nat) : Bs (List.replicate n 0) := fun k => by rw [cf_zeros]; omega
theorem own_len {W : World} {base i n : Nat} {v : Value} {ps : List (Option Addr × Nat)} {t : List (List Nat)} (h : Mk5 base i n W v ps t) : ∃ vo vc, v = .slice vo i vc := by
 rcases h.own.shape with ⟨h1, h2⟩ | ⟨q, cq, h1, _⟩
 ·have e := h.tl
  rw [h2] at e
  have e2 : i = 0 := e.symm
  subst e2
  exact ⟨none, 0, h1⟩
 rw [h.tl] at h1
 exact ⟨_, cq, h1⟩
set_option maxRecDepth 1000000 in
set_option maxHeartbeats 16000000 in
theorem fixL3 {Q : Exit → Act → World → Prop} {c1 c2 c3 c4 c5 c7 c9 c12 c13 c14 c15 c16 c17 c18 c19 c20 c21 c22 c23 c24 c25 c26 c27 c28 c29 c30 c31 c32 c33 c34 c35 c36 c37 c38 c39 c40 c41 c42 c43 c44 c45 c46 c47 c48 c49 c50 c51 c52 c53 c54 c55 c56 c57 c58 c59 c60 c61 c62 c63 c64 c65 c66 c67 c68 c69 c70 c71 c72 c73 c74 c75 c76 c77 c78 c79 c80 c81 c82 c83 c84 c85 c86 c87 c88 c89 c90 c91 c92 c93 c94 c95 c96 c97 c98 c99 c100 c101 c102 c103 c104 c105 c106 c107 c108 c109 c110 c111 c112 c113 c114 c115 c116 c117 c118 c119 c120 c121 c122 c123 c124 c125 c126 c127 c128 c129 c130 c131 c132 c133 c134 c135 c136 c137 c138 c139 c140 c141 c142 c143 c144 c145 c146 c147 c148 c149 c150 c151 c152 c153 c154 c155 c156 c157 c158 c159 c160 c161 c162 c163 c164 c165 c166 c167 c168 c169 c170 c171 c172 c173 c174 c175 c176 c177 c178 c179 c180 c181 c182 c183 c184 c185 c186 c187 c188 c189 c190 c191 c192 c193 c194 c195 c196 c197 c198 c199 c200 c201 c202 c203 c204 c205 c206 c207 c208 c209 c210 c211 c212 c213 c214 c215 c216 c217 c218 c219 c220 c221 c222 c223 c224 c225 c226 c227 c228 c229 c230 c231 c232 c233 c234 c235 c236 c237 c238 c239 c240 c241 c242 c243 c244 c245 c246 c247 c248 c249 c250 c251 c252 c253 c254 c255 c256 c257 c258 c259 c260 c261 c262 c263 c264 c265 c266 c267 c268 c269 c270 c271 c272 c273 c274 c275 c276 c277 c278 c279 c280 c281 c282 c283 c284 c285 c286 c287 c288 c289 c290 c291 c292 c293 c294 c295 c296 c297 c298 c299 c300 c301 c302 c303 c304 c305 c306 c307 c308 c309 c310 c311 c312 c313 c314 c315 : Value} {w : World} {ao : Option Addr} {N c gg G n : Nat} {A : Nat → Option Addr} {C : Nat → Nat} {l : List (List Nat)} {zs : List Int} (hN : N ≤ 16) (hl : l.length = N) (hn : n ≤ 100000) (hA : RArg w (.slice ao N c) G A C l) (hsz : ∀ i, i < N → keep zs i = true → (l.getD i []).length = n) (hG : BBlk w gg N (fun j => !keep zs j))
  (hexit : ∀ (u11 u114 u115 u116 u117 u118 u119 u120 u121 u122 u123 u124 u125 u126 u127 u128 u129 u130 u131 u132 u133 u134 u135 u136 u137 : Value) (wr : World) (v : Value) (ps : List (Option Addr × Nat)), Mk5 w.heap.size N n wr v ps (madeL l zs n N) → Below w.heap.size w wr → Q (.exit 4) ⟨List.toArray ((.slice ao N c) :: c1 :: c2 :: c3 :: c4 :: c5 :: (.slice (some ⟨gg, 0, none⟩) N N) :: c7 :: (.int .i64 (n : Int)) :: c9 :: v :: u11 :: c12 :: c13 :: c14 :: c15 :: c16 :: c17 :: c18 :: c19 :: c20 :: c21 :: c22 :: c23 :: c24 :: c25 :: c26 :: c27 :: c28 :: c29 :: c30 :: c31 :: c32 :: c33 :: c34 :: c35 :: c36 :: c37 :: c38 :: c39 :: c40 :: c41 :: c42 :: c43 :: c44 :: c45 :: c46 :: c47 :: c48 :: c49 :: c50 :: c51 :: c52 :: c53 :: c54 :: c55 :: c56 :: c57 :: c58 :: c59 :: c60 :: c61 :: c62 :: c63 :: c64 :: c65 :: c66 :: c67 :: c68 :: c69 :: c70 :: c71 :: c72 :: c73 :: c74 :: c75 :: c76 :: c77 :: c78 :: c79 :: c80 :: c81 :: c82 :: c83 :: c84 :: c85 :: c86 :: c87 :: c88 :: c89 :: c90 :: c91 :: c92 :: c93 :: c94 :: c95 :: c96 :: c97 :: c98 :: c99 :: c100 :: c101 :: c102 :: c103 :: c104 :: c105 :: c106 :: c107 :: c108 :: c109 :: c110 :: c111 :: c112 :: c113 :: u114 :: u115 :: u116 :: u117 :: u118 :: u119 :: u120 :: u121 :: u122 :: u123 :: u124 :: u125 :: u126 :: u127 :: u128 :: u129 :: u130 :: u131 :: u132 :: u133 :: u134 :: u135 :: u136 :: u137 :: c138 :: c139 :: c140 :: c141 :: c142 :: c143 :: c144 :: c145 :: c146 :: c147 :: c148 :: c149 :: c150 :: c151 :: c152 :: c153 :: c154 :: c155 :: c156 :: c157 :: c158 :: c159 :: c160 :: c161 :: c162 :: c163 :: c164 :: c165 :: c166 :: c167 :: c168 :: c169 :: c170 :: c171 :: c172 :: c173 :: c174 :: c175 :: c176 :: c177 :: c178 :: c179 :: c180 :: c181 :: c182 :: c183 :: c184 :: c185 :: c186 :: c187 :: c188 :: c189 :: c190 :: c191 :: c192 :: c193 :: c194 :: c195 :: c196 :: c197 :: c198 :: c199 :: c200 :: c201 :: c202 :: c203 :: c204 :: c205 :: c206 :: c207 :: c208 :: c209 :: c210 :: c211 :: c212 :: c213 :: c214 :: c215 :: c216 :: c217 :: c218 :: c219 :: c220 :: c221 :: c222 :: c223 :: c224 :: c225 :: c226 :: c227 :: c228 :: c229 :: c230 :: c231 :: c232 :: c233 :: c234 :: c235 :: c236 :: c237 :: c238 :: c239 :: c240 :: c241 :: c242 :: c243 :: c244 :: c245 :: c246 :: c247 :: c248 :: c249 :: c250 :: c251 :: c252 :: c253 :: c254 :: c255 :: c256 :: c257 :: c258 :: c259 :: c260 :: c261 :: c262 :: c263 :: c264 :: c265 :: c266 :: c267 :: c268 :: c269 :: c270 :: c271 :: c272 :: c273 :: c274 :: c275 :: c276 :: c277 :: c278 :: c279 :: c280 :: c281 :: c282 :: c283 :: c284 :: c285 :: c286 :: c287 :: c288 :: c289 :: c290 :: c291 :: c292 :: c293 :: c294 :: c295 :: c296 :: c297 :: c298 :: c299 :: c300 :: c301 :: c302 :: c303 :: c304 :: c305 :: c306 :: c307 :: c308 :: c309 :: c310 :: c311 :: c312 :: c313 :: c314 :: c315 :: []), []⟩ wr)
  : Code.wp Tryz.prog (Code.loop (fixLoop 2)) Q ⟨List.toArray ((.slice ao N c) :: c1 :: c2 :: c3 :: c4 :: c5 :: (.slice (some ⟨gg, 0, none⟩) N N) :: c7 :: (.int .i64 (n : Int)) :: c9 :: (.slice none 0 0) :: (.int .i64 0) :: c12 :: c13 :: c14 :: c15 :: c16 :: c17 :: c18 :: c19 :: c20 :: c21 :: c22 :: c23 :: c24 :: c25 :: c26 :: c27 :: c28 :: c29 :: c30 :: c31 :: c32 :: c33 :: c34 :: c35 :: c36 :: c37 :: c38 :: c39 :: c40 :: c41 :: c42 :: c43 :: c44 :: c45 :: c46 :: c47 :: c48 :: c49 :: c50 :: c51 :: c52 :: c53 :: c54 :: c55 :: c56 :: c57 :: c58 :: c59 :: c60 :: c61 :: c62 :: c63 :: c64 :: c65 :: c66 :: c67 :: c68 :: c69 :: c70 :: c71 :: c72 :: c73 :: c74 :: c75 :: c76 :: c77 :: c78 :: c79 :: c80 :: c81 :: c82 :: c83 :: c84 :: c85 :: c86 :: c87 :: c88 :: c89 :: c90 :: c91 :: c92 :: c93 :: c94 :: c95 :: c96 :: c97 :: c98 :: c99 :: c100 :: c101 :: c102 :: c103 :: c104 :: c105 :: c106 :: c107 :: c108 :: c109 :: c110 :: c111 :: c112 :: c113 :: c114 :: c115 :: c116 :: c117 :: c118 :: c119 :: c120 :: c121 :: c122 :: c123 :: c124 :: c125 :: c126 :: c127 :: c128 :: c129 :: c130 :: c131 :: c132 :: c133 :: c134 :: c135 :: c136 :: c137 :: c138 :: c139 :: c140 :: c141 :: c142 :: c143 :: c144 :: c145 :: c146 :: c147 :: c148 :: c149 :: c150 :: c151 :: c152 :: c153 :: c154 :: c155 :: c156 :: c157 :: c158 :: c159 :: c160 :: c161 :: c162 :: c163 :: c164 :: c165 :: c166 :: c167 :: c168 :: c169 :: c170 :: c171 :: c172 :: c173 :: c174 :: c175 :: c176 :: c177 :: c178 :: c179 :: c180 :: c181 :: c182 :: c183 :: c184 :: c185 :: c186 :: c187 :: c188 :: c189 :: c190 :: c191 :: c192 :: c193 :: c194 :: c195 :: c196 :: c197 :: c198 :: c199 :: c200 :: c201 :: c202 :: c203 :: c204 :: c205 :: c206 :: c207 :: c208 :: c209 :: c210 :: c211 :: c212 :: c213 :: c214 :: c215 :: c216 :: c217 :: c218 :: c219 :: c220 :: c221 :: c222 :: c223 :: c224 :: c225 :: c226 :: c227 :: c228 :: c229 :: c230 :: c231 :: c232 :: c233 :: c234 :: c235 :: c236 :: c237 :: c238 :: c239 :: c240 :: c241 :: c242 :: c243 :: c244 :: c245 :: c246 :: c247 :: c248 :: c249 :: c250 :: c251 :: c252 :: c253 :: c254 :: c255 :: c256 :: c257 :: c258 :: c259 :: c260 :: c261 :: c262 :: c263 :: c264 :: c265 :: c266 :: c267 :: c268 :: c269 :: c270 :: c271 :: c272 :: c273 :: c274 :: c275 :: c276 :: c277 :: c278 :: c279 :: c280 :: c281 :: c282 :: c283 :: c284 :: c285 :: c286 :: c287 :: c288 :: c289 :: c290 :: c291 :: c292 :: c293 :: c294 :: c295 :: c296 :: c297 :: c298 :: c299 :: c300 :: c301 :: c302 :: c303 :: c304 :: c305 :: c306 :: c307 :: c308 :: c309 :: c310 :: c311 :: c312 :: c313 :: c314 :: c315 :: []), []⟩ w := by
 conv => arg 2; arg 1; whnf
 have HEXIT := hide hexit
 clear hexit
 have HA := hide hA
 have HSZ := hide hsz
 have HG := hide hG
 have HL := hide hl
 clear hA hsz hG hl
 obtain ⟨i0, hi0, hz0, hz1, hz2⟩ := info_parts infoR
 have HI := hide hi0
 clear hi0
 obtain ⟨j0, hj0, hy0, hy1, hy2⟩ := info_parts infoE
 have HJ := hide hj0
 clear hj0
 have hmk := run_zeros n (by omega)
 obtain ⟨zz, hzz⟩ : ∃ z, (List.replicate n (Value.int .u8 0)).toArray = z := ⟨_, rfl⟩
 have HBZ : Hid (∀ W : World, Blk (W.alloc (.cells zz 5)) W.heap.size (List.replicate n 0)) := by
  show ∀ _, _
  rw [← hzz]
  exact fun W => blk_zeros n W
 rw [hzz] at hmk
 clear hzz
 go_loopw [10, 11] (fun v p wr => ∃ (i : Nat) (ps : List (Option Addr × Nat)), p = .int .i64 i ∧ i ≤ N ∧ Mk5 w.heap.size i n wr v ps (madeL l zs n i) ∧ Below w.heap.size w wr) (fun _ p _ => N - (intOf p).toNat)
 case atStart => exact ⟨0, [], rfl, by omega, Mk5.nil _ _ _, Below.refl _ _⟩
 case round =>
  obtain ⟨i, ps, rfl, hi, hM, hK⟩ := hrel
  obtain ⟨vo, vc, hv⟩ := own_len hM
  subst hv
  have hzr := hK.size
  have HM := hide hM
  have HK := hide hK
  clear hM hK
  by_cases hlt : i < N
  ·have hi1 : (i : Int) < (N : Int) := by omega
   have hb := (kp_below (uh HK)).cell ((uh HG).cell hlt) (by simp)
   cases hkp : keep zs i with
   | false =>
    rw [hkp] at hb
    have hb' : _ = some (Value.bool true) := hb
    clear hb
    have HKP := hide hkp
    clear hkp
    have hkq : Below wr.heap.size wr ((wr.alloc (.cells zz 5)).alloc (.cells #[.slice (some ⟨wr.heap.size, 0, none⟩) n n] 47)) := ((Below.refl _ _).alloc (Nat.le_refl _) _).alloc (by simp) _
    have HO2 := hide ((uh HM).own.below hkq)
    have HOW : Hid (((wr.alloc (.cells zz 5)).alloc (.cells #[.slice (some ⟨wr.heap.size, 0, none⟩) n n] 47)).ownsRow w.heap.size 47 1 (.slice vo i vc) i (vals5 ps (madeL l zs n i))) := by
     have h := (uh HO2).own
     rwa [(uh HM).tl] at h
    have HKA := hide ((uh HK).trans (hkq.mono hzr))
    have HKR := hide hkq
    have HBR : Hid (Blk ((wr.alloc (.cells zz 5)).alloc (.cells #[.slice (some ⟨wr.heap.size, 0, none⟩) n n] 47)) wr.heap.size (List.replicate n 0)) := (uh HBZ wr).below ((Below.refl _ _).alloc (Nat.le_refl _) _) (uh HBZ wr).lt
    have HSV : Hid (SrcV ((wr.alloc (.cells zz 5)).alloc (.cells #[.slice (some ⟨wr.heap.size, 0, none⟩) n n] 47)) (some ⟨wr.heap.size + 1, 0, none⟩) (wr.heap.size + 1) [.slice (some ⟨wr.heap.size, 0, none⟩) n n]) := by
     refine src_one ?_
     have h := World.alloc_heap_new (wr.alloc (.cells zz 5)) (.cells #[.slice (some ⟨wr.heap.size, 0, none⟩) n n] 47)
     simpa using h
    clear hkq
    go_wp2_with (at_builtin; refine wpList_append_vals _ rfl _ _ 25 rfl w.heap.size 47 i0 Tryz.underlying25 (uh HI) hz0 hz1 hz2 (.slice vo i vc) i (vals5 ps (madeL l zs n i)) rfl (uh HOW) (some ⟨wr.heap.size + 1, 0, none⟩) (wr.heap.size + 1) 1 1 [.slice (some ⟨wr.heap.size, 0, none⟩) n n] rfl rfl (uh HSV) (by simp [Value.oneCell']) (fun h => by cases h) (by omega) (by simp; omega) ?_)
    intro v2 w2 ho hg
    have HK2 := hide (below_grown (uh HKA) hg (by simp; omega) (uh HO2).row)
    have HM2 : Hid (Mk5 w.heap.size (i + 1) n w2 v2 (ps ++ [(some ⟨wr.heap.size, 0, none⟩, n)]) (madeL l zs n (i + 1))) := by
     show Mk5 _ _ _ _ _ _ _
     rw [madeL_succ, if_neg (by rw [uh HKP]; simp)]
     exact (uh HM).snoc (uh HKR) hg ho (uh HBR) (by omega) (by simp) ⟨by omega, by first | assumption | (unfold maxLen; omega)⟩ (bs_zeros5 n) hzr
    clear ho hg
    go_wp2_with fail
    go_roundw
    case rel => exact ⟨i + 1, _, by go_num, by omega, uh HM2, uh HK2⟩
    case measure => simp [intOf]; omega
   | true =>
    rw [hkp] at hb
    have hb' : _ = some (Value.bool false) := hb
    clear hb
    have HKP := hide hkp
    clear hkp
    have HLN := hide (uh HSZ i hlt (uh HKP))
    obtain ⟨g, hg⟩ := (uh HA).rows i (by rw [uh HL]; exact hlt)
    have hAr : Arg wr (.slice (A i) n (C i)) g (l.getD i []) := by
     have h := hg.below (uh HK)
     rwa [uh HLN] at h
    obtain ⟨ao', c', hv', _, _, _, hrow⟩ := (uh HA).ex
    rw [uh HL] at hrow hv'
    cases hv'
    obtain ⟨o, rfl, hcl⟩ := hrow.at (by omega)
    have hc : w.cell? ⟨G, o + i, none⟩ = some (.slice (A i) n (C i)) := by
     have h := hcl i hlt
     rwa [show (l.getD i []).length = n from uh HLN] at h
    have hc2 := (kp_below (uh HK)).cell hc (by simp)
    have HNIL := hide (fun h => arg_nil hAr h)
    have HAR := hide hAr
    clear hAr hcl hrow hc hg
    obtain ⟨ai, hai⟩ : ∃ a, A i = a := ⟨_, rfl⟩
    obtain ⟨ci, hci⟩ : ∃ a, C i = a := ⟨_, rfl⟩
    rw [hai, hci] at hc2 HAR
    rw [hai] at HNIL
    rw [hci] at HNIL
    clear hai hci
    have hsrc := arg_row5 (uh HAR)
    have HE := hide (own_none wr 5)
    have HKE : Hid (Below wr.heap.size wr (wr.alloc (.cells #[] 5))) := (Below.refl _ _).alloc (Nat.le_refl _) _
    have HSRC : Hid (Row (wr.alloc (.cells #[] 5)) ai g (ints (l.getD i []))) := hsrc.below (uh HKE)
    have hc3 := (kp_below (uh HKE)).cell hc2 (by simp)
    clear hsrc
    go_wp2_with (at_builtin; refine wpList_append_row _ rfl _ _ 47 rfl wr.heap.size 5 j0 Tryz.underlying47 (uh HJ) hy0 hy1 hy2 (.slice (some ⟨wr.heap.size, 0, none⟩) 0 0) 0 [] rfl (uh HE) ai g n ci (ints (l.getD i [])) rfl (by rw [ints_len]; exact uh HLN) (uh HSRC) (uh HNIL) (by omega) (by simp) ?_)
    intro v1 w1 ho hg hiff
    have HB1 := hide (below_grown (uh HKE) hg (by simp) (fun k hk => by have e2 : wr.heap.size = k := Option.some.inj hk; omega))
    have hF : Fr wr.heap.size w1 v1 (l.getD i []) := (owns_fr ho).2
    rcases hF with ⟨h0, h1⟩ | ⟨g1, c1, hv1, hle1, hc1, hB1, hg1⟩
    ·exact absurd h1 hiff
    have HBR1 := hide hB1
    rw [uh HLN] at hv1 hle1
    subst hv1
    clear ho hg hiff hB1
    have hg1l := (uh HBR1).lt
    have hz1r := (uh HB1).size
    have hka : Below w1.heap.size w1 (w1.alloc (.cells #[.slice (some ⟨g1, 0, none⟩) n c1] 47)) := (Below.refl _ _).alloc (Nat.le_refl _) _
    have hkq : Below wr.heap.size wr (w1.alloc (.cells #[.slice (some ⟨g1, 0, none⟩) n c1] 47)) := (uh HB1).trans (hka.mono hz1r)
    have HO2 := hide ((uh HM).own.below hkq)
    have HOW : Hid ((w1.alloc (.cells #[.slice (some ⟨g1, 0, none⟩) n c1] 47)).ownsRow w.heap.size 47 1 (.slice vo i vc) i (vals5 ps (madeL l zs n i))) := by
     have h := (uh HO2).own
     rwa [(uh HM).tl] at h
    have HKA := hide ((uh HK).trans (hkq.mono hzr))
    have HKR := hide hkq
    have HBR : Hid (Blk (w1.alloc (.cells #[.slice (some ⟨g1, 0, none⟩) n c1] 47)) g1 (l.getD i [])) := (uh HBR1).below hka hg1l
    have HSV : Hid (SrcV (w1.alloc (.cells #[.slice (some ⟨g1, 0, none⟩) n c1] 47)) (some ⟨w1.heap.size, 0, none⟩) w1.heap.size [.slice (some ⟨g1, 0, none⟩) n c1]) := one_src _ _ _ _
    clear hkq hka
    go_wp2_with (at_builtin; refine wpList_append_vals _ rfl _ _ 25 rfl w.heap.size 47 i0 Tryz.underlying25 (uh HI) hz0 hz1 hz2 (.slice vo i vc) i (vals5 ps (madeL l zs n i)) rfl (uh HOW) (some ⟨w1.heap.size, 0, none⟩) (w1.heap.size) 1 1 [.slice (some ⟨g1, 0, none⟩) n c1] rfl rfl (uh HSV) (by simp [Value.oneCell']) (fun h => by cases h) (by omega) (by simp; omega) ?_)
    intro v2 w2 ho hg
    have HK2 := hide (below_grown (uh HKA) hg (by simp; omega) (uh HO2).row)
    have HM2 : Hid (Mk5 w.heap.size (i + 1) n w2 v2 (ps ++ [(some ⟨g1, 0, none⟩, c1)]) (madeL l zs n (i + 1))) := by
     show Mk5 _ _ _ _ _ _ _
     rw [madeL_succ, if_pos (uh HKP)]
     exact (uh HM).snoc (uh HKR) hg ho (uh HBR) (by omega) (uh HLN) ⟨by omega, by first | assumption | (unfold maxLen; omega)⟩ ((uh HA).bs i) hzr
    clear ho hg
    go_wp2_with fail
    go_roundw
    case rel => exact ⟨i + 1, _, by go_num, by omega, uh HM2, uh HK2⟩
    case measure => simp [intOf]; omega
  have hi2 : i = N := by omega
  subst hi2
  go_wp2_with fail
  refine uh HEXIT _ _ _ _ _ _ _ _ _ _ _ _ _ _ _ _ _ _ _ _ _ _ _ _ _ _ _ ps ?_ ?_
  ·exact uh HM
  exact uh HK
end Go.Proofs.YtjdikhelabibnaaGreat
