/-
  
-/
import Derived.Test.YtjdikhelabibnaaGreatMan
namespace Go.Proofs.YtjdikhelabibnaaGreat
open Go.RowKit
theorem ints_append (a b : List Nat) : ints (a ++ b) = ints a ++ ints b := List.map_append
theorem owns_len {W : World} {base m : Nat} {e : TypeId} {v : Value} {xs : List Value} (h : W.ownsRow base e 1 v m xs) : ∃ vo vc, v = .slice vo m vc := by
 rcases h.2 with ⟨h1, h2⟩ | ⟨g, cap, cur, h1, _⟩
 ·subst h2; exact ⟨none, 0, h1⟩
 exact ⟨_, cap, h1⟩
theorem src_int {W : World} {z : Int} {g : Nat} (h : W.cell? ⟨g, 0, none⟩ = some (.int .i64 z)) : ∀ j u, [Value.int .i64 z][j]? = some u → ∃ g' o, (some (⟨g, 0, none⟩ : Addr)) = some ⟨g', o, none⟩ ∧ W.cell? ⟨g', o + j, none⟩ = some u := fun j u hu => by
 obtain ⟨hj, hu⟩ := List.getElem?_eq_some_iff.1 hu
 have : j = 0 := by simpa using hj
 subst this
 simp at hu
 exact ⟨g, 0, rfl, by rw [← hu]; exact h⟩
set_option maxRecDepth 1000000 in
set_option maxHeartbeats 16000000 in
theorem fixL4 {Q : Exit → Act → World → Prop} {c0 c1 c2 c3 c4 c5 c7 c8 c9 c10 c11 c15 c16 c17 c18 c19 c20 c21 c22 c23 c24 c25 c26 c27 c28 c29 c30 c31 c32 c33 c34 c35 c36 c37 c38 c39 c40 c41 c42 c43 c44 c45 c46 c47 c48 c49 c50 c51 c52 c53 c54 c55 c56 c57 c58 c59 c60 c61 c62 c63 c64 c65 c66 c67 c68 c69 c70 c71 c72 c73 c74 c75 c76 c77 c78 c79 c80 c81 c82 c83 c84 c85 c86 c87 c88 c89 c90 c91 c92 c93 c94 c95 c96 c97 c98 c99 c100 c101 c102 c103 c104 c105 c106 c107 c108 c109 c110 c111 c112 c113 c114 c115 c116 c117 c118 c119 c120 c121 c122 c123 c124 c125 c126 c127 c128 c129 c130 c131 c132 c133 c134 c135 c136 c137 c138 c139 c140 c141 c142 c143 c144 c145 c146 c147 c148 c149 c150 c151 c152 c153 c154 c155 c156 c157 c158 c159 c160 c161 c162 c163 c164 c165 c166 c167 c168 c169 c170 c171 c172 c173 c174 c175 c176 c177 c178 c179 c180 c181 c182 c183 c184 c185 c186 c187 c188 c189 c190 c191 c192 c193 c194 c195 c196 c197 c198 c199 c200 c201 c202 c203 c204 c205 c206 c207 c208 c209 c210 c211 c212 c213 c214 c215 c216 c217 c218 c219 c220 c221 c222 c223 c224 c225 c226 c227 c228 c229 c230 c231 c232 c233 c234 c235 c236 c237 c238 c239 c240 c241 c242 c243 c244 c245 c246 c247 c248 c249 c250 c251 c252 c253 c254 c255 c256 c257 c258 c259 c260 c261 c262 c263 c264 c265 c266 c267 c268 c269 c270 c271 c272 c273 c274 c275 c276 c277 c278 c279 c280 c281 c282 c283 c284 c285 c286 c287 c288 c289 c290 c291 c292 c293 c294 c295 c296 c297 c298 c299 c300 c301 c302 c303 c304 c305 c306 c307 c308 c309 c310 c311 c312 c313 c314 c315 : Value} {w : World} {N d gg : Nat} {zs : List Int} (hN : N ≤ 16) (hd : d ≤ N) (hG : BBlk w gg N (fun j => !keep zs j))
  (hexit : ∀ (u14 u141 u142 u143 u144 u145 u146 u147 u148 u149 u150 u151 u152 u153 : Value) (wr : World) (v : Value), ZFr w.heap.size wr v (ints (lostL zs d)) → Below w.heap.size w wr → Q (.exit 6) ⟨List.toArray (c0 :: c1 :: c2 :: c3 :: c4 :: c5 :: (.slice (some ⟨gg, 0, none⟩) N N) :: c7 :: c8 :: c9 :: c10 :: c11 :: (.int .i64 (d : Int)) :: v :: u14 :: c15 :: c16 :: c17 :: c18 :: c19 :: c20 :: c21 :: c22 :: c23 :: c24 :: c25 :: c26 :: c27 :: c28 :: c29 :: c30 :: c31 :: c32 :: c33 :: c34 :: c35 :: c36 :: c37 :: c38 :: c39 :: c40 :: c41 :: c42 :: c43 :: c44 :: c45 :: c46 :: c47 :: c48 :: c49 :: c50 :: c51 :: c52 :: c53 :: c54 :: c55 :: c56 :: c57 :: c58 :: c59 :: c60 :: c61 :: c62 :: c63 :: c64 :: c65 :: c66 :: c67 :: c68 :: c69 :: c70 :: c71 :: c72 :: c73 :: c74 :: c75 :: c76 :: c77 :: c78 :: c79 :: c80 :: c81 :: c82 :: c83 :: c84 :: c85 :: c86 :: c87 :: c88 :: c89 :: c90 :: c91 :: c92 :: c93 :: c94 :: c95 :: c96 :: c97 :: c98 :: c99 :: c100 :: c101 :: c102 :: c103 :: c104 :: c105 :: c106 :: c107 :: c108 :: c109 :: c110 :: c111 :: c112 :: c113 :: c114 :: c115 :: c116 :: c117 :: c118 :: c119 :: c120 :: c121 :: c122 :: c123 :: c124 :: c125 :: c126 :: c127 :: c128 :: c129 :: c130 :: c131 :: c132 :: c133 :: c134 :: c135 :: c136 :: c137 :: c138 :: c139 :: c140 :: u141 :: u142 :: u143 :: u144 :: u145 :: u146 :: u147 :: u148 :: u149 :: u150 :: u151 :: u152 :: u153 :: c154 :: c155 :: c156 :: c157 :: c158 :: c159 :: c160 :: c161 :: c162 :: c163 :: c164 :: c165 :: c166 :: c167 :: c168 :: c169 :: c170 :: c171 :: c172 :: c173 :: c174 :: c175 :: c176 :: c177 :: c178 :: c179 :: c180 :: c181 :: c182 :: c183 :: c184 :: c185 :: c186 :: c187 :: c188 :: c189 :: c190 :: c191 :: c192 :: c193 :: c194 :: c195 :: c196 :: c197 :: c198 :: c199 :: c200 :: c201 :: c202 :: c203 :: c204 :: c205 :: c206 :: c207 :: c208 :: c209 :: c210 :: c211 :: c212 :: c213 :: c214 :: c215 :: c216 :: c217 :: c218 :: c219 :: c220 :: c221 :: c222 :: c223 :: c224 :: c225 :: c226 :: c227 :: c228 :: c229 :: c230 :: c231 :: c232 :: c233 :: c234 :: c235 :: c236 :: c237 :: c238 :: c239 :: c240 :: c241 :: c242 :: c243 :: c244 :: c245 :: c246 :: c247 :: c248 :: c249 :: c250 :: c251 :: c252 :: c253 :: c254 :: c255 :: c256 :: c257 :: c258 :: c259 :: c260 :: c261 :: c262 :: c263 :: c264 :: c265 :: c266 :: c267 :: c268 :: c269 :: c270 :: c271 :: c272 :: c273 :: c274 :: c275 :: c276 :: c277 :: c278 :: c279 :: c280 :: c281 :: c282 :: c283 :: c284 :: c285 :: c286 :: c287 :: c288 :: c289 :: c290 :: c291 :: c292 :: c293 :: c294 :: c295 :: c296 :: c297 :: c298 :: c299 :: c300 :: c301 :: c302 :: c303 :: c304 :: c305 :: c306 :: c307 :: c308 :: c309 :: c310 :: c311 :: c312 :: c313 :: c314 :: c315 :: []), []⟩ wr)
  : Code.wp Tryz.prog (Code.loop (fixLoop 3)) Q ⟨List.toArray (c0 :: c1 :: c2 :: c3 :: c4 :: c5 :: (.slice (some ⟨gg, 0, none⟩) N N) :: c7 :: c8 :: c9 :: c10 :: c11 :: (.int .i64 (d : Int)) :: (.slice none 0 0) :: (.int .i64 0) :: c15 :: c16 :: c17 :: c18 :: c19 :: c20 :: c21 :: c22 :: c23 :: c24 :: c25 :: c26 :: c27 :: c28 :: c29 :: c30 :: c31 :: c32 :: c33 :: c34 :: c35 :: c36 :: c37 :: c38 :: c39 :: c40 :: c41 :: c42 :: c43 :: c44 :: c45 :: c46 :: c47 :: c48 :: c49 :: c50 :: c51 :: c52 :: c53 :: c54 :: c55 :: c56 :: c57 :: c58 :: c59 :: c60 :: c61 :: c62 :: c63 :: c64 :: c65 :: c66 :: c67 :: c68 :: c69 :: c70 :: c71 :: c72 :: c73 :: c74 :: c75 :: c76 :: c77 :: c78 :: c79 :: c80 :: c81 :: c82 :: c83 :: c84 :: c85 :: c86 :: c87 :: c88 :: c89 :: c90 :: c91 :: c92 :: c93 :: c94 :: c95 :: c96 :: c97 :: c98 :: c99 :: c100 :: c101 :: c102 :: c103 :: c104 :: c105 :: c106 :: c107 :: c108 :: c109 :: c110 :: c111 :: c112 :: c113 :: c114 :: c115 :: c116 :: c117 :: c118 :: c119 :: c120 :: c121 :: c122 :: c123 :: c124 :: c125 :: c126 :: c127 :: c128 :: c129 :: c130 :: c131 :: c132 :: c133 :: c134 :: c135 :: c136 :: c137 :: c138 :: c139 :: c140 :: c141 :: c142 :: c143 :: c144 :: c145 :: c146 :: c147 :: c148 :: c149 :: c150 :: c151 :: c152 :: c153 :: c154 :: c155 :: c156 :: c157 :: c158 :: c159 :: c160 :: c161 :: c162 :: c163 :: c164 :: c165 :: c166 :: c167 :: c168 :: c169 :: c170 :: c171 :: c172 :: c173 :: c174 :: c175 :: c176 :: c177 :: c178 :: c179 :: c180 :: c181 :: c182 :: c183 :: c184 :: c185 :: c186 :: c187 :: c188 :: c189 :: c190 :: c191 :: c192 :: c193 :: c194 :: c195 :: c196 :: c197 :: c198 :: c199 :: c200 :: c201 :: c202 :: c203 :: c204 :: c205 :: c206 :: c207 :: c208 :: c209 :: c210 :: c211 :: c212 :: c213 :: c214 :: c215 :: c216 :: c217 :: c218 :: c219 :: c220 :: c221 :: c222 :: c223 :: c224 :: c225 :: c226 :: c227 :: c228 :: c229 :: c230 :: c231 :: c232 :: c233 :: c234 :: c235 :: c236 :: c237 :: c238 :: c239 :: c240 :: c241 :: c242 :: c243 :: c244 :: c245 :: c246 :: c247 :: c248 :: c249 :: c250 :: c251 :: c252 :: c253 :: c254 :: c255 :: c256 :: c257 :: c258 :: c259 :: c260 :: c261 :: c262 :: c263 :: c264 :: c265 :: c266 :: c267 :: c268 :: c269 :: c270 :: c271 :: c272 :: c273 :: c274 :: c275 :: c276 :: c277 :: c278 :: c279 :: c280 :: c281 :: c282 :: c283 :: c284 :: c285 :: c286 :: c287 :: c288 :: c289 :: c290 :: c291 :: c292 :: c293 :: c294 :: c295 :: c296 :: c297 :: c298 :: c299 :: c300 :: c301 :: c302 :: c303 :: c304 :: c305 :: c306 :: c307 :: c308 :: c309 :: c310 :: c311 :: c312 :: c313 :: c314 :: c315 :: []), []⟩ w := by
 conv => arg 2; arg 1; whnf
 have HEXIT := hide hexit
 clear hexit
 have HG := hide hG
 clear hG
 obtain ⟨i0, hi0, hz0, hz1, hz2⟩ := info_parts infoI5
 have HI := hide hi0
 clear hi0
 go_loopw [13, 14] (fun v p wr => ∃ (i m : Nat), p = .int .i64 i ∧ i ≤ d ∧ m ≤ i ∧ (lostL zs i).length = m ∧ wr.ownsRow w.heap.size 3 1 v m ((ints (lostL zs i)).map (Value.int .i64)) ∧ Below w.heap.size w wr) (fun _ p _ => d - (intOf p).toNat)
 case atStart => exact ⟨0, 0, rfl, by omega, by omega, rfl, World.ownsRow_nil _ _ _ _, Below.refl _ _⟩
 case round =>
  obtain ⟨i, m, rfl, hi, hm, hml, hO, hK⟩ := hrel
  obtain ⟨vo, vc, hv⟩ := owns_len hO
  subst hv
  have hzr := hK.size
  have HO := hide hO
  have HK := hide hK
  have HML := hide hml
  clear hO hK hml
  by_cases hlt : i < d
  ·have hi1 : (i : Int) < (d : Int) := by omega
   have hi2 : (i : Int) < (N : Int) := by omega
   have hb := (kp_below (uh HK)).cell ((uh HG).cell (j := i) (by omega)) (by simp)
   cases hkp : keep zs i with
   | true =>
    rw [hkp] at hb
    have hb' : _ = some (Value.bool false) := hb
    clear hb
    have HS : Hid (lostL zs (i + 1) = lostL zs i) := by show _ = _; rw [lostL_succ, if_pos hkp, List.append_nil]
    clear hkp
    go_wp2_with fail
    go_roundw
    case rel => exact ⟨i + 1, m, by go_num, by omega, by omega, by rw [uh HS]; exact uh HML, by rw [uh HS]; exact uh HO, uh HK⟩
    case measure => simp [intOf]; omega
   | false =>
    rw [hkp] at hb
    have hb' : _ = some (Value.bool true) := hb
    clear hb
    have HS : Hid (lostL zs (i + 1) = lostL zs i ++ [i]) := by show _ = _; rw [lostL_succ, if_neg (by rw [hkp]; simp)]
    clear hkp
    have hka : Below wr.heap.size wr (wr.alloc (.cells #[.int .i64 (i : Int)] 3)) := (Below.refl _ _).alloc (Nat.le_refl _) _
    have HOW : Hid ((wr.alloc (.cells #[.int .i64 (i : Int)] 3)).ownsRow w.heap.size 3 1 (.slice vo m vc) m ((ints (lostL zs i)).map (Value.int .i64))) := by
     refine ⟨(uh HO).1, ?_⟩
     rcases (uh HO).2 with h' | ⟨g, cap, cur, h1, h2, h3, h4⟩
     ·exact .inl h'
     exact .inr ⟨g, cap, cur, h1, h2, (hka.block g (lt_of_block h3)).trans h3, h4⟩
    have HKA := hide ((uh HK).trans (hka.mono hzr))
    have HSV := hide (src_int (W := wr.alloc (.cells #[.int .i64 (i : Int)] 3)) (z := (i : Int)) (g := wr.heap.size) (cell_new' wr _ _).1)
    have HRW : Hid (∀ k, (Value.slice vo m vc).ownBlock = some k → w.heap.size ≤ k) := fun k hk => by
     rcases (uh HO).2 with ⟨h1, _⟩ | ⟨g, cap, cur, h1, h2, _⟩
     ·rw [h1] at hk; cases hk
     rw [h1] at hk; cases hk; exact h2
    clear hka
    go_wp2_with (at_builtin; refine wpList_append_one _ rfl _ _ 34 rfl w.heap.size 3 i0 (.int .i64 0) 8 Tryz.underlying34 (uh HI) hz0 hz1 hz2 rfl (by omega) (.slice vo m vc) m _ rfl (uh HOW) (some ⟨wr.heap.size, 0, none⟩) 1 1 [.int .i64 (i : Int)] rfl rfl (uh HSV) (by simp [Value.oneCell']) (fun h => by cases h) (by omega) (by simp; omega) ?_)
    intro v2 w2 ho hg
    have HK2 := hide (below_grown (uh HKA) hg (by simp; omega) (uh HRW))
    have HO2 := hide ho
    clear ho hg
    go_wp2_with fail
    go_roundw
    case rel => exact ⟨i + 1, m + 1, by go_num, by omega, by omega, by rw [uh HS, List.length_append, uh HML]; rfl, by rw [uh HS, ints_append, List.map_append]; exact uh HO2, uh HK2⟩
    case measure => simp [intOf]; omega
  have hi2 : i = d := by omega
  subst hi2
  have HZ := hide (owns_zfr (by rw [ints_len]; exact uh HML) (uh HO))
  go_wp2_with fail
  refine uh HEXIT _ _ _ _ _ _ _ _ _ _ _ _ _ _ _ _ ?_ ?_
  ·exact uh HZ
  exact uh HK
end Go.Proofs.YtjdikhelabibnaaGreat

namespace Go.Proofs.YtjdikhelabibnaaGreat
open Go.RowKit
theorem IBlk.kp {S : List Nat} {W W' : World} {g : Nat} {zs : List Int} (h : IBlk W g zs) (k : Kp S W W') (hg : g ∉ S) : IBlk W' g zs := h.of (k.block g h.lt hg)
theorem OutS.ine {W : World} {base gO N n : Nat} {G C : Nat → Nat} {out : List (List Nat)} (h : OutS W base gO N n G C out) {i g : Nat} {zs : List Int} (hb : IBlk W g zs) (hi : i < N) : g ≠ G i := by
 intro e
 obtain ⟨cur, h1, _⟩ := hb
 obtain ⟨c2, h2, _⟩ := h.rows i hi
 rw [← e, h1] at h2
 injection h2 with h3
 injection h3 with h4 h5
 exact absurd h5 (by decide)
structure L5S (base gO N n gg ga d : Nat) (G C : Nat → Nat) (zs : List Int) (xs : List Nat) (a b : Bool) (out0 : List (List Nat)) (w W : World) (k : Nat) (out : List (List Nat)) : Prop where
 o : OutS W base gO N n G C out
 g : BBlk W gg N (fun j => !keep zs j)
 i : xs ≠ [] → IBlk W ga (ints xs)
 kp : ∀ j, j < N → keep zs j = true → out.getD j [] = out0.getD j []
 bl : Below base w W
 gd : ∀ c, c < k → Gd a b d out c
theorem L5S.below {base gO N n gg ga d k : Nat} {G C : Nat → Nat} {zs : List Int} {xs : List Nat} {a b : Bool} {out0 out : List (List Nat)} {w W W' : World} (h : L5S base gO N n gg ga d G C zs xs a b out0 w W k out) (hk : Below W.heap.size W W') : L5S base gO N n gg ga d G C zs xs a b out0 w W' k out :=
 have hb : base ≤ W.heap.size := Nat.le_of_lt (Nat.lt_of_le_of_lt h.o.ob h.o.lt)
 ⟨h.o.below hk, h.g.of (hk.block _ h.g.lt), fun ha => (h.i ha).of (hk.block _ (h.i ha).lt), h.kp, h.bl.trans (hk.mono hb), h.gd⟩
theorem L5S.drew {base gO N n gg ga d k : Nat} {G C : Nat → Nat} {zs : List Int} {xs : List Nat} {a b : Bool} {out0 out : List (List Nat)} {w W : World} (h : L5S base gO N n gg ga d G C zs xs a b out0 w W k out) : L5S base gO N n gg ga d G C zs xs a b out0 w W.drew k out :=
 h.below (W' := W.drew) ⟨rfl, rfl, rfl, Nat.le_refl _, fun _ _ => rfl⟩
theorem L5S.set {base gO N n gg ga d k x v : Nat} {G C : Nat → Nat} {zs : List Int} {xs : List Nat} {a b : Bool} {out0 out : List (List Nat)} {w W : World} (h : L5S base gO N n gg ga d G C zs xs a b out0 w W k out) (hx : x < N) (hkx : keep zs x = false) (hk : k < n) (hv : v < 256) :
  L5S base gO N n gg ga d G C zs xs a b out0 w (W.setCell ⟨G x, k, none⟩ (.int .u8 (v : Int))) k (out.set x ((out.getD x []).set k v)) := by
 have hxl : x < out.length := by rw [h.o.len]; exact hx
 have hkp : Kp [G x] W (W.setCell ⟨G x, k, none⟩ (.int .u8 (v : Int))) := (Kp.refl _ W).setCell _ _ (.inl (by simp))
 have hb : base ≤ W.heap.size := Nat.le_of_lt (Nat.lt_of_le_of_lt h.o.ob h.o.lt)
 refine ⟨h.o.set hx hk hv, h.g.kp hkp (by simpa using h.o.bne h.g hx), fun ha => (h.i ha).kp hkp (by simpa using h.o.ine (h.i ha) hx), fun j hj hkj => ?_, below_kp h.bl hkp (by simpa using h.o.lo x hx) hb, fun c hc => (h.gd c hc).congr (fun i => ?_)⟩
 ·rw [getD_set hxl, if_neg (fun e => by rw [e, hkj] at hkx; cases hkx)]
  exact h.kp j hj hkj
 rw [rc_store hxl (h.o.rl x hx) hk, if_neg (fun e => by omega)]
theorem L5S.next {base gO N n gg ga d k : Nat} {G C : Nat → Nat} {zs : List Int} {xs : List Nat} {a b : Bool} {out0 out : List (List Nat)} {w W : World} (h : L5S base gO N n gg ga d G C zs xs a b out0 w W k out) (hg : Gd a b d out k) : L5S base gO N n gg ga d G C zs xs a b out0 w W (k + 1) out :=
 ⟨h.o, h.g, h.i, h.kp, h.bl, fun c hc => by
  by_cases e : c = k
  ·rw [e]; exact hg
  exact h.gd c (by omega)⟩
theorem rc_two {out : List (List Nat)} {x y k v u n N i : Nat} (hl : out.length = N) (hr : ∀ i, i < N → (out.getD i []).length = n) (hx : x < N) (hy : y < N) (hk : k < n) :
  rc ((out.set x ((out.getD x []).set k v)).set y (((out.set x ((out.getD x []).set k v)).getD y []).set k u)) i k = if i = y then u else if i = x then v else rc out i k := by
 have hx1 : x < out.length := by omega
 rw [rc_store (n := n) (by rw [List.length_set]; omega) (by
  rw [getD_set hx1]
  split
  ·rw [List.length_set]; exact hr x hx
  exact hr y hy) hk, rc_store hx1 (hr x hx) hk]
 simp
theorem gd_two {out out2 : List (List Nat)} {p : Nat → Bool} {d k x y v u pp q : Nat} (hr : ∀ i, rc out2 i k = if i = y then u else if i = x then v else rc out i k) (hx : x < d) (hy : y < d) (hxy : x ≠ y) (hd : d ≤ 14) (hp : ∀ i, i < d → (p i = true ↔ i = x ∨ i = y)) (hb : ∀ i, Bs (out.getD i []))
  (hpp : sP out p d k ^^^ rc out d k = pp) (hq : sQ out p d k ^^^ rc out (d + 1) k = q) (hv : gmul (q ^^^ gmul (E y) pp) (pw (E x ^^^ E y) (-1)) = v) (hu : pp ^^^ v = u) : Gd true true d out2 k := by
 obtain ⟨h1, h2⟩ := solve2 (s := sP out p d k) (t := sQ out p d k) (p := pp) (q := q) (X' := E x) (Y' := E y) (v := v) (u := u) (o := rc out d k) (o' := rc out (d + 1) k) hpp.symm hq.symm (sP_lt hb) sQ_lt (hb _ _) (hb _ _) (E_lt _) (E_lt _) (E_ne_of (by omega) (by omega) hxy) hv.symm hu.symm
 have e1 : ∀ i, i < d → ¬ p i = true → rc out2 i k = rc out i k := fun i hi h => by
  rw [hr i, if_neg (fun e => h ((hp i hi).2 (.inr e))), if_neg (fun e => h ((hp i hi).2 (.inl e)))]
 have sp : xsum (fun i => if p i = true then 0 else rc out2 i k) (List.range d) = sP out p d k := xsum_congr (fun i hi => by
  by_cases h : p i = true
  ·simp only [if_pos h]
  simp only [if_neg h]; exact e1 i (List.mem_range.1 hi) h)
 have sq : xsum (fun i => if p i = true then 0 else gmul (E i) (rc out2 i k)) (List.range d) = sQ out p d k := xsum_congr (fun i hi => by
  by_cases h : p i = true
  ·simp only [if_pos h]
  simp only [if_neg h]; rw [e1 i (List.mem_range.1 hi) h])
 have rx : rc out2 x k = v := by rw [hr x, if_neg hxy, if_pos rfl]
 have ry : rc out2 y k = u := by rw [hr y, if_pos rfl]
 have rd : ∀ i, d ≤ i → rc out2 i k = rc out i k := fun i hi => by rw [hr i, if_neg (by omega), if_neg (by omega)]
 refine ⟨fun _ => ?_, fun _ => ?_⟩
 ·unfold aP
  rw [xsum_part2 hx hy hxy hp, sp, rx, ry, rd d (by omega)]
  exact h1
 unfold aQ
 rw [xsum_part2 hx hy hxy hp, sq, rx, ry, rd (d + 1) (by omega)]
 exact h2
theorem one_facts {out out2 : List (List Nat)} {p : Nat → Bool} {d k x v : Nat} (hr : ∀ i, rc out2 i k = if i = x then v else rc out i k) (hx : x < d) (hp : ∀ i, i < d → (p i = true ↔ i = x)) : aP out2 d k = sP out p d k ^^^ v ∧ aQ out2 d k = sQ out p d k ^^^ gmul (E x) v ∧ ∀ i, d ≤ i → rc out2 i k = rc out i k := by
 have e1 : ∀ i, i < d → ¬ p i = true → rc out2 i k = rc out i k := fun i hi h => by
  rw [hr i, if_neg (fun e => h ((hp i hi).2 e))]
 have sp : xsum (fun i => if p i = true then 0 else rc out2 i k) (List.range d) = sP out p d k := xsum_congr (fun i hi => by
  by_cases h : p i = true
  ·simp only [if_pos h]
  simp only [if_neg h]; exact e1 i (List.mem_range.1 hi) h)
 have sq : xsum (fun i => if p i = true then 0 else gmul (E i) (rc out2 i k)) (List.range d) = sQ out p d k := xsum_congr (fun i hi => by
  by_cases h : p i = true
  ·simp only [if_pos h]
  simp only [if_neg h]; rw [e1 i (List.mem_range.1 hi) h])
 have rx : rc out2 x k = v := by rw [hr x, if_pos rfl]
 refine ⟨?_, ?_, fun i hi => by rw [hr i, if_neg (by omega)]⟩
 ·unfold aP
  rw [xsum_part1 hx hp, sp, rx]
 unfold aQ
 rw [xsum_part1 hx hp, sq, rx]
theorem gd_oneP {out out2 : List (List Nat)} {p : Nat → Bool} {d k x v : Nat} (hr : ∀ i, rc out2 i k = if i = x then v else rc out i k) (hx : x < d) (hp : ∀ i, i < d → (p i = true ↔ i = x)) (hv : sP out p d k ^^^ rc out d k = v) : Gd true false d out2 k := by
 obtain ⟨h1, _, h3⟩ := one_facts hr hx hp
 exact ⟨fun _ => by rw [h1, h3 d (Nat.le_refl _), ← hv, xor_self_left], fun h => (by cases h)⟩
theorem gd_oneQ {out out2 : List (List Nat)} {p : Nat → Bool} {d k x v q : Nat} (hr : ∀ i, rc out2 i k = if i = x then v else rc out i k) (hx : x < d) (hp : ∀ i, i < d → (p i = true ↔ i = x)) (hb : ∀ i, Bs (out.getD i [])) (hq : sQ out p d k ^^^ rc out (d + 1) k = q) (hv : gmul q (pw (E x) (-1)) = v) : Gd false true d out2 k := by
 obtain ⟨_, h2, h3⟩ := one_facts hr hx hp
 have h0 := E_ne x
 refine ⟨fun h => (by cases h), fun _ => ?_⟩
 rw [h2, h3 (d + 1) (by omega)]
 exact solve1 sQ_lt (hb _ _) (E_lt _) (by omega) (by rw [hq, hv])
theorem two_of5 {zs : List Int} {d x y : Nat} (h : lostL zs d = [x, y]) : x < d ∧ y < d ∧ x ≠ y ∧ keep zs x = false ∧ keep zs y = false ∧ ∀ i, i < d → ((!keep zs i) = true ↔ i = x ∨ i = y) := by
 have hm : ∀ i, i ∈ lostL zs d ↔ i = x ∨ i = y := fun i => by rw [h]; simp
 have hx := lostL_mem.1 ((hm x).2 (.inl rfl))
 have hy := lostL_mem.1 ((hm y).2 (.inr rfl))
 have hnd := lostL_nodup zs d
 rw [h] at hnd
 simp at hnd
 refine ⟨hx.1, hy.1, hnd, by unfold keep; simp [hx.2], by unfold keep; simp [hy.2], fun i hi => ?_⟩
 rw [← hm i, lostL_mem]
 unfold keep
 simp [hi]
theorem one_of {zs : List Int} {d x : Nat} (h : lostL zs d = [x]) : x < d ∧ keep zs x = false ∧ ∀ i, i < d → ((!keep zs i) = true ↔ i = x) := by
 have hm : ∀ i, i ∈ lostL zs d ↔ i = x := fun i => by rw [h]; simp
 have hx := lostL_mem.1 ((hm x).2 rfl)
 refine ⟨hx.1, by unfold keep; simp [hx.2], fun i hi => ?_⟩
 rw [← hm i, lostL_mem]
 unfold keep
 simp [hi]
theorem rmul_to {a b v : Nat} (h : gmul a b = v) (ha : a < 256) (hb : b < 256) (w : World) : Calls Tryz.prog 60 #[.int .u8 a, .int .u8 b] w fun e w' => e = .returned (.int .u8 (v : Nat)) ∧ w' = w := by
 subst h
 exact rmul_any a b ha hb w
theorem rexp_to {x a : Nat} (h : E x = a) (w : World) : Calls Tryz.prog 59 #[.int .i64 (x : Int)] w fun e w' => e = .returned (.int .u8 (a : Nat)) ∧ w' = w := by
 subst h
 rw [← X_nat]
 exact rexp_any (x : Int) w
theorem rinv_to {a v : Nat} (h : pw a (-1) = v) (ha : a < 256) (w : World) : Calls Tryz.prog 73 #[.int .u8 a] w fun e w' => e = .returned (.int .u8 (v : Nat)) ∧ w' = w := by
 subst h
 exact rinv_any a ha w
theorem rsums_to {w : World} {base gO N n gg cO cG k d s t : Nat} {G C : Nat → Nat} {out : List (List Nat)} {p : Nat → Bool} (hs : sP out p d k = s) (ht : sQ out p d k = t) (hO : OutS w base gO N n G C out) (hB : BBlk w gg N p) (hdN : d + 2 = N) (hN16 : N ≤ 16) (hk : k < n) :
  Calls Tryz.prog 72 #[.slice (some ⟨gO, 0, none⟩) N cO, .slice (some ⟨gg, 0, none⟩) N cG, .int .i64 (k : Int)] w fun e w' => e = .returned (.tuple #[.int .u8 (s : Nat), .int .u8 (t : Nat)]) ∧ Below w.heap.size w w' := by
 subst hs
 subst ht
 have h := rsums_any (cO := cO) (cG := cG) hO hB (by omega) hN16 hk
 rwa [show N - 2 = d by omega] at h
end Go.Proofs.YtjdikhelabibnaaGreat

namespace Go.Proofs.YtjdikhelabibnaaGreat
open Go.RowKit
set_option maxRecDepth 1000000 in
set_option maxHeartbeats 16000000 in
theorem fixL5a {Q : Exit → Act → World → Prop} {c0 c1 c2 c3 c4 c5 c7 c9 c11 c14 c16 c17 c18 c19 c20 c21 c22 c23 c24 c25 c26 c27 c28 c29 c30 c31 c32 c33 c34 c35 c36 c37 c38 c39 c40 c41 c42 c43 c44 c45 c46 c47 c48 c49 c50 c51 c52 c53 c54 c55 c56 c57 c58 c59 c60 c61 c62 c63 c64 c65 c66 c67 c68 c69 c70 c71 c72 c73 c74 c75 c76 c77 c78 c79 c80 c81 c82 c83 c84 c85 c86 c87 c88 c89 c90 c91 c92 c93 c94 c95 c96 c97 c98 c99 c100 c101 c102 c103 c104 c105 c106 c107 c108 c109 c110 c111 c112 c113 c114 c115 c116 c117 c118 c119 c120 c121 c122 c123 c124 c125 c126 c127 c128 c129 c130 c131 c132 c133 c134 c135 c136 c137 c138 c139 c140 c141 c142 c143 c144 c145 c146 c147 c148 c149 c150 c151 c152 c153 c154 c155 c156 c157 c158 c159 c160 c161 c162 c163 c164 c165 c166 c167 c168 c169 c170 c171 c172 c173 c174 c175 c176 c177 c178 c179 c180 c181 c182 c183 c184 c185 c186 c187 c188 c189 c190 c191 c192 c193 c194 c195 c196 c197 c198 c199 c200 c201 c202 c203 c204 c205 c206 c207 c208 c209 c210 c211 c212 c213 c214 c215 c216 c217 c218 c219 c220 c221 c222 c223 c224 c225 c226 c227 c228 c229 c230 c231 c232 c233 c234 c235 c236 c237 c238 c239 c240 c241 c242 c243 c244 c245 c246 c247 c248 c249 c250 c251 c252 c253 c254 c255 c256 c257 c258 c259 c260 c261 c262 c263 c264 c265 c266 c267 c268 c269 c270 c271 c272 c273 c274 c275 c276 c277 c278 c279 c280 c281 c282 c283 c284 c285 c286 c287 c288 c289 c290 c291 c292 c293 c294 c295 c296 c297 c298 c299 c300 c301 c302 c303 c304 c305 c306 c307 c308 c309 c310 c311 c312 c313 c314 c315 : Value} {w : World} {base gO N n gg ga d cO ca x y : Nat} {G C : Nat → Nat} {zs : List Int} {out : List (List Nat)} (hN4 : 4 ≤ N) (hN16 : N ≤ 16) (hdN : d + 2 = N) (hn : n ≤ 100000) (hL : L5S base gO N n gg ga d G C zs [x, y] true true out w w 0 out) (has : lostL zs d = [x, y])
  (hexit : ∀ (u15 u16 u17 u18 u19 u20 u21 u154 u155 u156 u157 u158 u159 u160 u161 u162 u163 u164 u165 u166 u167 u168 u169 u170 u171 u172 u173 u174 u175 u176 u177 u178 u179 u180 u181 u182 u183 u184 u185 u186 u187 u188 u189 u190 u191 u192 u193 u194 u195 u196 u197 u198 u199 u200 u201 u202 u203 u204 u205 u206 u207 u208 u209 u210 u211 u212 u213 u214 u215 u216 u217 u218 u219 u220 u221 u222 u223 u224 u225 u226 u227 u228 u229 u230 u231 u232 u233 u234 u235 u236 u237 u238 u239 u240 u241 u242 u243 u244 u245 u246 u247 u248 u249 u250 u251 u252 u253 u254 u255 u256 u257 u258 u259 u260 u261 u262 u263 u264 u265 u266 u267 u268 u269 u270 u271 u272 u273 u274 u275 u276 u277 u278 u279 u280 u281 u282 u283 u284 u285 u286 u287 u288 u289 : Value) (wr : World) (o2 : List (List Nat)), L5S base gO N n gg ga d G C zs [x, y] true true out w wr n o2 → Q (.exit 8) ⟨List.toArray (c0 :: c1 :: c2 :: c3 :: c4 :: c5 :: (.slice (some ⟨gg, 0, none⟩) N N) :: c7 :: (.int .i64 (n : Int)) :: c9 :: (.slice (some ⟨gO, 0, none⟩) N cO) :: c11 :: (.int .i64 (d : Int)) :: (.slice (some ⟨ga, 0, none⟩) 2 ca) :: c14 :: u15 :: u16 :: u17 :: u18 :: u19 :: u20 :: u21 :: c22 :: c23 :: c24 :: c25 :: c26 :: c27 :: c28 :: c29 :: c30 :: c31 :: c32 :: c33 :: c34 :: c35 :: c36 :: c37 :: c38 :: c39 :: c40 :: c41 :: c42 :: c43 :: c44 :: c45 :: c46 :: c47 :: c48 :: c49 :: c50 :: c51 :: c52 :: c53 :: c54 :: c55 :: c56 :: c57 :: c58 :: c59 :: c60 :: c61 :: c62 :: c63 :: c64 :: c65 :: c66 :: c67 :: c68 :: c69 :: c70 :: c71 :: c72 :: c73 :: c74 :: c75 :: c76 :: c77 :: c78 :: c79 :: c80 :: c81 :: c82 :: c83 :: c84 :: c85 :: c86 :: c87 :: c88 :: c89 :: c90 :: c91 :: c92 :: c93 :: c94 :: c95 :: c96 :: c97 :: c98 :: c99 :: c100 :: c101 :: c102 :: c103 :: c104 :: c105 :: c106 :: c107 :: c108 :: c109 :: c110 :: c111 :: c112 :: c113 :: c114 :: c115 :: c116 :: c117 :: c118 :: c119 :: c120 :: c121 :: c122 :: c123 :: c124 :: c125 :: c126 :: c127 :: c128 :: c129 :: c130 :: c131 :: c132 :: c133 :: c134 :: c135 :: c136 :: c137 :: c138 :: c139 :: c140 :: c141 :: c142 :: c143 :: c144 :: c145 :: c146 :: c147 :: c148 :: c149 :: c150 :: c151 :: c152 :: c153 :: u154 :: u155 :: u156 :: u157 :: u158 :: u159 :: u160 :: u161 :: u162 :: u163 :: u164 :: u165 :: u166 :: u167 :: u168 :: u169 :: u170 :: u171 :: u172 :: u173 :: u174 :: u175 :: u176 :: u177 :: u178 :: u179 :: u180 :: u181 :: u182 :: u183 :: u184 :: u185 :: u186 :: u187 :: u188 :: u189 :: u190 :: u191 :: u192 :: u193 :: u194 :: u195 :: u196 :: u197 :: u198 :: u199 :: u200 :: u201 :: u202 :: u203 :: u204 :: u205 :: u206 :: u207 :: u208 :: u209 :: u210 :: u211 :: u212 :: u213 :: u214 :: u215 :: u216 :: u217 :: u218 :: u219 :: u220 :: u221 :: u222 :: u223 :: u224 :: u225 :: u226 :: u227 :: u228 :: u229 :: u230 :: u231 :: u232 :: u233 :: u234 :: u235 :: u236 :: u237 :: u238 :: u239 :: u240 :: u241 :: u242 :: u243 :: u244 :: u245 :: u246 :: u247 :: u248 :: u249 :: u250 :: u251 :: u252 :: u253 :: u254 :: u255 :: u256 :: u257 :: u258 :: u259 :: u260 :: u261 :: u262 :: u263 :: u264 :: u265 :: u266 :: u267 :: u268 :: u269 :: u270 :: u271 :: u272 :: u273 :: u274 :: u275 :: u276 :: u277 :: u278 :: u279 :: u280 :: u281 :: u282 :: u283 :: u284 :: u285 :: u286 :: u287 :: u288 :: u289 :: c290 :: c291 :: c292 :: c293 :: c294 :: c295 :: c296 :: c297 :: c298 :: c299 :: c300 :: c301 :: c302 :: c303 :: c304 :: c305 :: c306 :: c307 :: c308 :: c309 :: c310 :: c311 :: c312 :: c313 :: c314 :: c315 :: []), []⟩ wr)
  : Code.wp Tryz.prog (Code.loop (fixLoop 4)) Q ⟨List.toArray (c0 :: c1 :: c2 :: c3 :: c4 :: c5 :: (.slice (some ⟨gg, 0, none⟩) N N) :: c7 :: (.int .i64 (n : Int)) :: c9 :: (.slice (some ⟨gO, 0, none⟩) N cO) :: c11 :: (.int .i64 (d : Int)) :: (.slice (some ⟨ga, 0, none⟩) 2 ca) :: c14 :: (.int .i64 0) :: c16 :: c17 :: c18 :: c19 :: c20 :: c21 :: c22 :: c23 :: c24 :: c25 :: c26 :: c27 :: c28 :: c29 :: c30 :: c31 :: c32 :: c33 :: c34 :: c35 :: c36 :: c37 :: c38 :: c39 :: c40 :: c41 :: c42 :: c43 :: c44 :: c45 :: c46 :: c47 :: c48 :: c49 :: c50 :: c51 :: c52 :: c53 :: c54 :: c55 :: c56 :: c57 :: c58 :: c59 :: c60 :: c61 :: c62 :: c63 :: c64 :: c65 :: c66 :: c67 :: c68 :: c69 :: c70 :: c71 :: c72 :: c73 :: c74 :: c75 :: c76 :: c77 :: c78 :: c79 :: c80 :: c81 :: c82 :: c83 :: c84 :: c85 :: c86 :: c87 :: c88 :: c89 :: c90 :: c91 :: c92 :: c93 :: c94 :: c95 :: c96 :: c97 :: c98 :: c99 :: c100 :: c101 :: c102 :: c103 :: c104 :: c105 :: c106 :: c107 :: c108 :: c109 :: c110 :: c111 :: c112 :: c113 :: c114 :: c115 :: c116 :: c117 :: c118 :: c119 :: c120 :: c121 :: c122 :: c123 :: c124 :: c125 :: c126 :: c127 :: c128 :: c129 :: c130 :: c131 :: c132 :: c133 :: c134 :: c135 :: c136 :: c137 :: c138 :: c139 :: c140 :: c141 :: c142 :: c143 :: c144 :: c145 :: c146 :: c147 :: c148 :: c149 :: c150 :: c151 :: c152 :: c153 :: c154 :: c155 :: c156 :: c157 :: c158 :: c159 :: c160 :: c161 :: c162 :: c163 :: c164 :: c165 :: c166 :: c167 :: c168 :: c169 :: c170 :: c171 :: c172 :: c173 :: c174 :: c175 :: c176 :: c177 :: c178 :: c179 :: c180 :: c181 :: c182 :: c183 :: c184 :: c185 :: c186 :: c187 :: c188 :: c189 :: c190 :: c191 :: c192 :: c193 :: c194 :: c195 :: c196 :: c197 :: c198 :: c199 :: c200 :: c201 :: c202 :: c203 :: c204 :: c205 :: c206 :: c207 :: c208 :: c209 :: c210 :: c211 :: c212 :: c213 :: c214 :: c215 :: c216 :: c217 :: c218 :: c219 :: c220 :: c221 :: c222 :: c223 :: c224 :: c225 :: c226 :: c227 :: c228 :: c229 :: c230 :: c231 :: c232 :: c233 :: c234 :: c235 :: c236 :: c237 :: c238 :: c239 :: c240 :: c241 :: c242 :: c243 :: c244 :: c245 :: c246 :: c247 :: c248 :: c249 :: c250 :: c251 :: c252 :: c253 :: c254 :: c255 :: c256 :: c257 :: c258 :: c259 :: c260 :: c261 :: c262 :: c263 :: c264 :: c265 :: c266 :: c267 :: c268 :: c269 :: c270 :: c271 :: c272 :: c273 :: c274 :: c275 :: c276 :: c277 :: c278 :: c279 :: c280 :: c281 :: c282 :: c283 :: c284 :: c285 :: c286 :: c287 :: c288 :: c289 :: c290 :: c291 :: c292 :: c293 :: c294 :: c295 :: c296 :: c297 :: c298 :: c299 :: c300 :: c301 :: c302 :: c303 :: c304 :: c305 :: c306 :: c307 :: c308 :: c309 :: c310 :: c311 :: c312 :: c313 :: c314 :: c315 :: []), []⟩ w := by
 conv => arg 2; arg 1; whnf
 have HEXIT := hide hexit
 clear hexit
 have HL0 := hide hL
 clear hL
 obtain ⟨e, he0⟩ : ∃ e : Nat, d + 1 = e := ⟨_, rfl⟩
 have hde : (d : Int) + 1 = (e : Int) := by omega
 have HE0 := hide he0
 have hdN1 : d < N := by omega
 have heN1 : e < N := by omega
 have hdN2 : (d : Int) < (N : Int) := by omega
 have heN2 : (e : Int) < (N : Int) := by omega
 have hd14 : d ≤ 14 := by omega
 have hwe : IntKind.i64.wrap (e : Int) = (e : Int) := IntWalk.i64_in _ ⟨by omega, by omega⟩
 clear he0
 go_loopw [15] (fun p wr => ∃ (k : Nat) (o2 : List (List Nat)), p = .int .i64 k ∧ k ≤ n ∧ L5S base gO N n gg ga d G C zs [x, y] true true out w wr k o2) (fun p _ => n - (intOf p).toNat)
 case atStart => exact ⟨0, out, rfl, by omega, uh HL0⟩
 case round =>
  obtain ⟨k, o2, rfl, hkn, hL⟩ := hrel
  have HL := hide hL
  clear hL
  by_cases hk : k < n
  ·have hk1 : (k : Int) < (n : Int) := by omega
   obtain ⟨s, hs⟩ : ∃ s, sP o2 (fun j => !keep zs j) d k = s := ⟨_, rfl⟩
   obtain ⟨t, ht⟩ : ∃ t, sQ o2 (fun j => !keep zs j) d k = t := ⟨_, rfl⟩
   obtain ⟨od, hod⟩ : ∃ q, rc o2 d k = q := ⟨_, rfl⟩
   obtain ⟨oe, hoe⟩ : ∃ q, rc o2 e k = q := ⟨_, rfl⟩
   have hs8 : s < 256 := by rw [← hs]; exact sP_lt (uh HL).o.bs
   have ht8 : t < 256 := by rw [← ht]; exact sQ_lt
   have hod8 : od < 256 := by rw [← hod]; exact (uh HL).o.bs d k
   have hoe8 : oe < 256 := by rw [← hoe]; exact (uh HL).o.bs e k
   have HS := hide hs
   have HT := hide ht
   have HOD := hide hod
   have HOE := hide hoe
   clear hs ht hod hoe
   go_wp2_with fail
   refine (rsums_to (uh HS) (uh HT) (uh HL).o (uh HL).g hdN hN16 hk).mono ?_
   rintro e9 Ws ⟨rfl, hkw⟩
   replace HL := hide ((uh HL).below hkw)
   clear hkw
   have HA0 : Hid (Ws.cell? ⟨ga, 0, none⟩ = some (.int .i64 (x : Int))) := ((uh HL).i (by simp)).cell (j := 0) (by simp [ints])
   have HA1 : Hid (Ws.cell? ⟨ga, 1, none⟩ = some (.int .i64 (y : Int))) := ((uh HL).i (by simp)).cell (j := 1) (by simp [ints])
   obtain ⟨h1, h2, h3, h4, h5, h6⟩ := two_of5 has
   have hxN : x < N := by omega
   have hyN : y < N := by omega
   have hxN1 : (x : Int) < (N : Int) := by omega
   have hyN1 : (y : Int) < (N : Int) := by omega
   have HP6 := hide h6
   have HNE := hide h3
   have HKX := hide h4
   have HKY := hide h5
   clear h3 h4 h5 h6
   obtain ⟨ex, hex⟩ : ∃ q, E x = q := ⟨_, rfl⟩
   obtain ⟨ey, hey⟩ : ∃ q, E y = q := ⟨_, rfl⟩
   have hx8 : ex < 256 := by rw [← hex]; exact E_lt _
   have hy8 : ey < 256 := by rw [← hey]; exact E_lt _
   have HX := hide hex
   have HY := hide hey
   clear hex hey
   go_wp2_with fail
   refine wp_region_noPanic ?_
   refine wp_region_held_drew (S := fun W => Kp [] Ws W) (by kernel_rfl) ((Kp.refl _ _).drew) (fun hHeld => ?_)
   have HH := hide hHeld
   clear hHeld
   refine tkL 0 (uh HH) ?_
   (try simp only [layB])
   refine tkL 1 (uh HH) ?_
   (try simp only [layB])
   refine tkW 2 (v := ?_) ?_ (uh HH) ?_
   rotate_left 1
   ·intro W1 hSW; have hc := hSW.cell (uh HA0) (by simp); clear hSW; go_simp; all_goals (with_reducible rfl)
   (try simp only [layB])
   refine tkL 4 (uh HH) ?_
   (try simp only [layB])
   refine tkL 5 (uh HH) ?_
   (try simp only [layB])
   refine tkW 6 (v := ?_) ?_ (uh HH) ?_
   rotate_left 1
   ·intro W1 hSW; have hc := hSW.cell (uh HA1) (by simp); clear hSW; go_simp; all_goals (with_reducible rfl)
   (try simp only [layB])
   refine wpAnyH_ready (rs := [3]) (by kernel_rfl) (by simp) ?_
   refine consL rfl (fun K hK => ?_) AllReadyH.nil
   go_simp
   refine (rexp_to (uh HX) _).mono ?_
   rintro e w9 ⟨rfl, hw9⟩
   subst hw9
   go_wp2_with fail
   refine hK.out _ _ (uh HH) (fun hHeld => ?_)
   clear hK K HH
   have HH := hide hHeld
   clear hHeld
   (try simp only [layB])
   refine wpAnyH_ready (rs := [7]) (by kernel_rfl) (by simp) ?_
   refine consL rfl (fun K hK => ?_) AllReadyH.nil
   go_simp
   refine (rexp_to (uh HY) _).mono ?_
   rintro e w9 ⟨rfl, hw9⟩
   subst hw9
   go_wp2_with fail
   refine hK.out _ _ (uh HH) (fun hHeld => ?_)
   clear hK K HH
   have HH := hide hHeld
   clear hHeld
   (try simp only [layB])
   refine tkL 8 (uh HH) ?_
   (try simp only [layB])
   refine tkL 9 (uh HH) ?_
   (try simp only [layB])
   refine wpAnyH_done (by kernel_rfl) ?_ _
   refine NoPanic.normal ?_
   replace HL := hide (uh HL).drew
   generalize Ws.drew = W2 at HL ⊢
   clear HA0 HA1
   have HHd := hide ((uh HL).o.head (i := d) hdN1)
   have HHe := hide ((uh HL).o.head (i := e) heN1)
   have HBd : Hid (W2.cell? ⟨G d, k, none⟩ = some (.int .u8 ((od : Nat) : Int))) := ((uh HL).o.byte (i := d) (k := k) hdN1 hk).trans (by rw [uh HOD])
   have HBe : Hid (W2.cell? ⟨G e, k, none⟩ = some (.int .u8 ((oe : Nat) : Int))) := ((uh HL).o.byte (i := e) (k := k) heN1 hk).trans (by rw [uh HOE])
   have hxr1 := bits_xor_u8 hs8 hod8
   have hxr2 := bits_xor_u8 ht8 hoe8
   obtain ⟨pp, hpp⟩ : ∃ q, s ^^^ od = q := ⟨_, rfl⟩
   obtain ⟨qq, hqq⟩ : ∃ q, t ^^^ oe = q := ⟨_, rfl⟩
   have hpp8 : pp < 256 := by rw [← hpp]; exact xor_lt hs8 hod8
   have hqq8 : qq < 256 := by rw [← hqq]; exact xor_lt ht8 hoe8
   rw [hpp] at hxr1
   rw [hqq] at hxr2
   have HPP := hide hpp
   have HQQ := hide hqq
   clear hpp hqq
   go_wp2_with fail
   refine wp_region_noPanic ?_
   refine wp_region_held_drew (S := fun W => Kp [] W2 W) (by kernel_rfl) ((Kp.refl _ _).drew) (fun hHeld => ?_)
   have HH := hide hHeld
   clear hHeld
   refine tkL 0 (uh HH) ?_
   (try simp only [layB])
   refine tkL 1 (uh HH) ?_
   (try simp only [layB])
   refine tkL 2 (uh HH) ?_
   (try simp only [layB])
   refine tkL 3 (uh HH) ?_
   (try simp only [layB])
   refine tkW 4 (v := ?_) ?_ (uh HH) ?_
   rotate_left 1
   ·intro W1 hSW; have hc := hSW.cell (uh HHd) (by simp); clear hSW; go_simp; all_goals (with_reducible rfl)
   (try simp only [layB])
   refine tkL 5 (uh HH) ?_
   (try simp only [layB])
   refine tkL 6 (uh HH) ?_
   (try simp only [layB])
   refine tkW 7 (v := ?_) ?_ (uh HH) ?_
   rotate_left 1
   ·intro W1 hSW; have hc := hSW.cell (uh HBd) (by simp); clear hSW; go_simp; all_goals (with_reducible rfl)
   (try simp only [layB])
   refine tkL 8 (uh HH) ?_
   (try simp only [layB])
   refine tkL 9 (uh HH) ?_
   (try simp only [layB])
   refine tkL 10 (uh HH) ?_
   (try simp only [layB])
   refine tkL 11 (uh HH) ?_
   (try simp only [layB])
   refine tkL 12 (uh HH) ?_
   (try simp only [layB])
   refine tkL 13 (uh HH) ?_
   (try simp only [layB])
   refine tkW 14 (v := ?_) ?_ (uh HH) ?_
   rotate_left 1
   ·intro W1 hSW; have hc := hSW.cell (uh HHe) (by simp); clear hSW; go_simp; all_goals (with_reducible rfl)
   (try simp only [layB])
   refine tkL 15 (uh HH) ?_
   (try simp only [layB])
   refine tkL 16 (uh HH) ?_
   (try simp only [layB])
   refine tkW 17 (v := ?_) ?_ (uh HH) ?_
   rotate_left 1
   ·intro W1 hSW; have hc := hSW.cell (uh HBe) (by simp); clear hSW; go_simp; all_goals (with_reducible rfl)
   (try simp only [layB])
   refine tkL 18 (uh HH) ?_
   (try simp only [layB])
   refine tkL 19 (uh HH) ?_
   (try simp only [layB])
   refine tkL 20 (uh HH) ?_
   (try simp only [layB])
   refine wpAnyH_done (by kernel_rfl) ?_ _
   refine NoPanic.normal ?_
   clear hxr1 hxr2 HHd HHe HBd HBe
   replace HL := hide (uh HL).drew
   generalize W2.drew = W3 at HL ⊢
   obtain ⟨m1, hm1⟩ : ∃ q, gmul ey pp = q := ⟨_, rfl⟩
   have hm8 : m1 < 256 := by rw [← hm1]; exact gmul_lt hy8
   have hxr1 := bits_xor_u8 hqq8 hm8
   have hxr2 := bits_xor_u8 hx8 hy8
   obtain ⟨r1, hr1⟩ : ∃ q, qq ^^^ m1 = q := ⟨_, rfl⟩
   have hr8 : r1 < 256 := by rw [← hr1]; exact xor_lt hqq8 hm8
   obtain ⟨z, hz⟩ : ∃ q, ex ^^^ ey = q := ⟨_, rfl⟩
   have hz8 : z < 256 := by rw [← hz]; exact xor_lt hx8 hy8
   obtain ⟨iv, hiv⟩ : ∃ q, pw z (-1) = q := ⟨_, rfl⟩
   have hiv8 : iv < 256 := by rw [← hiv]; exact pw_lt _ _
   obtain ⟨v, hv⟩ : ∃ q, gmul r1 iv = q := ⟨_, rfl⟩
   have hv8 : v < 256 := by rw [← hv]; exact gmul_lt hr8
   rw [hr1] at hxr1
   rw [hz] at hxr2
   have HM1 := hide hm1
   have HR1 := hide hr1
   have HZ := hide hz
   have HIV := hide hiv
   have HV := hide hv
   clear hm1 hr1 hz hiv hv
   have HAX : Hid (¬ ga = G x) := (uh HL).o.ine ((uh HL).i (by simp)) hxN
   have HAY : Hid (¬ ga = G y) := (uh HL).o.ine ((uh HL).i (by simp)) hyN
   have HGX : Hid (¬ gO = G x) := (uh HL).o.gne hxN
   have HGY : Hid (¬ gO = G y) := (uh HL).o.gne hyN
   have HXY : Hid (¬ G x = G y) := (uh HL).o.ne hxN hyN (uh HNE)
   have HA0 : Hid (W3.cell? ⟨ga, 0, none⟩ = some (.int .i64 (x : Int))) := ((uh HL).i (by simp)).cell (j := 0) (by simp [ints])
   have HHx := hide ((uh HL).o.head (i := x) hxN)
   go_wp2_with fail
   refine wp_region_noPanic ?_
   refine wp_region_held_drew (S := fun W => Kp [G x] W3 W) (by kernel_rfl) ((Kp.refl _ _).drew) (fun hHeld => ?_)
   have HH := hide hHeld
   clear hHeld
   refine tkL 0 (uh HH) ?_
   (try simp only [layB])
   refine tkL 1 (uh HH) ?_
   (try simp only [layB])
   refine tkL 2 (uh HH) ?_
   (try simp only [layB])
   refine tkW 3 (v := ?_) ?_ (uh HH) ?_
   rotate_left 1
   ·intro W1 hSW; have hc := hSW.cell (uh HA0) (by simp; exact uh HAX); clear hSW; go_simp; all_goals (with_reducible rfl)
   (try simp only [layB])
   refine tkL 4 (uh HH) ?_
   (try simp only [layB])
   refine tkW 5 (v := ?_) ?_ (uh HH) ?_
   rotate_left 1
   ·intro W1 hSW; have hc := hSW.cell (uh HHx) (by simp; exact uh HGX); clear hSW; go_simp; all_goals (with_reducible rfl)
   (try simp only [layB])
   refine tkL 6 (uh HH) ?_
   (try simp only [layB])
   refine tkL 7 (uh HH) ?_
   (try simp only [layB])
   refine tkL 8 (uh HH) ?_
   (try simp only [layB])
   refine tkL 9 (uh HH) ?_
   (try simp only [layB])
   refine tkL 12 (uh HH) ?_
   (try simp only [layB])
   refine tkL 13 (uh HH) ?_
   (try simp only [layB])
   refine tkL 14 (uh HH) ?_
   (try simp only [layB])
   refine wpAnyH_ready (rs := [10]) (by kernel_rfl) (by simp) ?_
   refine consL rfl (fun K hK => ?_) AllReadyH.nil
   go_simp
   refine (rmul_to (uh HM1) hy8 hpp8 _).mono ?_
   rintro e w9 ⟨rfl, hw9⟩
   subst hw9
   go_wp2_with fail
   refine hK.out _ _ (uh HH) (fun hHeld => ?_)
   clear hK K HH
   have HH := hide hHeld
   clear hHeld
   (try simp only [layB])
   refine tkL 11 (uh HH) ?_
   (try simp only [layB])
   refine wpAnyH_ready (rs := [15]) (by kernel_rfl) (by simp) ?_
   refine consL rfl (fun K hK => ?_) AllReadyH.nil
   go_simp
   refine (rinv_to (uh HIV) hz8 _).mono ?_
   rintro e w9 ⟨rfl, hw9⟩
   subst hw9
   go_wp2_with fail
   refine hK.out _ _ (uh HH) (fun hHeld => ?_)
   clear hK K HH
   have HH := hide hHeld
   clear hHeld
   (try simp only [layB])
   refine wpAnyH_ready (rs := [16]) (by kernel_rfl) (by simp) ?_
   refine consL rfl (fun K hK => ?_) AllReadyH.nil
   go_simp
   refine (rmul_to (uh HV) hr8 hiv8 _).mono ?_
   rintro e w9 ⟨rfl, hw9⟩
   subst hw9
   go_wp2_with fail
   refine hK.out _ _ (uh HH) (fun hHeld => ?_)
   clear hK K HH
   have HH := hide hHeld
   clear hHeld
   (try simp only [layB])
   refine tkL 17 (uh HH) ?_
   (try simp only [layB])
   refine wpAnyH_ready (rs := [18]) (by kernel_rfl) (by simp) ?_
   refine consL rfl (fun K hK => ?_) AllReadyH.nil
   have he : W3.cell? ⟨G x, k, none⟩ = some (.int .u8 ((rc o2 x k : Nat) : Int)) := (uh HL).o.byte hxN hk
   have hf4 : W3.frozen? ⟨G x, k, none⟩ = false := ((uh HL).o.rows x hxN).free
   go_simp
   have HL2 : Hid (L5S base gO N n gg ga d G C zs [x, y] true true out w (W3.setCell ⟨G x, k, none⟩ (.int .u8 (v : Int))).drew k _) := ((uh HL).set hxN (uh HKX) hk hv8).drew
   have HKW2 : Hid (Kp [G x] W3 (W3.setCell ⟨G x, k, none⟩ (.int .u8 (v : Int))).drew) := ((Kp.refl [G x] W3).setCell ⟨G x, k, none⟩ (.int .u8 (v : Int)) (.inl (by simp))).drew
   refine hK.out _ _ (uh HKW2) (fun hHeld => ?_)
   clear hHeld hK K HH he hf4 HKW2
   (try simp only [layB])
   refine wpAnyH_done (by kernel_rfl) ?_ _
   refine NoPanic.normal ?_
   clear hxr1 hxr2 HA0 HHx
   obtain ⟨o3, ho3⟩ : ∃ q, o2.set x ((o2.getD x []).set k v) = q := ⟨_, rfl⟩
   have HOL : Hid (o2.length = N ∧ ∀ i, i < N → (o2.getD i []).length = n) := ⟨(uh HL).o.len, (uh HL).o.rl⟩
   have HBS : Hid (∀ i, Bs (o2.getD i [])) := (uh HL).o.bs
   clear HL
   have HL := HL2
   clear HL2
   rw [ho3] at HL
   generalize (W3.setCell ⟨G x, k, none⟩ (.int .u8 (v : Int))).drew = W4 at HL ⊢
   have hbx : rc o3 x k = v := by rw [← ho3, rc_store (by rw [(uh HOL).1]; exact hxN) ((uh HOL).2 x hxN) hk, if_pos ⟨rfl, rfl⟩]
   have HO3 := hide ho3
   have HBX0 := hide hbx
   clear ho3 hbx
   have HA0 : Hid (W4.cell? ⟨ga, 0, none⟩ = some (.int .i64 (x : Int))) := ((uh HL).i (by simp)).cell (j := 0) (by simp [ints])
   have HA1 : Hid (W4.cell? ⟨ga, 1, none⟩ = some (.int .i64 (y : Int))) := ((uh HL).i (by simp)).cell (j := 1) (by simp [ints])
   have HHx := hide ((uh HL).o.head (i := x) hxN)
   have HHy := hide ((uh HL).o.head (i := y) hyN)
   have HBx : Hid (W4.cell? ⟨G x, k, none⟩ = some (.int .u8 ((v : Nat) : Int))) := ((uh HL).o.byte (i := x) (k := k) hxN hk).trans (by rw [uh HBX0])
   have hxr1 := bits_xor_u8 hpp8 hv8
   obtain ⟨u, hu⟩ : ∃ q, pp ^^^ v = q := ⟨_, rfl⟩
   have hu8 : u < 256 := by rw [← hu]; exact xor_lt hpp8 hv8
   rw [hu] at hxr1
   have HU := hide hu
   clear hu
   go_wp2_with fail
   refine wp_region_noPanic ?_
   refine wp_region_held_drew (S := fun W => Kp [G y] W4 W) (by kernel_rfl) ((Kp.refl _ _).drew) (fun hHeld => ?_)
   have HH := hide hHeld
   clear hHeld
   refine tkL 0 (uh HH) ?_
   (try simp only [layB])
   refine tkL 1 (uh HH) ?_
   (try simp only [layB])
   refine tkL 2 (uh HH) ?_
   (try simp only [layB])
   refine tkW 3 (v := ?_) ?_ (uh HH) ?_
   rotate_left 1
   ·intro W1 hSW; have hc := hSW.cell (uh HA1) (by simp; exact uh HAY); clear hSW; go_simp; all_goals (with_reducible rfl)
   (try simp only [layB])
   refine tkL 4 (uh HH) ?_
   (try simp only [layB])
   refine tkW 5 (v := ?_) ?_ (uh HH) ?_
   rotate_left 1
   ·intro W1 hSW; have hc := hSW.cell (uh HHy) (by simp; exact uh HGY); clear hSW; go_simp; all_goals (with_reducible rfl)
   (try simp only [layB])
   refine tkL 6 (uh HH) ?_
   (try simp only [layB])
   refine tkL 7 (uh HH) ?_
   (try simp only [layB])
   refine tkL 8 (uh HH) ?_
   (try simp only [layB])
   refine tkL 9 (uh HH) ?_
   (try simp only [layB])
   refine tkL 10 (uh HH) ?_
   (try simp only [layB])
   refine tkW 11 (v := ?_) ?_ (uh HH) ?_
   rotate_left 1
   ·intro W1 hSW; have hc := hSW.cell (uh HA0) (by simp; exact uh HAY); clear hSW; go_simp; all_goals (with_reducible rfl)
   (try simp only [layB])
   refine tkL 12 (uh HH) ?_
   (try simp only [layB])
   refine tkW 13 (v := ?_) ?_ (uh HH) ?_
   rotate_left 1
   ·intro W1 hSW; have hc := hSW.cell (uh HHx) (by simp; exact uh HGY); clear hSW; go_simp; all_goals (with_reducible rfl)
   (try simp only [layB])
   refine tkL 14 (uh HH) ?_
   (try simp only [layB])
   refine tkL 15 (uh HH) ?_
   (try simp only [layB])
   refine tkW 16 (v := ?_) ?_ (uh HH) ?_
   rotate_left 1
   ·intro W1 hSW; have hc := hSW.cell (uh HBx) (by simp; exact uh HXY); clear hSW; go_simp; all_goals (with_reducible rfl)
   (try simp only [layB])
   refine tkL 17 (uh HH) ?_
   (try simp only [layB])
   refine tkL 18 (uh HH) ?_
   (try simp only [layB])
   refine wpAnyH_ready (rs := [19]) (by kernel_rfl) (by simp) ?_
   refine consL rfl (fun K hK => ?_) AllReadyH.nil
   have he : W4.cell? ⟨G y, k, none⟩ = some (.int .u8 ((rc o3 y k : Nat) : Int)) := (uh HL).o.byte hyN hk
   have hf4 : W4.frozen? ⟨G y, k, none⟩ = false := ((uh HL).o.rows y hyN).free
   go_simp
   have HL2 : Hid (L5S base gO N n gg ga d G C zs [x, y] true true out w (W4.setCell ⟨G y, k, none⟩ (.int .u8 (u : Int))).drew k _) := ((uh HL).set hyN (uh HKY) hk hu8).drew
   have HKW2 : Hid (Kp [G y] W4 (W4.setCell ⟨G y, k, none⟩ (.int .u8 (u : Int))).drew) := ((Kp.refl [G y] W4).setCell ⟨G y, k, none⟩ (.int .u8 (u : Int)) (.inl (by simp))).drew
   refine hK.out _ _ (uh HKW2) (fun hHeld => ?_)
   clear hHeld hK K HH he hf4 HKW2
   (try simp only [layB])
   refine wpAnyH_done (by kernel_rfl) ?_ _
   refine NoPanic.normal ?_
   clear hxr1 HA0 HA1 HHx HHy HBx
   have HGD : Hid (Gd true true d (o3.set y ((o3.getD y []).set k u)) k) := by
    show Gd _ _ _ _ _
    rw [← uh HO3]
    refine gd_two (fun i => rc_two (uh HOL).1 (uh HOL).2 hxN hyN hk) h1 h2 (uh HNE) hd14 (uh HP6) (uh HBS) (pp := pp) (q := qq) (by rw [uh HS, uh HOD, uh HPP]) (by rw [uh HT, uh HE0, uh HOE, uh HQQ]) ?_ (uh HU)
    rw [uh HX, uh HY, uh HM1, uh HR1, uh HZ, uh HIV, uh HV]
   clear HL
   have HL := HL2
   clear HL2
   generalize (W4.setCell ⟨G y, k, none⟩ (.int .u8 (u : Int))).drew = W5 at HL ⊢
   go_wp2_with fail
   go_roundw
   case rel => exact ⟨k + 1, _, by go_num, by omega, (uh HL).next (uh HGD)⟩
   case measure => simp [intOf]; omega
  have hk2 : k = n := by omega
  subst hk2
  go_wp2_with fail
  refine uh HEXIT _ _ _ _ _ _ _ _ _ _ _ _ _ _ _ _ _ _ _ _ _ _ _ _ _ _ _ _ _ _ _ _ _ _ _ _ _ _ _ _ _ _ _ _ _ _ _ _ _ _ _ _ _ _ _ _ _ _ _ _ _ _ _ _ _ _ _ _ _ _ _ _ _ _ _ _ _ _ _ _ _ _ _ _ _ _ _ _ _ _ _ _ _ _ _ _ _ _ _ _ _ _ _ _ _ _ _ _ _ _ _ _ _ _ _ _ _ _ _ _ _ _ _ _ _ _ _ _ _ _ _ _ _ _ _ _ _ _ _ _ _ _ _ _ o2 ?_
  exact uh HL
end Go.Proofs.YtjdikhelabibnaaGreat
