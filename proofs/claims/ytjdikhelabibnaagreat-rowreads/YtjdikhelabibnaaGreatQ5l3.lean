/-
  ramekinref5.Fix: a loop of it.
-/
import Derived.Test.YtjdikhelabibnaaGreatQ5b
namespace Go.Proofs.YtjdikhelabibnaaGreat
open Go.RowKit

theorem src_one {W : World} {a : Option Addr} {n c g : Nat} (h : W.heap[g]? = some (.cells #[.slice a n c] 47 (0, 0))) : SrcV W (some ⟨g, 0, none⟩) g [.slice a n c] := by
  refine .inr ⟨0, rfl, fun j u hu => ?_⟩
  obtain ⟨hj, hu⟩ := List.getElem?_eq_some_iff.1 hu
  have : j = 0 := by simpa using hj
  subst this
  simp at hu
  rw [← hu]
  simp [World.cell?, h]
theorem arg_nil {W : World} {ao : Option Addr} {n c g : Nat} {s : List Nat} (h : Arg W (.slice ao n c) g s) (ha : ao = none) : n = 0 ∧ c = 0 := by
  obtain ⟨ao', c', h1, h2, h3, h4, h5⟩ := h.ex
  cases h1
  refine ⟨?_, h4 ha⟩
  have := h4 ha
  omega
theorem arg_row5 {W : World} {ao : Option Addr} {n c g : Nat} {s : List Nat} (h : Arg W (.slice ao n c) g s) : Row W ao g (ints s) := by
  obtain ⟨ao', c', h1, h2, h3, h4, h5⟩ := h.ex
  cases h1
  exact h5
theorem bs_zeros5 (n : Nat) : Bs (List.replicate n 0) := fun k => by rw [cf_zeros]; omega
theorem own_len {W : World} {base i n : Nat} {v : Value} {ps : List (Option Addr × Nat)} {t : List (List Nat)} (h : Mk5 base i n W v ps t) : ∃ vo vc, v = .slice vo i vc := by
  rcases h.own.shape with ⟨h1, h2⟩ | ⟨q, cq, h1, _⟩
  · have e := h.tl
    rw [h2] at e
    have e2 : i = 0 := e.symm
    subst e2
    exact ⟨none, 0, h1⟩
  · rw [h.tl] at h1
    exact ⟨_, cq, h1⟩

set_option maxRecDepth 1000000 in
set_option maxHeartbeats 16000000 in
theorem fixL3 {Q : Exit → Act → World → Prop} {c1 c2 c3 c4 c5 c7 c9 c12 c13 c14 c15 c16 c17 c18 c19 c20 c21 c22 c23 c24 c25 c26 c27 c28 c29 c30 c31 c32 c33 c34 c35 c36 c37 c38 c39 c40 c41 c42 c43 c44 c45 c46 c47 c48 c49 c50 c51 c52 c53 c54 c55 c56 c57 c58 c59 c60 c61 c62 c63 c64 c65 c66 c67 c68 c69 c70 c71 c72 c73 c74 c75 c76 c77 c78 c79 c80 c81 c82 c83 c84 c85 c86 c87 c88 c89 c90 c91 c92 c93 c94 c95 c96 c97 c98 c99 c100 c101 c102 c103 c104 c105 c106 c107 c108 c109 c110 c111 c112 c113 c114 c115 c116 c117 c118 c119 c120 c121 c122 c123 c124 c125 c126 c127 c128 c129 c130 c131 c132 c133 c134 c135 c136 c137 c138 c139 c140 c141 c142 c143 c144 c145 c146 c147 c148 c149 c150 c151 c152 c153 c154 c155 c156 c157 c158 c159 c160 c161 c162 c163 c164 c165 c166 c167 c168 c169 c170 c171 c172 c173 c174 c175 c176 c177 c178 c179 c180 c181 c182 c183 c184 c185 c186 c187 c188 c189 c190 c191 c192 c193 c194 c195 c196 c197 c198 c199 c200 c201 c202 c203 c204 c205 c206 c207 c208 c209 c210 c211 c212 c213 c214 c215 c216 c217 c218 c219 c220 c221 c222 c223 c224 c225 c226 c227 c228 c229 c230 c231 c232 c233 c234 c235 c236 c237 c238 c239 c240 c241 c242 c243 c244 c245 c246 c247 c248 c249 c250 c251 c252 c253 c254 c255 c256 c257 c258 c259 c260 c261 c262 c263 c264 c265 c266 c267 c268 c269 c270 c271 c272 c273 c274 c275 c276 c277 c278 c279 c280 c281 c282 c283 c284 c285 c286 c287 c288 c289 c290 c291 c292 c293 c294 c295 c296 c297 c298 c299 c300 c301 c302 c303 c304 c305 c306 c307 c308 c309 c310 c311 c312 c313 c314 c315 : Value} {w : World} {ao : Option Addr} {N c gg G n : Nat} {A : Nat → Option Addr} {C : Nat → Nat} {l : List (List Nat)} {zs : List Int} (hN : N ≤ 16) (hl : l.length = N) (hn : n ≤ 100000) (hA : RArg w (.slice ao N c) G A C l) (hsz : ∀ i, i < N → keep zs i = true → (l.getD i []).length = n) (hG : BBlk w gg N (fun j => !keep zs j))
    (hexit : ∀ (u11 u114 u115 u116 u117 u118 u119 u120 u121 u122 u123 u124 u125 u126 u127 u128 u129 u130 u131 u132 u133 u134 u135 u136 u137 : Value) (wr : World) (v : Value) (ps : List (Option Addr × Nat)), Mk5 w.heap.size N n wr v ps (madeL l zs n N) → Below w.heap.size w wr → Q (.exit 4) ⟨List.toArray ((.slice ao N c) :: c1 :: c2 :: c3 :: c4 :: c5 :: (.slice (some ⟨gg, 0, none⟩) N N) :: c7 :: (.int .i64 (n : Int)) :: c9 :: v :: u11 :: c12 :: c13 :: c14 :: c15 :: c16 :: c17 :: c18 :: c19 :: c20 :: c21 :: c22 :: c23 :: c24 :: c25 :: c26 :: c27 :: c28 :: c29 :: c30 :: c31 :: c32 :: c33 :: c34 :: c35 :: c36 :: c37 :: c38 :: c39 :: c40 :: c41 :: c42 :: c43 :: c44 :: c45 :: c46 :: c47 :: c48 :: c49 :: c50 :: c51 :: c52 :: c53 :: c54 :: c55 :: c56 :: c57 :: c58 :: c59 :: c60 :: c61 :: c62 :: c63 :: c64 :: c65 :: c66 :: c67 :: c68 :: c69 :: c70 :: c71 :: c72 :: c73 :: c74 :: c75 :: c76 :: c77 :: c78 :: c79 :: c80 :: c81 :: c82 :: c83 :: c84 :: c85 :: c86 :: c87 :: c88 :: c89 :: c90 :: c91 :: c92 :: c93 :: c94 :: c95 :: c96 :: c97 :: c98 :: c99 :: c100 :: c101 :: c102 :: c103 :: c104 :: c105 :: c106 :: c107 :: c108 :: c109 :: c110 :: c111 :: c112 :: c113 :: u114 :: u115 :: u116 :: u117 :: u118 :: u119 :: u120 :: u121 :: u122 :: u123 :: u124 :: u125 :: u126 :: u127 :: u128 :: u129 :: u130 :: u131 :: u132 :: u133 :: u134 :: u135 :: u136 :: u137 :: c138 :: c139 :: c140 :: c141 :: c142 :: c143 :: c144 :: c145 :: c146 :: c147 :: c148 :: c149 :: c150 :: c151 :: c152 :: c153 :: c154 :: c155 :: c156 :: c157 :: c158 :: c159 :: c160 :: c161 :: c162 :: c163 :: c164 :: c165 :: c166 :: c167 :: c168 :: c169 :: c170 :: c171 :: c172 :: c173 :: c174 :: c175 :: c176 :: c177 :: c178 :: c179 :: c180 :: c181 :: c182 :: c183 :: c184 :: c185 :: c186 :: c187 :: c188 :: c189 :: c190 :: c191 :: c192 :: c193 :: c194 :: c195 :: c196 :: c197 :: c198 :: c199 :: c200 :: c201 :: c202 :: c203 :: c204 :: c205 :: c206 :: c207 :: c208 :: c209 :: c210 :: c211 :: c212 :: c213 :: c214 :: c215 :: c216 :: c217 :: c218 :: c219 :: c220 :: c221 :: c222 :: c223 :: c224 :: c225 :: c226 :: c227 :: c228 :: c229 :: c230 :: c231 :: c232 :: c233 :: c234 :: c235 :: c236 :: c237 :: c238 :: c239 :: c240 :: c241 :: c242 :: c243 :: c244 :: c245 :: c246 :: c247 :: c248 :: c249 :: c250 :: c251 :: c252 :: c253 :: c254 :: c255 :: c256 :: c257 :: c258 :: c259 :: c260 :: c261 :: c262 :: c263 :: c264 :: c265 :: c266 :: c267 :: c268 :: c269 :: c270 :: c271 :: c272 :: c273 :: c274 :: c275 :: c276 :: c277 :: c278 :: c279 :: c280 :: c281 :: c282 :: c283 :: c284 :: c285 :: c286 :: c287 :: c288 :: c289 :: c290 :: c291 :: c292 :: c293 :: c294 :: c295 :: c296 :: c297 :: c298 :: c299 :: c300 :: c301 :: c302 :: c303 :: c304 :: c305 :: c306 :: c307 :: c308 :: c309 :: c310 :: c311 :: c312 :: c313 :: c314 :: c315 :: []), []⟩ wr)
    : Code.wp Tryz.prog (Code.loop (fixLoop 2)) Q ⟨List.toArray ((.slice ao N c) :: c1 :: c2 :: c3 :: c4 :: c5 :: (.slice (some ⟨gg, 0, none⟩) N N) :: c7 :: (.int .i64 (n : Int)) :: c9 :: (.slice none 0 0) :: (.int .i64 0) :: c12 :: c13 :: c14 :: c15 :: c16 :: c17 :: c18 :: c19 :: c20 :: c21 :: c22 :: c23 :: c24 :: c25 :: c26 :: c27 :: c28 :: c29 :: c30 :: c31 :: c32 :: c33 :: c34 :: c35 :: c36 :: c37 :: c38 :: c39 :: c40 :: c41 :: c42 :: c43 :: c44 :: c45 :: c46 :: c47 :: c48 :: c49 :: c50 :: c51 :: c52 :: c53 :: c54 :: c55 :: c56 :: c57 :: c58 :: c59 :: c60 :: c61 :: c62 :: c63 :: c64 :: c65 :: c66 :: c67 :: c68 :: c69 :: c70 :: c71 :: c72 :: c73 :: c74 :: c75 :: c76 :: c77 :: c78 :: c79 :: c80 :: c81 :: c82 :: c83 :: c84 :: c85 :: c86 :: c87 :: c88 :: c89 :: c90 :: c91 :: c92 :: c93 :: c94 :: c95 :: c96 :: c97 :: c98 :: c99 :: c100 :: c101 :: c102 :: c103 :: c104 :: c105 :: c106 :: c107 :: c108 :: c109 :: c110 :: c111 :: c112 :: c113 :: c114 :: c115 :: c116 :: c117 :: c118 :: c119 :: c120 :: c121 :: c122 :: c123 :: c124 :: c125 :: c126 :: c127 :: c128 :: c129 :: c130 :: c131 :: c132 :: c133 :: c134 :: c135 :: c136 :: c137 :: c138 :: c139 :: c140 :: c141 :: c142 :: c143 :: c144 :: c145 :: c146 :: c147 :: c148 :: c149 :: c150 :: c151 :: c152 :: c153 :: c154 :: c155 :: c156 :: c157 :: c158 :: c159 :: c160 :: c161 :: c162 :: c163 :: c164 :: c165 :: c166 :: c167 :: c168 :: c169 :: c170 :: c171 :: c172 :: c173 :: c174 :: c175 :: c176 :: c177 :: c178 :: c179 :: c180 :: c181 :: c182 :: c183 :: c184 :: c185 :: c186 :: c187 :: c188 :: c189 :: c190 :: c191 :: c192 :: c193 :: c194 :: c195 :: c196 :: c197 :: c198 :: c199 :: c200 :: c201 :: c202 :: c203 :: c204 :: c205 :: c206 :: c207 :: c208 :: c209 :: c210 :: c211 :: c212 :: c213 :: c214 :: c215 :: c216 :: c217 :: c218 :: c219 :: c220 :: c221 :: c222 :: c223 :: c224 :: c225 :: c226 :: c227 :: c228 :: c229 :: c230 :: c231 :: c232 :: c233 :: c234 :: c235 :: c236 :: c237 :: c238 :: c239 :: c240 :: c241 :: c242 :: c243 :: c244 :: c245 :: c246 :: c247 :: c248 :: c249 :: c250 :: c251 :: c252 :: c253 :: c254 :: c255 :: c256 :: c257 :: c258 :: c259 :: c260 :: c261 :: c262 :: c263 :: c264 :: c265 :: c266 :: c267 :: c268 :: c269 :: c270 :: c271 :: c272 :: c273 :: c274 :: c275 :: c276 :: c277 :: c278 :: c279 :: c280 :: c281 :: c282 :: c283 :: c284 :: c285 :: c286 :: c287 :: c288 :: c289 :: c290 :: c291 :: c292 :: c293 :: c294 :: c295 :: c296 :: c297 :: c298 :: c299 :: c300 :: c301 :: c302 :: c303 :: c304 :: c305 :: c306 :: c307 :: c308 :: c309 :: c310 :: c311 :: c312 :: c313 :: c314 :: c315 :: []), []⟩ w := by
  conv => arg 2; arg 1; whnf
  have HEXIT := hide hexit
  clear hexit
  have HA := hide hA
  have HSZ := hide hsz
  have HG := hide hG
  have HL := hide hl
  clear hA hsz hG hl
  obtain ⟨i0, hi0, hz0, hz1, hz2⟩ := info_parts infoR
  have HI := hide hi0
  clear hi0
  obtain ⟨j0, hj0, hy0, hy1, hy2⟩ := info_parts infoE
  have HJ := hide hj0
  clear hj0
  have hmk := run_zeros n (by omega)
  obtain ⟨zz, hzz⟩ : ∃ z, (List.replicate n (Value.int .u8 0)).toArray = z := ⟨_, rfl⟩
  have HBZ : Hid (∀ W : World, Blk (W.alloc (.cells zz 5)) W.heap.size (List.replicate n 0)) := by
    show ∀ _, _
    rw [← hzz]
    exact fun W => blk_zeros n W
  rw [hzz] at hmk
  clear hzz
  go_loopw [10, 11] (fun v p wr => ∃ (i : Nat) (ps : List (Option Addr × Nat)), p = .int .i64 i ∧ i ≤ N ∧ Mk5 w.heap.size i n wr v ps (madeL l zs n i) ∧ Below w.heap.size w wr) (fun _ p _ => N - (intOf p).toNat)
  case atStart => exact ⟨0, [], rfl, by omega, Mk5.nil _ _ _, Below.refl _ _⟩
  case round =>
    obtain ⟨i, ps, rfl, hi, hM, hK⟩ := hrel
    obtain ⟨vo, vc, hv⟩ := own_len hM
    subst hv
    have hzr := hK.size
    have HM := hide hM
    have HK := hide hK
    clear hM hK
    by_cases hlt : i < N
    · have hi1 : (i : Int) < (N : Int) := by omega
      have hb := (kp_below (unhide HK)).cell ((unhide HG).cell hlt) (by simp)
      cases hkp : keep zs i with
      | false =>
        rw [hkp] at hb
        have hb' : _ = some (Value.bool true) := hb
        clear hb
        have HKP := hide hkp
        clear hkp
        have hkq : Below wr.heap.size wr ((wr.alloc (.cells zz 5)).alloc (.cells #[.slice (some ⟨wr.heap.size, 0, none⟩) n n] 47)) := ((Below.refl _ _).alloc (Nat.le_refl _) _).alloc (by simp) _
        have HO2 := hide ((unhide HM).own.below hkq)
        have HOW : Hid (((wr.alloc (.cells zz 5)).alloc (.cells #[.slice (some ⟨wr.heap.size, 0, none⟩) n n] 47)).ownsRow w.heap.size 47 1 (.slice vo i vc) i (vals5 ps (madeL l zs n i))) := by
          have h := (unhide HO2).own
          rwa [(unhide HM).tl] at h
        have HKA := hide ((unhide HK).trans (hkq.mono hzr))
        have HKR := hide hkq
        have HBR : Hid (Blk ((wr.alloc (.cells zz 5)).alloc (.cells #[.slice (some ⟨wr.heap.size, 0, none⟩) n n] 47)) wr.heap.size (List.replicate n 0)) := (unhide HBZ wr).below ((Below.refl _ _).alloc (Nat.le_refl _) _) (unhide HBZ wr).lt
        have HSV : Hid (SrcV ((wr.alloc (.cells zz 5)).alloc (.cells #[.slice (some ⟨wr.heap.size, 0, none⟩) n n] 47)) (some ⟨wr.heap.size + 1, 0, none⟩) (wr.heap.size + 1) [.slice (some ⟨wr.heap.size, 0, none⟩) n n]) := by
          refine src_one ?_
          have h := World.alloc_heap_new (wr.alloc (.cells zz 5)) (.cells #[.slice (some ⟨wr.heap.size, 0, none⟩) n n] 47)
          simpa using h
        clear hkq
        go_wp2_with (at_builtin; refine wpList_append_vals _ rfl _ _ 25 rfl w.heap.size 47 i0 Tryz.underlying25 (unhide HI) hz0 hz1 hz2 (.slice vo i vc) i (vals5 ps (madeL l zs n i)) rfl (unhide HOW) (some ⟨wr.heap.size + 1, 0, none⟩) (wr.heap.size + 1) 1 1 [.slice (some ⟨wr.heap.size, 0, none⟩) n n] rfl rfl (unhide HSV) (by simp [Value.oneCell']) (fun h => by cases h) (by omega) (by simp; omega) ?_)
        intro v2 w2 ho hg
        have HK2 := hide (below_grown (unhide HKA) hg (by simp; omega) (unhide HO2).row)
        have HM2 : Hid (Mk5 w.heap.size (i + 1) n w2 v2 (ps ++ [(some ⟨wr.heap.size, 0, none⟩, n)]) (madeL l zs n (i + 1))) := by
          show Mk5 _ _ _ _ _ _ _
          rw [madeL_succ, if_neg (by rw [unhide HKP]; simp)]
          exact (unhide HM).snoc (unhide HKR) hg ho (unhide HBR) (by omega) (by simp) ⟨by omega, by first | assumption | (unfold maxLen; omega)⟩ (bs_zeros5 n) hzr
        clear ho hg
        go_wp2_with fail
        go_roundw
        case rel => exact ⟨i + 1, _, by go_num, by omega, unhide HM2, unhide HK2⟩
        case measure => simp [intOf]; omega

      | true =>
        rw [hkp] at hb
        have hb' : _ = some (Value.bool false) := hb
        clear hb
        have HKP := hide hkp
        clear hkp
        have HLN := hide (unhide HSZ i hlt (unhide HKP))
        obtain ⟨g, hg⟩ := (unhide HA).rows i (by rw [unhide HL]; exact hlt)
        have hAr : Arg wr (.slice (A i) n (C i)) g (l.getD i []) := by
          have h := hg.below (unhide HK)
          rwa [unhide HLN] at h
        obtain ⟨ao', c', hv', _, _, _, hrow⟩ := (unhide HA).ex
        rw [unhide HL] at hrow hv'
        cases hv'
        obtain ⟨o, rfl, hcl⟩ := hrow.at (by omega)
        have hc : w.cell? ⟨G, o + i, none⟩ = some (.slice (A i) n (C i)) := by
          have h := hcl i hlt
          rwa [show (l.getD i []).length = n from unhide HLN] at h
        have hc2 := (kp_below (unhide HK)).cell hc (by simp)
        have HNIL := hide (fun h => arg_nil hAr h)
        have HAR := hide hAr
        clear hAr hcl hrow hc hg
        obtain ⟨ai, hai⟩ : ∃ a, A i = a := ⟨_, rfl⟩
        obtain ⟨ci, hci⟩ : ∃ a, C i = a := ⟨_, rfl⟩
        rw [hai, hci] at hc2 HAR
        rw [hai] at HNIL
        rw [hci] at HNIL
        clear hai hci
        have hsrc := arg_row5 (unhide HAR)
        have HE := hide (own_none wr 5)
        have HKE : Hid (Below wr.heap.size wr (wr.alloc (.cells #[] 5))) := (Below.refl _ _).alloc (Nat.le_refl _) _
        have HSRC : Hid (Row (wr.alloc (.cells #[] 5)) ai g (ints (l.getD i []))) := hsrc.below (unhide HKE)
        have hc3 := (kp_below (unhide HKE)).cell hc2 (by simp)
        clear hsrc
        go_wp2_with (at_builtin; refine wpList_append_row _ rfl _ _ 47 rfl wr.heap.size 5 j0 Tryz.underlying47 (unhide HJ) hy0 hy1 hy2 (.slice (some ⟨wr.heap.size, 0, none⟩) 0 0) 0 [] rfl (unhide HE) ai g n ci (ints (l.getD i [])) rfl (by rw [ints_len]; exact unhide HLN) (unhide HSRC) (unhide HNIL) (by omega) (by simp) ?_)
        intro v1 w1 ho hg hiff
        have HB1 := hide (below_grown (unhide HKE) hg (by simp) (fun k hk => by have e2 : wr.heap.size = k := Option.some.inj hk; omega))
        have hF : Fr wr.heap.size w1 v1 (l.getD i []) := (owns_fr ho).2
        rcases hF with ⟨h0, h1⟩ | ⟨g1, c1, hv1, hle1, hc1, hB1, hg1⟩
        · exact absurd h1 hiff
        have HBR1 := hide hB1
        rw [unhide HLN] at hv1 hle1
        subst hv1
        clear ho hg hiff hB1
        have hg1l := (unhide HBR1).lt
        have hz1r := (unhide HB1).size
        have hka : Below w1.heap.size w1 (w1.alloc (.cells #[.slice (some ⟨g1, 0, none⟩) n c1] 47)) := (Below.refl _ _).alloc (Nat.le_refl _) _
        have hkq : Below wr.heap.size wr (w1.alloc (.cells #[.slice (some ⟨g1, 0, none⟩) n c1] 47)) := (unhide HB1).trans (hka.mono hz1r)
        have HO2 := hide ((unhide HM).own.below hkq)
        have HOW : Hid ((w1.alloc (.cells #[.slice (some ⟨g1, 0, none⟩) n c1] 47)).ownsRow w.heap.size 47 1 (.slice vo i vc) i (vals5 ps (madeL l zs n i))) := by
          have h := (unhide HO2).own
          rwa [(unhide HM).tl] at h
        have HKA := hide ((unhide HK).trans (hkq.mono hzr))
        have HKR := hide hkq
        have HBR : Hid (Blk (w1.alloc (.cells #[.slice (some ⟨g1, 0, none⟩) n c1] 47)) g1 (l.getD i [])) := (unhide HBR1).below hka hg1l
        have HSV : Hid (SrcV (w1.alloc (.cells #[.slice (some ⟨g1, 0, none⟩) n c1] 47)) (some ⟨w1.heap.size, 0, none⟩) w1.heap.size [.slice (some ⟨g1, 0, none⟩) n c1]) := one_src _ _ _ _
        clear hkq hka
        go_wp2_with (at_builtin; refine wpList_append_vals _ rfl _ _ 25 rfl w.heap.size 47 i0 Tryz.underlying25 (unhide HI) hz0 hz1 hz2 (.slice vo i vc) i (vals5 ps (madeL l zs n i)) rfl (unhide HOW) (some ⟨w1.heap.size, 0, none⟩) (w1.heap.size) 1 1 [.slice (some ⟨g1, 0, none⟩) n c1] rfl rfl (unhide HSV) (by simp [Value.oneCell']) (fun h => by cases h) (by omega) (by simp; omega) ?_)
        intro v2 w2 ho hg
        have HK2 := hide (below_grown (unhide HKA) hg (by simp; omega) (unhide HO2).row)
        have HM2 : Hid (Mk5 w.heap.size (i + 1) n w2 v2 (ps ++ [(some ⟨g1, 0, none⟩, c1)]) (madeL l zs n (i + 1))) := by
          show Mk5 _ _ _ _ _ _ _
          rw [madeL_succ, if_pos (unhide HKP)]
          exact (unhide HM).snoc (unhide HKR) hg ho (unhide HBR) (by omega) (unhide HLN) ⟨by omega, by first | assumption | (unfold maxLen; omega)⟩ ((unhide HA).bs i) hzr
        clear ho hg
        go_wp2_with fail
        go_roundw
        case rel => exact ⟨i + 1, _, by go_num, by omega, unhide HM2, unhide HK2⟩
        case measure => simp [intOf]; omega

    · have hi2 : i = N := by omega
      subst hi2
      go_wp2_with fail
      refine unhide HEXIT _ _ _ _ _ _ _ _ _ _ _ _ _ _ _ _ _ _ _ _ _ _ _ _ _ _ _ ps ?_ ?_
      · exact unhide HM
      · exact unhide HK

end Go.Proofs.YtjdikhelabibnaaGreat
