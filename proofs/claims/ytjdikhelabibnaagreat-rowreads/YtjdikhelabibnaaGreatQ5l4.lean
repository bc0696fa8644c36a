/-
  ramekinref5.Fix: a loop of it.
-/
import Derived.Test.YtjdikhelabibnaaGreatQ5b
namespace Go.Proofs.YtjdikhelabibnaaGreat
open Go.RowKit

theorem lostL_le (zs : List Int) (d : Nat) : (lostL zs d).length ≤ d := by
  unfold lostL
  exact Nat.le_trans (List.length_filter_le _ _) (by simp)
theorem ints_append (a b : List Nat) : ints (a ++ b) = ints a ++ ints b := List.map_append
theorem owns_len {W : World} {base m : Nat} {e : TypeId} {v : Value} {xs : List Value} (h : W.ownsRow base e 1 v m xs) : ∃ vo vc, v = .slice vo m vc := by
  rcases h.2 with ⟨h1, h2⟩ | ⟨g, cap, cur, h1, _⟩
  · subst h2; exact ⟨none, 0, h1⟩
  · exact ⟨_, cap, h1⟩
theorem src_int {W : World} {z : Int} {g : Nat} (h : W.cell? ⟨g, 0, none⟩ = some (.int .i64 z)) : ∀ j u, [Value.int .i64 z][j]? = some u → ∃ g' o, (some (⟨g, 0, none⟩ : Addr)) = some ⟨g', o, none⟩ ∧ W.cell? ⟨g', o + j, none⟩ = some u := fun j u hu => by
  obtain ⟨hj, hu⟩ := List.getElem?_eq_some_iff.1 hu
  have : j = 0 := by simpa using hj
  subst this
  simp at hu
  exact ⟨g, 0, rfl, by rw [← hu]; exact h⟩

set_option maxRecDepth 1000000 in
set_option maxHeartbeats 16000000 in
theorem fixL4 {Q : Exit → Act → World → Prop} {c0 c1 c2 c3 c4 c5 c7 c8 c9 c10 c11 c15 c16 c17 c18 c19 c20 c21 c22 c23 c24 c25 c26 c27 c28 c29 c30 c31 c32 c33 c34 c35 c36 c37 c38 c39 c40 c41 c42 c43 c44 c45 c46 c47 c48 c49 c50 c51 c52 c53 c54 c55 c56 c57 c58 c59 c60 c61 c62 c63 c64 c65 c66 c67 c68 c69 c70 c71 c72 c73 c74 c75 c76 c77 c78 c79 c80 c81 c82 c83 c84 c85 c86 c87 c88 c89 c90 c91 c92 c93 c94 c95 c96 c97 c98 c99 c100 c101 c102 c103 c104 c105 c106 c107 c108 c109 c110 c111 c112 c113 c114 c115 c116 c117 c118 c119 c120 c121 c122 c123 c124 c125 c126 c127 c128 c129 c130 c131 c132 c133 c134 c135 c136 c137 c138 c139 c140 c141 c142 c143 c144 c145 c146 c147 c148 c149 c150 c151 c152 c153 c154 c155 c156 c157 c158 c159 c160 c161 c162 c163 c164 c165 c166 c167 c168 c169 c170 c171 c172 c173 c174 c175 c176 c177 c178 c179 c180 c181 c182 c183 c184 c185 c186 c187 c188 c189 c190 c191 c192 c193 c194 c195 c196 c197 c198 c199 c200 c201 c202 c203 c204 c205 c206 c207 c208 c209 c210 c211 c212 c213 c214 c215 c216 c217 c218 c219 c220 c221 c222 c223 c224 c225 c226 c227 c228 c229 c230 c231 c232 c233 c234 c235 c236 c237 c238 c239 c240 c241 c242 c243 c244 c245 c246 c247 c248 c249 c250 c251 c252 c253 c254 c255 c256 c257 c258 c259 c260 c261 c262 c263 c264 c265 c266 c267 c268 c269 c270 c271 c272 c273 c274 c275 c276 c277 c278 c279 c280 c281 c282 c283 c284 c285 c286 c287 c288 c289 c290 c291 c292 c293 c294 c295 c296 c297 c298 c299 c300 c301 c302 c303 c304 c305 c306 c307 c308 c309 c310 c311 c312 c313 c314 c315 : Value} {w : World} {N d gg : Nat} {zs : List Int} (hN : N ≤ 16) (hd : d ≤ N) (hG : BBlk w gg N (fun j => !keep zs j))
    (hexit : ∀ (u14 u141 u142 u143 u144 u145 u146 u147 u148 u149 u150 u151 u152 u153 : Value) (wr : World) (v : Value), ZFr w.heap.size wr v (ints (lostL zs d)) → Below w.heap.size w wr → Q (.exit 6) ⟨List.toArray (c0 :: c1 :: c2 :: c3 :: c4 :: c5 :: (.slice (some ⟨gg, 0, none⟩) N N) :: c7 :: c8 :: c9 :: c10 :: c11 :: (.int .i64 (d : Int)) :: v :: u14 :: c15 :: c16 :: c17 :: c18 :: c19 :: c20 :: c21 :: c22 :: c23 :: c24 :: c25 :: c26 :: c27 :: c28 :: c29 :: c30 :: c31 :: c32 :: c33 :: c34 :: c35 :: c36 :: c37 :: c38 :: c39 :: c40 :: c41 :: c42 :: c43 :: c44 :: c45 :: c46 :: c47 :: c48 :: c49 :: c50 :: c51 :: c52 :: c53 :: c54 :: c55 :: c56 :: c57 :: c58 :: c59 :: c60 :: c61 :: c62 :: c63 :: c64 :: c65 :: c66 :: c67 :: c68 :: c69 :: c70 :: c71 :: c72 :: c73 :: c74 :: c75 :: c76 :: c77 :: c78 :: c79 :: c80 :: c81 :: c82 :: c83 :: c84 :: c85 :: c86 :: c87 :: c88 :: c89 :: c90 :: c91 :: c92 :: c93 :: c94 :: c95 :: c96 :: c97 :: c98 :: c99 :: c100 :: c101 :: c102 :: c103 :: c104 :: c105 :: c106 :: c107 :: c108 :: c109 :: c110 :: c111 :: c112 :: c113 :: c114 :: c115 :: c116 :: c117 :: c118 :: c119 :: c120 :: c121 :: c122 :: c123 :: c124 :: c125 :: c126 :: c127 :: c128 :: c129 :: c130 :: c131 :: c132 :: c133 :: c134 :: c135 :: c136 :: c137 :: c138 :: c139 :: c140 :: u141 :: u142 :: u143 :: u144 :: u145 :: u146 :: u147 :: u148 :: u149 :: u150 :: u151 :: u152 :: u153 :: c154 :: c155 :: c156 :: c157 :: c158 :: c159 :: c160 :: c161 :: c162 :: c163 :: c164 :: c165 :: c166 :: c167 :: c168 :: c169 :: c170 :: c171 :: c172 :: c173 :: c174 :: c175 :: c176 :: c177 :: c178 :: c179 :: c180 :: c181 :: c182 :: c183 :: c184 :: c185 :: c186 :: c187 :: c188 :: c189 :: c190 :: c191 :: c192 :: c193 :: c194 :: c195 :: c196 :: c197 :: c198 :: c199 :: c200 :: c201 :: c202 :: c203 :: c204 :: c205 :: c206 :: c207 :: c208 :: c209 :: c210 :: c211 :: c212 :: c213 :: c214 :: c215 :: c216 :: c217 :: c218 :: c219 :: c220 :: c221 :: c222 :: c223 :: c224 :: c225 :: c226 :: c227 :: c228 :: c229 :: c230 :: c231 :: c232 :: c233 :: c234 :: c235 :: c236 :: c237 :: c238 :: c239 :: c240 :: c241 :: c242 :: c243 :: c244 :: c245 :: c246 :: c247 :: c248 :: c249 :: c250 :: c251 :: c252 :: c253 :: c254 :: c255 :: c256 :: c257 :: c258 :: c259 :: c260 :: c261 :: c262 :: c263 :: c264 :: c265 :: c266 :: c267 :: c268 :: c269 :: c270 :: c271 :: c272 :: c273 :: c274 :: c275 :: c276 :: c277 :: c278 :: c279 :: c280 :: c281 :: c282 :: c283 :: c284 :: c285 :: c286 :: c287 :: c288 :: c289 :: c290 :: c291 :: c292 :: c293 :: c294 :: c295 :: c296 :: c297 :: c298 :: c299 :: c300 :: c301 :: c302 :: c303 :: c304 :: c305 :: c306 :: c307 :: c308 :: c309 :: c310 :: c311 :: c312 :: c313 :: c314 :: c315 :: []), []⟩ wr)
    : Code.wp Tryz.prog (Code.loop (fixLoop 3)) Q ⟨List.toArray (c0 :: c1 :: c2 :: c3 :: c4 :: c5 :: (.slice (some ⟨gg, 0, none⟩) N N) :: c7 :: c8 :: c9 :: c10 :: c11 :: (.int .i64 (d : Int)) :: (.slice none 0 0) :: (.int .i64 0) :: c15 :: c16 :: c17 :: c18 :: c19 :: c20 :: c21 :: c22 :: c23 :: c24 :: c25 :: c26 :: c27 :: c28 :: c29 :: c30 :: c31 :: c32 :: c33 :: c34 :: c35 :: c36 :: c37 :: c38 :: c39 :: c40 :: c41 :: c42 :: c43 :: c44 :: c45 :: c46 :: c47 :: c48 :: c49 :: c50 :: c51 :: c52 :: c53 :: c54 :: c55 :: c56 :: c57 :: c58 :: c59 :: c60 :: c61 :: c62 :: c63 :: c64 :: c65 :: c66 :: c67 :: c68 :: c69 :: c70 :: c71 :: c72 :: c73 :: c74 :: c75 :: c76 :: c77 :: c78 :: c79 :: c80 :: c81 :: c82 :: c83 :: c84 :: c85 :: c86 :: c87 :: c88 :: c89 :: c90 :: c91 :: c92 :: c93 :: c94 :: c95 :: c96 :: c97 :: c98 :: c99 :: c100 :: c101 :: c102 :: c103 :: c104 :: c105 :: c106 :: c107 :: c108 :: c109 :: c110 :: c111 :: c112 :: c113 :: c114 :: c115 :: c116 :: c117 :: c118 :: c119 :: c120 :: c121 :: c122 :: c123 :: c124 :: c125 :: c126 :: c127 :: c128 :: c129 :: c130 :: c131 :: c132 :: c133 :: c134 :: c135 :: c136 :: c137 :: c138 :: c139 :: c140 :: c141 :: c142 :: c143 :: c144 :: c145 :: c146 :: c147 :: c148 :: c149 :: c150 :: c151 :: c152 :: c153 :: c154 :: c155 :: c156 :: c157 :: c158 :: c159 :: c160 :: c161 :: c162 :: c163 :: c164 :: c165 :: c166 :: c167 :: c168 :: c169 :: c170 :: c171 :: c172 :: c173 :: c174 :: c175 :: c176 :: c177 :: c178 :: c179 :: c180 :: c181 :: c182 :: c183 :: c184 :: c185 :: c186 :: c187 :: c188 :: c189 :: c190 :: c191 :: c192 :: c193 :: c194 :: c195 :: c196 :: c197 :: c198 :: c199 :: c200 :: c201 :: c202 :: c203 :: c204 :: c205 :: c206 :: c207 :: c208 :: c209 :: c210 :: c211 :: c212 :: c213 :: c214 :: c215 :: c216 :: c217 :: c218 :: c219 :: c220 :: c221 :: c222 :: c223 :: c224 :: c225 :: c226 :: c227 :: c228 :: c229 :: c230 :: c231 :: c232 :: c233 :: c234 :: c235 :: c236 :: c237 :: c238 :: c239 :: c240 :: c241 :: c242 :: c243 :: c244 :: c245 :: c246 :: c247 :: c248 :: c249 :: c250 :: c251 :: c252 :: c253 :: c254 :: c255 :: c256 :: c257 :: c258 :: c259 :: c260 :: c261 :: c262 :: c263 :: c264 :: c265 :: c266 :: c267 :: c268 :: c269 :: c270 :: c271 :: c272 :: c273 :: c274 :: c275 :: c276 :: c277 :: c278 :: c279 :: c280 :: c281 :: c282 :: c283 :: c284 :: c285 :: c286 :: c287 :: c288 :: c289 :: c290 :: c291 :: c292 :: c293 :: c294 :: c295 :: c296 :: c297 :: c298 :: c299 :: c300 :: c301 :: c302 :: c303 :: c304 :: c305 :: c306 :: c307 :: c308 :: c309 :: c310 :: c311 :: c312 :: c313 :: c314 :: c315 :: []), []⟩ w := by
  conv => arg 2; arg 1; whnf
  have HEXIT := hide hexit
  clear hexit
  have HG := hide hG
  clear hG
  obtain ⟨i0, hi0, hz0, hz1, hz2⟩ := info_parts infoI5
  have HI := hide hi0
  clear hi0
  go_loopw [13, 14] (fun v p wr => ∃ (i m : Nat), p = .int .i64 i ∧ i ≤ d ∧ m ≤ i ∧ (lostL zs i).length = m ∧ wr.ownsRow w.heap.size 3 1 v m ((ints (lostL zs i)).map (Value.int .i64)) ∧ Below w.heap.size w wr) (fun _ p _ => d - (intOf p).toNat)
  case atStart => exact ⟨0, 0, rfl, by omega, by omega, rfl, World.ownsRow_nil _ _ _ _, Below.refl _ _⟩
  case round =>
    obtain ⟨i, m, rfl, hi, hm, hml, hO, hK⟩ := hrel
    obtain ⟨vo, vc, hv⟩ := owns_len hO
    subst hv
    have hzr := hK.size
    have HO := hide hO
    have HK := hide hK
    have HML := hide hml
    clear hO hK hml
    by_cases hlt : i < d
    · have hi1 : (i : Int) < (d : Int) := by omega
      have hi2 : (i : Int) < (N : Int) := by omega
      have hb := (kp_below (unhide HK)).cell ((unhide HG).cell (j := i) (by omega)) (by simp)
      cases hkp : keep zs i with
      | true =>
        rw [hkp] at hb
        have hb' : _ = some (Value.bool false) := hb
        clear hb
        have HS : Hid (lostL zs (i + 1) = lostL zs i) := by show _ = _; rw [lostL_succ, if_pos hkp, List.append_nil]
        clear hkp
        go_wp2_with fail
        go_roundw
        case rel => exact ⟨i + 1, m, by go_num, by omega, by omega, by rw [unhide HS]; exact unhide HML, by rw [unhide HS]; exact unhide HO, unhide HK⟩
        case measure => simp [intOf]; omega
      | false =>
        rw [hkp] at hb
        have hb' : _ = some (Value.bool true) := hb
        clear hb
        have HS : Hid (lostL zs (i + 1) = lostL zs i ++ [i]) := by show _ = _; rw [lostL_succ, if_neg (by rw [hkp]; simp)]
        clear hkp
        have hka : Below wr.heap.size wr (wr.alloc (.cells #[.int .i64 (i : Int)] 3)) := (Below.refl _ _).alloc (Nat.le_refl _) _
        have HOW : Hid ((wr.alloc (.cells #[.int .i64 (i : Int)] 3)).ownsRow w.heap.size 3 1 (.slice vo m vc) m ((ints (lostL zs i)).map (Value.int .i64))) := by
          refine ⟨(unhide HO).1, ?_⟩
          rcases (unhide HO).2 with h' | ⟨g, cap, cur, h1, h2, h3, h4⟩
          · exact .inl h'
          · exact .inr ⟨g, cap, cur, h1, h2, (hka.block g (lt_of_block h3)).trans h3, h4⟩
        have HKA := hide ((unhide HK).trans (hka.mono hzr))
        have HSV := hide (src_int (W := wr.alloc (.cells #[.int .i64 (i : Int)] 3)) (z := (i : Int)) (g := wr.heap.size) (cell_new' wr _ _).1)
        have HRW : Hid (∀ k, (Value.slice vo m vc).ownBlock = some k → w.heap.size ≤ k) := fun k hk => by
          rcases (unhide HO).2 with ⟨h1, _⟩ | ⟨g, cap, cur, h1, h2, _⟩
          · rw [h1] at hk; cases hk
          · rw [h1] at hk; cases hk; exact h2
        clear hka
        go_wp2_with (at_builtin; refine wpList_append_one _ rfl _ _ 34 rfl w.heap.size 3 i0 (.int .i64 0) 8 Tryz.underlying34 (unhide HI) hz0 hz1 hz2 rfl (by omega) (.slice vo m vc) m _ rfl (unhide HOW) (some ⟨wr.heap.size, 0, none⟩) 1 1 [.int .i64 (i : Int)] rfl rfl (unhide HSV) (by simp [Value.oneCell']) (fun h => by cases h) (by omega) (by simp; omega) ?_)
        intro v2 w2 ho hg
        have HK2 := hide (below_grown (unhide HKA) hg (by simp; omega) (unhide HRW))
        have HO2 := hide ho
        clear ho hg
        go_wp2_with fail
        go_roundw
        case rel => exact ⟨i + 1, m + 1, by go_num, by omega, by omega, by rw [unhide HS, List.length_append, unhide HML]; rfl, by rw [unhide HS, ints_append, List.map_append]; exact unhide HO2, unhide HK2⟩
        case measure => simp [intOf]; omega
    · have hi2 : i = d := by omega
      subst hi2
      have HZ := hide (owns_zfr (by rw [ints_len]; exact unhide HML) (unhide HO))
      go_wp2_with fail
      refine unhide HEXIT _ _ _ _ _ _ _ _ _ _ _ _ _ _ _ _ ?_ ?_
      · exact unhide HZ
      · exact unhide HK

end Go.Proofs.YtjdikhelabibnaaGreat
