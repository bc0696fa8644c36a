/-
  
-/
import Derived.Test.YtjdikhelabibnaaGreatMao
import Derived.Test.YtjdikhelabibnaaGreatMap
import Derived.Test.YtjdikhelabibnaaGreatMan
namespace Go.Proofs.YtjdikhelabibnaaGreat
open Go.RowKit
set_option maxRecDepth 1000000 in
set_option maxHeartbeats 16000000 in
theorem fixL5 {Q : Exit → Act → World → Prop} {c0 c1 c2 c3 c4 c5 c7 c9 c11 c14 c16 c17 c18 c19 c20 c21 c22 c23 c24 c25 c26 c27 c28 c29 c30 c31 c32 c33 c34 c35 c36 c37 c38 c39 c40 c41 c42 c43 c44 c45 c46 c47 c48 c49 c50 c51 c52 c53 c54 c55 c56 c57 c58 c59 c60 c61 c62 c63 c64 c65 c66 c67 c68 c69 c70 c71 c72 c73 c74 c75 c76 c77 c78 c79 c80 c81 c82 c83 c84 c85 c86 c87 c88 c89 c90 c91 c92 c93 c94 c95 c96 c97 c98 c99 c100 c101 c102 c103 c104 c105 c106 c107 c108 c109 c110 c111 c112 c113 c114 c115 c116 c117 c118 c119 c120 c121 c122 c123 c124 c125 c126 c127 c128 c129 c130 c131 c132 c133 c134 c135 c136 c137 c138 c139 c140 c141 c142 c143 c144 c145 c146 c147 c148 c149 c150 c151 c152 c153 c154 c155 c156 c157 c158 c159 c160 c161 c162 c163 c164 c165 c166 c167 c168 c169 c170 c171 c172 c173 c174 c175 c176 c177 c178 c179 c180 c181 c182 c183 c184 c185 c186 c187 c188 c189 c190 c191 c192 c193 c194 c195 c196 c197 c198 c199 c200 c201 c202 c203 c204 c205 c206 c207 c208 c209 c210 c211 c212 c213 c214 c215 c216 c217 c218 c219 c220 c221 c222 c223 c224 c225 c226 c227 c228 c229 c230 c231 c232 c233 c234 c235 c236 c237 c238 c239 c240 c241 c242 c243 c244 c245 c246 c247 c248 c249 c250 c251 c252 c253 c254 c255 c256 c257 c258 c259 c260 c261 c262 c263 c264 c265 c266 c267 c268 c269 c270 c271 c272 c273 c274 c275 c276 c277 c278 c279 c280 c281 c282 c283 c284 c285 c286 c287 c288 c289 c290 c291 c292 c293 c294 c295 c296 c297 c298 c299 c300 c301 c302 c303 c304 c305 c306 c307 c308 c309 c310 c311 c312 c313 c314 c315 : Value} {w : World} {base lo gO N n gg d cO : Nat} {v : Value} {G C : Nat → Nat} {zs : List Int} {out : List (List Nat)} (hN4 : 4 ≤ N) (hN16 : N ≤ 16) (hdN : d + 2 = N) (hn : n ≤ 100000) (hz2 : zs.length ≤ 2) (hO : OutS w base gO N n G C out) (hG : BBlk w gg N (fun j => !keep zs j)) (hZ : ZFr lo w v (ints (lostL zs d)))
  (hexit : ∀ (u15 u16 u17 u18 u19 u20 u21 u154 u155 u156 u157 u158 u159 u160 u161 u162 u163 u164 u165 u166 u167 u168 u169 u170 u171 u172 u173 u174 u175 u176 u177 u178 u179 u180 u181 u182 u183 u184 u185 u186 u187 u188 u189 u190 u191 u192 u193 u194 u195 u196 u197 u198 u199 u200 u201 u202 u203 u204 u205 u206 u207 u208 u209 u210 u211 u212 u213 u214 u215 u216 u217 u218 u219 u220 u221 u222 u223 u224 u225 u226 u227 u228 u229 u230 u231 u232 u233 u234 u235 u236 u237 u238 u239 u240 u241 u242 u243 u244 u245 u246 u247 u248 u249 u250 u251 u252 u253 u254 u255 u256 u257 u258 u259 u260 u261 u262 u263 u264 u265 u266 u267 u268 u269 u270 u271 u272 u273 u274 u275 u276 u277 u278 u279 u280 u281 u282 u283 u284 u285 u286 u287 u288 u289 : Value) (wr : World) (o2 : List (List Nat)), OutS wr base gO N n G C o2 → BBlk wr gg N (fun j => !keep zs j) → (∀ j, j < N → keep zs j = true → o2.getD j [] = out.getD j []) → Below base w wr → (∀ c, c < n → Gd (gA zs d) (gB zs d) d o2 c) → Q (.exit 8) ⟨List.toArray (c0 :: c1 :: c2 :: c3 :: c4 :: c5 :: (.slice (some ⟨gg, 0, none⟩) N N) :: c7 :: (.int .i64 (n : Int)) :: c9 :: (.slice (some ⟨gO, 0, none⟩) N cO) :: c11 :: (.int .i64 (d : Int)) :: v :: c14 :: u15 :: u16 :: u17 :: u18 :: u19 :: u20 :: u21 :: c22 :: c23 :: c24 :: c25 :: c26 :: c27 :: c28 :: c29 :: c30 :: c31 :: c32 :: c33 :: c34 :: c35 :: c36 :: c37 :: c38 :: c39 :: c40 :: c41 :: c42 :: c43 :: c44 :: c45 :: c46 :: c47 :: c48 :: c49 :: c50 :: c51 :: c52 :: c53 :: c54 :: c55 :: c56 :: c57 :: c58 :: c59 :: c60 :: c61 :: c62 :: c63 :: c64 :: c65 :: c66 :: c67 :: c68 :: c69 :: c70 :: c71 :: c72 :: c73 :: c74 :: c75 :: c76 :: c77 :: c78 :: c79 :: c80 :: c81 :: c82 :: c83 :: c84 :: c85 :: c86 :: c87 :: c88 :: c89 :: c90 :: c91 :: c92 :: c93 :: c94 :: c95 :: c96 :: c97 :: c98 :: c99 :: c100 :: c101 :: c102 :: c103 :: c104 :: c105 :: c106 :: c107 :: c108 :: c109 :: c110 :: c111 :: c112 :: c113 :: c114 :: c115 :: c116 :: c117 :: c118 :: c119 :: c120 :: c121 :: c122 :: c123 :: c124 :: c125 :: c126 :: c127 :: c128 :: c129 :: c130 :: c131 :: c132 :: c133 :: c134 :: c135 :: c136 :: c137 :: c138 :: c139 :: c140 :: c141 :: c142 :: c143 :: c144 :: c145 :: c146 :: c147 :: c148 :: c149 :: c150 :: c151 :: c152 :: c153 :: u154 :: u155 :: u156 :: u157 :: u158 :: u159 :: u160 :: u161 :: u162 :: u163 :: u164 :: u165 :: u166 :: u167 :: u168 :: u169 :: u170 :: u171 :: u172 :: u173 :: u174 :: u175 :: u176 :: u177 :: u178 :: u179 :: u180 :: u181 :: u182 :: u183 :: u184 :: u185 :: u186 :: u187 :: u188 :: u189 :: u190 :: u191 :: u192 :: u193 :: u194 :: u195 :: u196 :: u197 :: u198 :: u199 :: u200 :: u201 :: u202 :: u203 :: u204 :: u205 :: u206 :: u207 :: u208 :: u209 :: u210 :: u211 :: u212 :: u213 :: u214 :: u215 :: u216 :: u217 :: u218 :: u219 :: u220 :: u221 :: u222 :: u223 :: u224 :: u225 :: u226 :: u227 :: u228 :: u229 :: u230 :: u231 :: u232 :: u233 :: u234 :: u235 :: u236 :: u237 :: u238 :: u239 :: u240 :: u241 :: u242 :: u243 :: u244 :: u245 :: u246 :: u247 :: u248 :: u249 :: u250 :: u251 :: u252 :: u253 :: u254 :: u255 :: u256 :: u257 :: u258 :: u259 :: u260 :: u261 :: u262 :: u263 :: u264 :: u265 :: u266 :: u267 :: u268 :: u269 :: u270 :: u271 :: u272 :: u273 :: u274 :: u275 :: u276 :: u277 :: u278 :: u279 :: u280 :: u281 :: u282 :: u283 :: u284 :: u285 :: u286 :: u287 :: u288 :: u289 :: c290 :: c291 :: c292 :: c293 :: c294 :: c295 :: c296 :: c297 :: c298 :: c299 :: c300 :: c301 :: c302 :: c303 :: c304 :: c305 :: c306 :: c307 :: c308 :: c309 :: c310 :: c311 :: c312 :: c313 :: c314 :: c315 :: []), []⟩ wr)
  : Code.wp Tryz.prog (Code.loop (fixLoop 4)) Q ⟨List.toArray (c0 :: c1 :: c2 :: c3 :: c4 :: c5 :: (.slice (some ⟨gg, 0, none⟩) N N) :: c7 :: (.int .i64 (n : Int)) :: c9 :: (.slice (some ⟨gO, 0, none⟩) N cO) :: c11 :: (.int .i64 (d : Int)) :: v :: c14 :: (.int .i64 0) :: c16 :: c17 :: c18 :: c19 :: c20 :: c21 :: c22 :: c23 :: c24 :: c25 :: c26 :: c27 :: c28 :: c29 :: c30 :: c31 :: c32 :: c33 :: c34 :: c35 :: c36 :: c37 :: c38 :: c39 :: c40 :: c41 :: c42 :: c43 :: c44 :: c45 :: c46 :: c47 :: c48 :: c49 :: c50 :: c51 :: c52 :: c53 :: c54 :: c55 :: c56 :: c57 :: c58 :: c59 :: c60 :: c61 :: c62 :: c63 :: c64 :: c65 :: c66 :: c67 :: c68 :: c69 :: c70 :: c71 :: c72 :: c73 :: c74 :: c75 :: c76 :: c77 :: c78 :: c79 :: c80 :: c81 :: c82 :: c83 :: c84 :: c85 :: c86 :: c87 :: c88 :: c89 :: c90 :: c91 :: c92 :: c93 :: c94 :: c95 :: c96 :: c97 :: c98 :: c99 :: c100 :: c101 :: c102 :: c103 :: c104 :: c105 :: c106 :: c107 :: c108 :: c109 :: c110 :: c111 :: c112 :: c113 :: c114 :: c115 :: c116 :: c117 :: c118 :: c119 :: c120 :: c121 :: c122 :: c123 :: c124 :: c125 :: c126 :: c127 :: c128 :: c129 :: c130 :: c131 :: c132 :: c133 :: c134 :: c135 :: c136 :: c137 :: c138 :: c139 :: c140 :: c141 :: c142 :: c143 :: c144 :: c145 :: c146 :: c147 :: c148 :: c149 :: c150 :: c151 :: c152 :: c153 :: c154 :: c155 :: c156 :: c157 :: c158 :: c159 :: c160 :: c161 :: c162 :: c163 :: c164 :: c165 :: c166 :: c167 :: c168 :: c169 :: c170 :: c171 :: c172 :: c173 :: c174 :: c175 :: c176 :: c177 :: c178 :: c179 :: c180 :: c181 :: c182 :: c183 :: c184 :: c185 :: c186 :: c187 :: c188 :: c189 :: c190 :: c191 :: c192 :: c193 :: c194 :: c195 :: c196 :: c197 :: c198 :: c199 :: c200 :: c201 :: c202 :: c203 :: c204 :: c205 :: c206 :: c207 :: c208 :: c209 :: c210 :: c211 :: c212 :: c213 :: c214 :: c215 :: c216 :: c217 :: c218 :: c219 :: c220 :: c221 :: c222 :: c223 :: c224 :: c225 :: c226 :: c227 :: c228 :: c229 :: c230 :: c231 :: c232 :: c233 :: c234 :: c235 :: c236 :: c237 :: c238 :: c239 :: c240 :: c241 :: c242 :: c243 :: c244 :: c245 :: c246 :: c247 :: c248 :: c249 :: c250 :: c251 :: c252 :: c253 :: c254 :: c255 :: c256 :: c257 :: c258 :: c259 :: c260 :: c261 :: c262 :: c263 :: c264 :: c265 :: c266 :: c267 :: c268 :: c269 :: c270 :: c271 :: c272 :: c273 :: c274 :: c275 :: c276 :: c277 :: c278 :: c279 :: c280 :: c281 :: c282 :: c283 :: c284 :: c285 :: c286 :: c287 :: c288 :: c289 :: c290 :: c291 :: c292 :: c293 :: c294 :: c295 :: c296 :: c297 :: c298 :: c299 :: c300 :: c301 :: c302 :: c303 :: c304 :: c305 :: c306 :: c307 :: c308 :: c309 :: c310 :: c311 :: c312 :: c313 :: c314 :: c315 :: []), []⟩ w := by
 have hb : Below base w w := Below.refl _ _
 have hl2 := lostL_len (zs := zs) (d := d) hz2
 match hL : lostL zs d, hl2 with
 | [], _ =>
  rw [hL] at hZ
  obtain ⟨va, ca, rfl⟩ : ∃ va ca, v = .slice va 0 ca := by
   rcases hZ with ⟨_, ao, c, h, _⟩ | ⟨g, c, h, _⟩
   ·exact ⟨ao, c, h⟩
   exact ⟨_, c, h⟩
  exact fixL5d (ga := 0) hN4 hN16 hdN hn ⟨hO, hG, fun h => absurd rfl h, fun _ _ _ => rfl, hb, fun c hc => absurd hc (Nat.not_lt_zero _)⟩ (fun u15 u16 u17 u18 u19 u20 u21 u154 u155 u156 u157 u158 u159 u160 u161 u162 u163 u164 u165 u166 u167 u168 u169 u170 u171 u172 u173 u174 u175 u176 u177 u178 u179 u180 u181 u182 u183 u184 u185 u186 u187 u188 u189 u190 u191 u192 u193 u194 u195 u196 u197 u198 u199 u200 u201 u202 u203 u204 u205 u206 u207 u208 u209 u210 u211 u212 u213 u214 u215 u216 u217 u218 u219 u220 u221 u222 u223 u224 u225 u226 u227 u228 u229 u230 u231 u232 u233 u234 u235 u236 u237 u238 u239 u240 u241 u242 u243 u244 u245 u246 u247 u248 u249 u250 u251 u252 u253 u254 u255 u256 u257 u258 u259 u260 u261 u262 u263 u264 u265 u266 u267 u268 u269 u270 u271 u272 u273 u274 u275 u276 u277 u278 u279 u280 u281 u282 u283 u284 u285 u286 u287 u288 u289 wr o2 h => hexit u15 u16 u17 u18 u19 u20 u21 u154 u155 u156 u157 u158 u159 u160 u161 u162 u163 u164 u165 u166 u167 u168 u169 u170 u171 u172 u173 u174 u175 u176 u177 u178 u179 u180 u181 u182 u183 u184 u185 u186 u187 u188 u189 u190 u191 u192 u193 u194 u195 u196 u197 u198 u199 u200 u201 u202 u203 u204 u205 u206 u207 u208 u209 u210 u211 u212 u213 u214 u215 u216 u217 u218 u219 u220 u221 u222 u223 u224 u225 u226 u227 u228 u229 u230 u231 u232 u233 u234 u235 u236 u237 u238 u239 u240 u241 u242 u243 u244 u245 u246 u247 u248 u249 u250 u251 u252 u253 u254 u255 u256 u257 u258 u259 u260 u261 u262 u263 u264 u265 u266 u267 u268 u269 u270 u271 u272 u273 u274 u275 u276 u277 u278 u279 u280 u281 u282 u283 u284 u285 u286 u287 u288 u289 wr o2 h.o h.g h.kp h.bl (fun c hc => by have e := h.gd c hc; rwa [show gA zs d = false by simp [gA, hL], show gB zs d = false by simp [gB, hL]]))
 | [x], _ =>
  rw [hL] at hZ
  obtain ⟨ga, ca, rfl, hI⟩ : ∃ ga ca, v = .slice (some ⟨ga, 0, none⟩) 1 ca ∧ IBlk w ga (ints [x]) := by
   rcases hZ with ⟨h, _⟩ | ⟨g, c, h, _, _, hi, _⟩
   ·cases h
   exact ⟨g, c, h, hi⟩
  cases hkd : keep zs d with
  | true =>
   exact fixL5b hN4 hN16 hdN hn ⟨hO, hG, fun _ => hI, fun _ _ _ => rfl, hb, fun c hc => absurd hc (Nat.not_lt_zero _)⟩ hL hkd (fun u15 u16 u17 u18 u19 u20 u21 u154 u155 u156 u157 u158 u159 u160 u161 u162 u163 u164 u165 u166 u167 u168 u169 u170 u171 u172 u173 u174 u175 u176 u177 u178 u179 u180 u181 u182 u183 u184 u185 u186 u187 u188 u189 u190 u191 u192 u193 u194 u195 u196 u197 u198 u199 u200 u201 u202 u203 u204 u205 u206 u207 u208 u209 u210 u211 u212 u213 u214 u215 u216 u217 u218 u219 u220 u221 u222 u223 u224 u225 u226 u227 u228 u229 u230 u231 u232 u233 u234 u235 u236 u237 u238 u239 u240 u241 u242 u243 u244 u245 u246 u247 u248 u249 u250 u251 u252 u253 u254 u255 u256 u257 u258 u259 u260 u261 u262 u263 u264 u265 u266 u267 u268 u269 u270 u271 u272 u273 u274 u275 u276 u277 u278 u279 u280 u281 u282 u283 u284 u285 u286 u287 u288 u289 wr o2 h => hexit u15 u16 u17 u18 u19 u20 u21 u154 u155 u156 u157 u158 u159 u160 u161 u162 u163 u164 u165 u166 u167 u168 u169 u170 u171 u172 u173 u174 u175 u176 u177 u178 u179 u180 u181 u182 u183 u184 u185 u186 u187 u188 u189 u190 u191 u192 u193 u194 u195 u196 u197 u198 u199 u200 u201 u202 u203 u204 u205 u206 u207 u208 u209 u210 u211 u212 u213 u214 u215 u216 u217 u218 u219 u220 u221 u222 u223 u224 u225 u226 u227 u228 u229 u230 u231 u232 u233 u234 u235 u236 u237 u238 u239 u240 u241 u242 u243 u244 u245 u246 u247 u248 u249 u250 u251 u252 u253 u254 u255 u256 u257 u258 u259 u260 u261 u262 u263 u264 u265 u266 u267 u268 u269 u270 u271 u272 u273 u274 u275 u276 u277 u278 u279 u280 u281 u282 u283 u284 u285 u286 u287 u288 u289 wr o2 h.o h.g h.kp h.bl (fun c hc => by have e := h.gd c hc; rwa [show gA zs d = true by simp [gA, hL, hkd], show gB zs d = false by simp [gB, hL, hkd]]))
  | false =>
   exact fixL5c hN4 hN16 hdN hn ⟨hO, hG, fun _ => hI, fun _ _ _ => rfl, hb, fun c hc => absurd hc (Nat.not_lt_zero _)⟩ hL hkd (fun u15 u16 u17 u18 u19 u20 u21 u154 u155 u156 u157 u158 u159 u160 u161 u162 u163 u164 u165 u166 u167 u168 u169 u170 u171 u172 u173 u174 u175 u176 u177 u178 u179 u180 u181 u182 u183 u184 u185 u186 u187 u188 u189 u190 u191 u192 u193 u194 u195 u196 u197 u198 u199 u200 u201 u202 u203 u204 u205 u206 u207 u208 u209 u210 u211 u212 u213 u214 u215 u216 u217 u218 u219 u220 u221 u222 u223 u224 u225 u226 u227 u228 u229 u230 u231 u232 u233 u234 u235 u236 u237 u238 u239 u240 u241 u242 u243 u244 u245 u246 u247 u248 u249 u250 u251 u252 u253 u254 u255 u256 u257 u258 u259 u260 u261 u262 u263 u264 u265 u266 u267 u268 u269 u270 u271 u272 u273 u274 u275 u276 u277 u278 u279 u280 u281 u282 u283 u284 u285 u286 u287 u288 u289 wr o2 h => hexit u15 u16 u17 u18 u19 u20 u21 u154 u155 u156 u157 u158 u159 u160 u161 u162 u163 u164 u165 u166 u167 u168 u169 u170 u171 u172 u173 u174 u175 u176 u177 u178 u179 u180 u181 u182 u183 u184 u185 u186 u187 u188 u189 u190 u191 u192 u193 u194 u195 u196 u197 u198 u199 u200 u201 u202 u203 u204 u205 u206 u207 u208 u209 u210 u211 u212 u213 u214 u215 u216 u217 u218 u219 u220 u221 u222 u223 u224 u225 u226 u227 u228 u229 u230 u231 u232 u233 u234 u235 u236 u237 u238 u239 u240 u241 u242 u243 u244 u245 u246 u247 u248 u249 u250 u251 u252 u253 u254 u255 u256 u257 u258 u259 u260 u261 u262 u263 u264 u265 u266 u267 u268 u269 u270 u271 u272 u273 u274 u275 u276 u277 u278 u279 u280 u281 u282 u283 u284 u285 u286 u287 u288 u289 wr o2 h.o h.g h.kp h.bl (fun c hc => by have e := h.gd c hc; rwa [show gA zs d = false by simp [gA, hkd], show gB zs d = true by simp [gB, hL, hkd]]))
 | [x, y], _ =>
  rw [hL] at hZ
  obtain ⟨ga, ca, rfl, hI⟩ : ∃ ga ca, v = .slice (some ⟨ga, 0, none⟩) 2 ca ∧ IBlk w ga (ints [x, y]) := by
   rcases hZ with ⟨h, _⟩ | ⟨g, c, h, _, _, hi, _⟩
   ·cases h
   exact ⟨g, c, h, hi⟩
  exact fixL5a hN4 hN16 hdN hn ⟨hO, hG, fun _ => hI, fun _ _ _ => rfl, hb, fun c hc => absurd hc (Nat.not_lt_zero _)⟩ hL (fun u15 u16 u17 u18 u19 u20 u21 u154 u155 u156 u157 u158 u159 u160 u161 u162 u163 u164 u165 u166 u167 u168 u169 u170 u171 u172 u173 u174 u175 u176 u177 u178 u179 u180 u181 u182 u183 u184 u185 u186 u187 u188 u189 u190 u191 u192 u193 u194 u195 u196 u197 u198 u199 u200 u201 u202 u203 u204 u205 u206 u207 u208 u209 u210 u211 u212 u213 u214 u215 u216 u217 u218 u219 u220 u221 u222 u223 u224 u225 u226 u227 u228 u229 u230 u231 u232 u233 u234 u235 u236 u237 u238 u239 u240 u241 u242 u243 u244 u245 u246 u247 u248 u249 u250 u251 u252 u253 u254 u255 u256 u257 u258 u259 u260 u261 u262 u263 u264 u265 u266 u267 u268 u269 u270 u271 u272 u273 u274 u275 u276 u277 u278 u279 u280 u281 u282 u283 u284 u285 u286 u287 u288 u289 wr o2 h => hexit u15 u16 u17 u18 u19 u20 u21 u154 u155 u156 u157 u158 u159 u160 u161 u162 u163 u164 u165 u166 u167 u168 u169 u170 u171 u172 u173 u174 u175 u176 u177 u178 u179 u180 u181 u182 u183 u184 u185 u186 u187 u188 u189 u190 u191 u192 u193 u194 u195 u196 u197 u198 u199 u200 u201 u202 u203 u204 u205 u206 u207 u208 u209 u210 u211 u212 u213 u214 u215 u216 u217 u218 u219 u220 u221 u222 u223 u224 u225 u226 u227 u228 u229 u230 u231 u232 u233 u234 u235 u236 u237 u238 u239 u240 u241 u242 u243 u244 u245 u246 u247 u248 u249 u250 u251 u252 u253 u254 u255 u256 u257 u258 u259 u260 u261 u262 u263 u264 u265 u266 u267 u268 u269 u270 u271 u272 u273 u274 u275 u276 u277 u278 u279 u280 u281 u282 u283 u284 u285 u286 u287 u288 u289 wr o2 h.o h.g h.kp h.bl (fun c hc => have e := h.gd c hc; ⟨fun _ => e.1 rfl, fun _ => e.2 rfl⟩))
 | _ :: _ :: _ :: _, h => simp at h
end Go.Proofs.YtjdikhelabibnaaGreat

namespace Go.Proofs.YtjdikhelabibnaaGreat
open Go.RowKit
theorem zarg_row5 {W : World} {ao : Option Addr} {n c g : Nat} {zs : List Int} (h : ZArg W (.slice ao n c) g zs) : IRow W ao g zs := by
 obtain ⟨ao', c', h1, h2, h3, h4, h5⟩ := h.ex
 cases h1
 exact h5
theorem rarg_row {W : World} {ao : Option Addr} {N c G : Nat} {A : Nat → Option Addr} {C : Nat → Nat} {l : List (List Nat)} (h : RArg W (.slice ao N c) G A C l) (hl : l.length = N) : VRow W ao G A (fun i => (l.getD i []).length) C N := by
 obtain ⟨ao', c', h1, h2, h3, h4, h5⟩ := h.ex
 cases h1
 exact h5
set_option maxRecDepth 1000000 in
set_option maxHeartbeats 16000000 in
theorem rfix_any (v : Value) (G : Nat) (A : Nat → Option Addr) (C : Nat → Nat) (l : List (List Nat)) (vz : Value) (gz : Nat) (zs : List Int) (w : World) (hA : RArg w v G A C l) (hZ : ZArg w vz gz zs) (hlen : ∀ i, (l.getD i []).length ≤ 100000) :
  Calls Tryz.prog 39 #[v, vz] w fun e w' => Below w.heap.size w w' ∧ ((fixOk l zs = true ∧ ∃ v' G' A' C' out n, e = .returned (.tuple #[v', .bool true]) ∧ RArg w' v' G' A' C' out ∧ IsFix l zs out n) ∨ (fixOk l zs = false ∧ e = .returned (.tuple #[.slice none 0 0, .bool false]))) := by
 obtain ⟨ao, c, hv, hc1, hc2, hnil, hrow⟩ := hA.ex
 obtain ⟨za, zc, hvz, _, hzc2, _, hzr⟩ := hZ.ex
 have HA := hide hA
 have HZ := hide hZ
 have HLEN := hide hlen
 clear hrow hlen hA hnil hZ
 subst hv
 subst hvz
 obtain ⟨N, hN⟩ : ∃ N, l.length = N := ⟨_, rfl⟩
 obtain ⟨zl, hzl⟩ : ∃ zl, zs.length = zl := ⟨_, rfl⟩
 rw [hN] at hc1 HA ⊢
 rw [hzl] at HZ ⊢
 have HN := hide hN
 have HZL := hide hzl
 clear hN hzl hzc2
 have hNm : (N : Int) ≤ 9223372036854775807 := by unfold maxLen at hc2; omega
 clear hc1 hc2
 have HOKe : Hid (fixOk l zs = (pk zs N && decide (4 ≤ N) && decide (N ≤ 16) && evK l zs)) := by show _ = _; unfold fixOk; rw [uh HN]
 by_cases hN4 : 4 ≤ N
 rotate_left 1
 ·have hN4' : (N : Int) < 4 := by omega
  have hq1 : decide ((N : Int) < 4) = true := decide_eq_true hN4'
  clear hzr
  go_enter Tryz.func39, Tryz.ntmps39
  have HNO : Hid (fixOk l zs = false) := by show _ = _; rw [uh HOKe]; simp [hN4]
  go_wp2_with fail
  refine wp_region_noPanic ?_
  refine wp_region_held_drew (S := fun W => Kp [] w W) (by kernel_rfl) ((Kp.refl _ _).drew) (fun hHeld => ?_)
  have HH := hide hHeld
  clear hHeld
  refine tkL 0 (uh HH) ?_
  (try simp only [layB])
  refine tkL 1 (uh HH) ?_
  (try simp only [layB])
  refine tkL 2 (uh HH) ?_
  (try simp only [layB])
  refine tkL 3 (uh HH) ?_
  (try simp only [layB])
  refine tkU 4 (uh HH) ?_
  (try simp only [layB])
  refine tkU 5 (uh HH) ?_
  (try simp only [layB])
  refine tkU 6 (uh HH) ?_
  (try simp only [layB])
  refine tkL 7 (uh HH) ?_
  (try simp only [layB])
  refine tkL 8 (uh HH) ?_
  (try simp only [layB])
  refine tkU 9 (uh HH) ?_
  (try simp only [layB])
  refine tkU 10 (uh HH) ?_
  (try simp only [layB])
  refine tkU 11 (uh HH) ?_
  (try simp only [layB])
  refine tkL 12 (uh HH) ?_
  (try simp only [layB])
  refine tkL 13 (uh HH) ?_
  (try simp only [layB])
  refine tkU 14 (uh HH) ?_
  (try simp only [layB])
  refine tkU 15 (uh HH) ?_
  (try simp only [layB])
  refine tkU 16 (uh HH) ?_
  (try simp only [layB])
  refine tkU 17 (uh HH) ?_
  (try simp only [layB])
  refine tkU 18 (uh HH) ?_
  (try simp only [layB])
  refine tkU 19 (uh HH) ?_
  (try simp only [layB])
  refine tkU 20 (uh HH) ?_
  (try simp only [layB])
  refine tkU 21 (uh HH) ?_
  (try simp only [layB])
  refine tkU 22 (uh HH) ?_
  (try simp only [layB])
  refine tkU 23 (uh HH) ?_
  (try simp only [layB])
  refine tkU 24 (uh HH) ?_
  (try simp only [layB])
  refine tkU 25 (uh HH) ?_
  (try simp only [layB])
  refine tkL 26 (uh HH) ?_
  (try simp only [layB])
  refine wpAnyH_done (by kernel_rfl) ?_ _
  refine NoPanic.normal ?_
  go_wp2_with fail
  go_returns
  exact ⟨(⟨rfl, rfl, rfl, Nat.le_refl _, fun _ _ => rfl⟩ : Below w.heap.size w w.drew), .inr ⟨uh HNO, rfl⟩⟩
 have hN4' : (4 : Int) ≤ (N : Int) := by omega
 have hq1 : decide ((N : Int) < 4) = false := decide_eq_false (by omega)
 by_cases hN16 : N ≤ 16
 rotate_left 1
 ·have hN16' : (16 : Int) < (N : Int) := by omega
  have hq2 : decide ((16 : Int) < (N : Int)) = true := decide_eq_true hN16'
  clear hzr
  go_enter Tryz.func39, Tryz.ntmps39
  have HNO : Hid (fixOk l zs = false) := by show _ = _; rw [uh HOKe]; simp [hN16]
  go_wp2_with fail
  refine wp_region_noPanic ?_
  refine wp_region_held_drew (S := fun W => Kp [] w W) (by kernel_rfl) ((Kp.refl _ _).drew) (fun hHeld => ?_)
  have HH := hide hHeld
  clear hHeld
  refine tkL 0 (uh HH) ?_
  (try simp only [layB])
  refine tkL 1 (uh HH) ?_
  (try simp only [layB])
  refine tkL 2 (uh HH) ?_
  (try simp only [layB])
  refine tkL 3 (uh HH) ?_
  (try simp only [layB])
  refine tkL 4 (uh HH) ?_
  (try simp only [layB])
  refine tkL 5 (uh HH) ?_
  (try simp only [layB])
  refine tkL 6 (uh HH) ?_
  (try simp only [layB])
  refine tkL 7 (uh HH) ?_
  (try simp only [layB])
  refine tkL 8 (uh HH) ?_
  (try simp only [layB])
  refine tkU 9 (uh HH) ?_
  (try simp only [layB])
  refine tkU 10 (uh HH) ?_
  (try simp only [layB])
  refine tkU 11 (uh HH) ?_
  (try simp only [layB])
  refine tkL 12 (uh HH) ?_
  (try simp only [layB])
  refine tkL 13 (uh HH) ?_
  (try simp only [layB])
  refine tkU 14 (uh HH) ?_
  (try simp only [layB])
  refine tkU 15 (uh HH) ?_
  (try simp only [layB])
  refine tkU 16 (uh HH) ?_
  (try simp only [layB])
  refine tkU 17 (uh HH) ?_
  (try simp only [layB])
  refine tkU 18 (uh HH) ?_
  (try simp only [layB])
  refine tkU 19 (uh HH) ?_
  (try simp only [layB])
  refine tkU 20 (uh HH) ?_
  (try simp only [layB])
  refine tkU 21 (uh HH) ?_
  (try simp only [layB])
  refine tkU 22 (uh HH) ?_
  (try simp only [layB])
  refine tkU 23 (uh HH) ?_
  (try simp only [layB])
  refine tkU 24 (uh HH) ?_
  (try simp only [layB])
  refine tkU 25 (uh HH) ?_
  (try simp only [layB])
  refine tkL 26 (uh HH) ?_
  (try simp only [layB])
  refine wpAnyH_done (by kernel_rfl) ?_ _
  refine NoPanic.normal ?_
  go_wp2_with fail
  go_returns
  exact ⟨(⟨rfl, rfl, rfl, Nat.le_refl _, fun _ _ => rfl⟩ : Below w.heap.size w w.drew), .inr ⟨uh HNO, rfl⟩⟩
 have hN16' : (N : Int) ≤ 16 := by omega
 have hq2 : decide ((16 : Int) < (N : Int)) = false := decide_eq_false (by omega)
 by_cases hz2 : zl ≤ 2
 rotate_left 1
 ·have hz2' : (2 : Int) < (zl : Int) := by omega
  have hq3 : decide ((2 : Int) < (zl : Int)) = true := decide_eq_true hz2'
  clear hzr
  go_enter Tryz.func39, Tryz.ntmps39
  have HNO : Hid (fixOk l zs = false) := by show _ = _; rw [uh HOKe]; rw [pk_not (fun h => hz2 (by rw [← uh HZL]; exact h.1))]; rfl
  go_wp2_with fail
  refine wp_region_noPanic ?_
  refine wp_region_held_drew (S := fun W => Kp [] w W) (by kernel_rfl) ((Kp.refl _ _).drew) (fun hHeld => ?_)
  have HH := hide hHeld
  clear hHeld
  refine tkL 0 (uh HH) ?_
  (try simp only [layB])
  refine tkL 1 (uh HH) ?_
  (try simp only [layB])
  refine tkL 2 (uh HH) ?_
  (try simp only [layB])
  refine tkL 3 (uh HH) ?_
  (try simp only [layB])
  refine tkL 4 (uh HH) ?_
  (try simp only [layB])
  refine tkL 5 (uh HH) ?_
  (try simp only [layB])
  refine tkL 6 (uh HH) ?_
  (try simp only [layB])
  refine tkL 7 (uh HH) ?_
  (try simp only [layB])
  refine tkL 8 (uh HH) ?_
  (try simp only [layB])
  refine tkL 9 (uh HH) ?_
  (try simp only [layB])
  refine tkL 10 (uh HH) ?_
  (try simp only [layB])
  refine tkL 11 (uh HH) ?_
  (try simp only [layB])
  refine tkL 12 (uh HH) ?_
  (try simp only [layB])
  refine tkL 13 (uh HH) ?_
  (try simp only [layB])
  refine tkU 14 (uh HH) ?_
  (try simp only [layB])
  refine tkU 15 (uh HH) ?_
  (try simp only [layB])
  refine tkU 16 (uh HH) ?_
  (try simp only [layB])
  refine tkU 17 (uh HH) ?_
  (try simp only [layB])
  refine tkU 18 (uh HH) ?_
  (try simp only [layB])
  refine tkU 19 (uh HH) ?_
  (try simp only [layB])
  refine tkU 20 (uh HH) ?_
  (try simp only [layB])
  refine tkU 21 (uh HH) ?_
  (try simp only [layB])
  refine tkU 22 (uh HH) ?_
  (try simp only [layB])
  refine tkU 23 (uh HH) ?_
  (try simp only [layB])
  refine tkU 24 (uh HH) ?_
  (try simp only [layB])
  refine tkU 25 (uh HH) ?_
  (try simp only [layB])
  refine tkL 26 (uh HH) ?_
  (try simp only [layB])
  refine wpAnyH_done (by kernel_rfl) ?_ _
  refine NoPanic.normal ?_
  go_wp2_with fail
  go_returns
  exact ⟨(⟨rfl, rfl, rfl, Nat.le_refl _, fun _ _ => rfl⟩ : Below w.heap.size w w.drew), .inr ⟨uh HNO, rfl⟩⟩
 have hz2' : (zl : Int) ≤ 2 := by omega
 have hq3 : decide ((2 : Int) < (zl : Int)) = false := decide_eq_false (by omega)
 obtain ⟨d, hdN⟩ : ∃ d, d + 2 = N := ⟨N - 2, by omega⟩
 obtain ⟨e, he0⟩ : ∃ e, d + 1 = e := ⟨_, rfl⟩
 have hdi : (N : Int) - 2 = (d : Int) := by omega
 have hde : (d : Int) + 1 = (e : Int) := by omega
 have hwe : IntKind.i64.wrap (e : Int) = (e : Int) := IntWalk.i64_in _ ⟨by omega, by omega⟩
 have HE0 := hide he0
 have hdN1 : d < N := by omega
 have heN1 : e < N := by omega
 have hdN2 : (d : Int) < (N : Int) := by omega
 have heN2 : (e : Int) < (N : Int) := by omega
 have hd14 : d ≤ 14 := by omega
 have hd2 : 2 ≤ d := by omega
 clear he0
 by_cases hzz2 : zl = 2
 ·subst hzz2
  obtain ⟨o, hza, hcz⟩ := irow_some' hzr (by rw [uh HZL]; omega)
  subst hza
  have hcz0 := hcz 0 (by rw [uh HZL]; omega)
  have hcz1 := hcz 1 (by rw [uh HZL]; omega)
  have hL2 := uh HZL
  match zs, hL2 with
  | [z0, z1], _ =>
   replace hcz0 : w.cell? ⟨gz, o, none⟩ = some (.int .i64 z0) := hcz0
   replace hcz1 : w.cell? ⟨gz, o + 1, none⟩ = some (.int .i64 z1) := hcz1
   have HC0 := hide hcz0
   have HC1 := hide hcz1
   clear hcz hzr hL2 hcz0 hcz1
   by_cases hzq : z0 = z1
   ·have hzq' : (z0 == z1) = true := by rw [hzq]; exact beq_self_eq_true _
    have HZQ := hide hzq
    clear hzq
    go_enter Tryz.func39, Tryz.ntmps39
    have HNO : Hid (fixOk l [z0, z1] = false) := by show _ = _; rw [uh HOKe]; rw [pk_not (fun h => by have := h.2.2; simp at this; exact this (uh HZQ))]; rfl
    go_wp2_with fail
    refine wp_region_noPanic ?_
    refine wp_region_held_drew (S := fun W => Kp [] w W) (by kernel_rfl) ((Kp.refl _ _).drew) (fun hHeld => ?_)
    have HH := hide hHeld
    clear hHeld
    refine tkL 0 (uh HH) ?_
    (try simp only [layB])
    refine tkL 1 (uh HH) ?_
    (try simp only [layB])
    refine tkL 2 (uh HH) ?_
    (try simp only [layB])
    refine tkL 3 (uh HH) ?_
    (try simp only [layB])
    refine tkL 4 (uh HH) ?_
    (try simp only [layB])
    refine tkL 5 (uh HH) ?_
    (try simp only [layB])
    refine tkL 6 (uh HH) ?_
    (try simp only [layB])
    refine tkL 7 (uh HH) ?_
    (try simp only [layB])
    refine tkL 8 (uh HH) ?_
    (try simp only [layB])
    refine tkL 9 (uh HH) ?_
    (try simp only [layB])
    refine tkL 10 (uh HH) ?_
    (try simp only [layB])
    refine tkL 11 (uh HH) ?_
    (try simp only [layB])
    refine tkL 12 (uh HH) ?_
    (try simp only [layB])
    refine tkL 13 (uh HH) ?_
    (try simp only [layB])
    refine tkL 14 (uh HH) ?_
    (try simp only [layB])
    refine tkL 15 (uh HH) ?_
    (try simp only [layB])
    refine tkL 16 (uh HH) ?_
    (try simp only [layB])
    refine tkL 17 (uh HH) ?_
    (try simp only [layB])
    refine tkL 18 (uh HH) ?_
    (try simp only [layB])
    refine tkL 19 (uh HH) ?_
    (try simp only [layB])
    refine tkW 20 (v := ?_) ?_ (uh HH) ?_
    rotate_left 1
    ·intro W1 hSW; have hc := hSW.cell (uh HC0) (by simp); clear hSW; go_simp; all_goals (with_reducible rfl)
    (try simp only [layB])
    refine tkL 21 (uh HH) ?_
    (try simp only [layB])
    refine tkL 22 (uh HH) ?_
    (try simp only [layB])
    refine tkW 23 (v := ?_) ?_ (uh HH) ?_
    rotate_left 1
    ·intro W1 hSW; have hc := hSW.cell (uh HC1) (by simp); clear hSW; go_simp; all_goals (with_reducible rfl)
    (try simp only [layB])
    refine tkL 24 (uh HH) ?_
    (try simp only [layB])
    refine tkL 25 (uh HH) ?_
    (try simp only [layB])
    refine tkL 26 (uh HH) ?_
    (try simp only [layB])
    refine wpAnyH_done (by kernel_rfl) ?_ _
    refine NoPanic.normal ?_
    go_wp2_with fail
    go_returns
    exact ⟨(⟨rfl, rfl, rfl, Nat.le_refl _, fun _ _ => rfl⟩ : Below w.heap.size w w.drew), .inr ⟨uh HNO, rfl⟩⟩
   have hzq' : (z0 == z1) = false := by rw [beq_eq_false_iff_ne]; exact hzq
   have HND : Hid ([z0, z1].Nodup) := by
    show List.Nodup _
    simpa using hzq
   clear hzq
   obtain ⟨zs, hzs⟩ : ∃ q, [z0, z1] = q := ⟨_, rfl⟩
   rw [hzs] at HND HZ HOKe HZL ⊢
   clear hzs
   go_enter Tryz.func39, Tryz.ntmps39
   have hmk := run_nots N (by omega)
   obtain ⟨zz, hzz⟩ : ∃ z, (List.replicate N (Value.bool false)).toArray = z := ⟨_, rfl⟩
   have HBN : Hid (∀ W : World, BBlk (W.alloc (.cells zz 4)) W.heap.size N (fun _ => false)) := by
    show ∀ _, _
    rw [← hzz]
    exact fun W => bblk_nots N W
   rw [hzz] at hmk
   clear hzz
   go_wp2_with fail
   refine wp_region_noPanic ?_
   refine wp_region_held_drew (S := fun W => Kp [] w W) (by kernel_rfl) ((Kp.refl _ _).drew) (fun hHeld => ?_)
   have HH := hide hHeld
   clear hHeld
   refine tkL 0 (uh HH) ?_
   (try simp only [layB])
   refine tkL 1 (uh HH) ?_
   (try simp only [layB])
   refine tkL 2 (uh HH) ?_
   (try simp only [layB])
   refine tkL 3 (uh HH) ?_
   (try simp only [layB])
   refine tkL 4 (uh HH) ?_
   (try simp only [layB])
   refine tkL 5 (uh HH) ?_
   (try simp only [layB])
   refine tkL 6 (uh HH) ?_
   (try simp only [layB])
   refine tkL 7 (uh HH) ?_
   (try simp only [layB])
   refine tkL 8 (uh HH) ?_
   (try simp only [layB])
   refine tkL 9 (uh HH) ?_
   (try simp only [layB])
   refine tkL 10 (uh HH) ?_
   (try simp only [layB])
   refine tkL 11 (uh HH) ?_
   (try simp only [layB])
   refine tkL 12 (uh HH) ?_
   (try simp only [layB])
   refine tkL 13 (uh HH) ?_
   (try simp only [layB])
   refine tkL 14 (uh HH) ?_
   (try simp only [layB])
   refine tkL 15 (uh HH) ?_
   (try simp only [layB])
   refine tkL 16 (uh HH) ?_
   (try simp only [layB])
   refine tkL 17 (uh HH) ?_
   (try simp only [layB])
   refine tkL 18 (uh HH) ?_
   (try simp only [layB])
   refine tkL 19 (uh HH) ?_
   (try simp only [layB])
   refine tkW 20 (v := ?_) ?_ (uh HH) ?_
   rotate_left 1
   ·intro W1 hSW; have hc := hSW.cell (uh HC0) (by simp); clear hSW; go_simp; all_goals (with_reducible rfl)
   (try simp only [layB])
   refine tkL 21 (uh HH) ?_
   (try simp only [layB])
   refine tkL 22 (uh HH) ?_
   (try simp only [layB])
   refine tkW 23 (v := ?_) ?_ (uh HH) ?_
   rotate_left 1
   ·intro W1 hSW; have hc := hSW.cell (uh HC1) (by simp); clear hSW; go_simp; all_goals (with_reducible rfl)
   (try simp only [layB])
   refine tkL 24 (uh HH) ?_
   (try simp only [layB])
   refine tkL 25 (uh HH) ?_
   (try simp only [layB])
   refine tkL 26 (uh HH) ?_
   (try simp only [layB])
   refine wpAnyH_done (by kernel_rfl) ?_ _
   refine NoPanic.normal ?_
   have hBW : Below w.heap.size w w.drew := ⟨rfl, rfl, rfl, Nat.le_refl _, fun _ _ => rfl⟩
   replace HA := hide ((uh HA).below hBW)
   replace HZ := hide ((uh HZ).below hBW)
   have HB := hide hBW
   clear hBW
   generalize w.drew = wA at HA HZ HB ⊢
   go_wp2_with fail
   have HG := hide (uh HBN wA)
   have hka : Below wA.heap.size wA (wA.alloc (.cells zz 4)) := (Below.refl _ _).alloc (Nat.le_refl _) _
   have HZ1 := hide (zarg_row5 ((uh HZ).below hka))
   have HK1 := hide hka
   have HGZ : Hid (zs ≠ [] → gz ≠ wA.heap.size) := fun h => by have := (uh HZ).lt h; omega
   clear hka hmk HBN
   generalize wA.alloc (.cells zz 4) = w1 at HG HZ1 HK1 ⊢
   refine fixL1 (gz := gz) (zs := zs) (uh HZL) (by omega) (uh HZ1) (uh HZ).bd (uh HG) (uh HGZ) ?_ ?_
   rotate_left 1
   ·intro u7 u54 u55 u56 u57 u58 u59 u60 u61 u62 u63 u64 u65 u66 u67 u68 u69 u70 u71 u72 u73 u74 u75 u76 u77 u78 u79 w2 hbad hk2
    have HB2 := hide ((uh HB).trans ((below_kp (uh HK1) hk2 (by simp) (uh HK1).size).mono (uh HB).size))
    have HNO : Hid (fixOk l zs = false) := by
     show _ = _
     rw [uh HOKe, pk_not (fun h => by obtain ⟨z, h1, h2⟩ := hbad; exact h2 (h.2.1 z h1))]
     rfl
    clear hbad hk2
    go_wp2_with fail
    go_returns
    exact ⟨uh HB2, .inr ⟨uh HNO, rfl⟩⟩
   intro u4 u5 u7 u54 u55 u56 u57 u58 u59 u60 u61 u62 u63 u64 u65 u66 u67 u68 u69 u70 u71 u72 u73 u74 u75 u76 u77 u78 u79 w2 hall hB2 hk2
   have HK2 := hide (below_kp (uh HK1) hk2 (by simp) (uh HK1).size)
   have HG2 := hide hB2
   have HPK : Hid (pk zs N = true) := pk_of ⟨by rw [uh HZL]; omega, hall, uh HND⟩
   have HA2 := hide ((uh HA).below (uh HK2))
   have HEX : Hid (∃ i, i < N ∧ keep zs i = true) := some_kept (by rw [uh HZL]; omega) hN4
   clear hall hB2 hk2 HG HZ1 HK1
   go_wp2_with fail
   refine fixL2 (G := G) (A := A) (C := C) (l := l) (zs := zs) hN16 (rarg_row (uh HA2) (uh HN)) (uh HLEN) (uh HG2) (uh HEX) ?_ ?_
   rotate_left 1
   ·intro u8 u9 u80 u81 u82 u83 u84 u85 u86 u87 u88 u89 u90 u91 u92 u93 u94 u95 u96 u97 u98 u99 u100 u101 u102 u103 u104 u105 u106 u107 u108 u109 u110 u111 u112 u113 w3 hw3 hbad
    subst hw3
    have HB2 := hide ((uh HB).trans ((uh HK2).mono (uh HB).size))
    have HNO : Hid (fixOk l zs = false) := by
     show _ = _
     obtain ⟨i, j, hi, hj, hki, hkj, hne⟩ := hbad
     have h : evK l zs = false := by
      unfold evK
      rw [decide_eq_false_iff_not]
      exact fun h => hne (h i (by rw [uh HN]; exact hi) j (by rw [uh HN]; exact hj) hki hkj)
     rw [uh HOKe, h]
     simp
    clear hbad
    go_wp2_with fail
    go_returns
    exact ⟨uh HB2, .inr ⟨uh HNO, rfl⟩⟩
   intro u4 u5 u9 u80 u81 u82 u83 u84 u85 u86 u87 u88 u89 u90 u91 u92 u93 u94 u95 u96 u97 u98 u99 u100 u101 u102 u103 u104 u105 u106 u107 u108 u109 u110 u111 u112 u113 w3 n hw3 hn5 hsz
   subst hw3
   have HSZ := hide hsz
   have HYES : Hid (fixOk l zs = true) := by
    show _ = _
    have h : evK l zs = true := by
     unfold evK
     rw [decide_eq_true_eq]
     intro i hi j hj h1 h2
     rw [uh HN] at hi hj
     rw [uh HSZ i hi h1, uh HSZ j hj h2]
    rw [uh HOKe, uh HPK, h]
    simp
    omega
   clear hsz
   go_wp2_with fail
   refine fixL3 (G := G) (A := A) (C := C) (l := l) (zs := zs) hN16 (uh HN) hn5 (uh HA2) (uh HSZ) (uh HG2) ?_
   intro u11 u114 u115 u116 u117 u118 u119 u120 u121 u122 u123 u124 u125 u126 u127 u128 u129 u130 u131 u132 u133 u134 u135 u136 u137 w4 v4 ps hM hk3
   obtain ⟨gO, cO, hv4, hcN, hcM, hO⟩ := hM.out (by omega)
   subst hv4
   have HO := hide hO
   have hgl := (uh HG2).lt
   have HG3 := hide ((uh HG2).of (hk3.block _ hgl))
   have hz2 := (uh HK2).size
   have HK3 := hide ((uh HK2).trans (hk3.mono hz2))
   have hz3 := hk3.size
   have hob := hO.ob
   clear hM hk3 hO
   go_wp2_with fail
   refine fixL4 (d := d) (zs := zs) hN16 (by omega) (uh HG3) ?_
   intro u14 u141 u142 u143 u144 u145 u146 u147 u148 u149 u150 u151 u152 u153 w6 v5 hZF hk4
   have HZF := hide hZF
   have HO5 := hide ((uh HO).below hk4)
   have HG5 := hide ((uh HG3).of (hk4.block _ (uh HG3).lt))
   have HK5 := hide ((uh HK3).trans (hk4.mono (Nat.le_trans hz2 hz3)))
   have hz4 := hk4.size
   clear hZF hk4 HO HG3 HK3
   go_wp2_with fail
   refine fixL5 (zs := zs) hN4 hN16 hdN hn5 (by rw [uh HZL]; omega) (uh HO5) (uh HG5) (uh HZF) ?_
   intro u15 u16 u17 u18 u19 u20 u21 u154 u155 u156 u157 u158 u159 u160 u161 u162 u163 u164 u165 u166 u167 u168 u169 u170 u171 u172 u173 u174 u175 u176 u177 u178 u179 u180 u181 u182 u183 u184 u185 u186 u187 u188 u189 u190 u191 u192 u193 u194 u195 u196 u197 u198 u199 u200 u201 u202 u203 u204 u205 u206 u207 u208 u209 u210 u211 u212 u213 u214 u215 u216 u217 u218 u219 u220 u221 u222 u223 u224 u225 u226 u227 u228 u229 u230 u231 u232 u233 u234 u235 u236 u237 u238 u239 u240 u241 u242 u243 u244 u245 u246 u247 u248 u249 u250 u251 u252 u253 u254 u255 u256 u257 u258 u259 u260 u261 u262 u263 u264 u265 u266 u267 u268 u269 u270 u271 u272 u273 u274 u275 u276 u277 u278 u279 u280 u281 u282 u283 u284 u285 u286 u287 u288 u289 wr4 o2 hO4 hG4 hkp4 hb4 hgd4
   have HO4 := hide hO4
   have HG4 := hide hG4
   have HKP4 : Hid (∀ j, j < N → keep zs j = true → o2.getD j [] = l.getD j []) := fun j hj hk => by rw [hkp4 j hj hk, madeL_get hj hk]
   have HGD4 := hide hgd4
   have HB4 := hide ((uh HB).trans (((uh HK5).trans (hb4.mono hz2)).mono (uh HB).size))
   have hzA := (uh HB).size
   clear hO4 hG4 hkp4 hb4 hgd4 HO5 HG5 HK5 HZF
   have hfr := (uh HO4).front (d := d) (c := cO) (by omega) hcN hcM
   have hrl := (uh HO4).rl
   go_wp2_with fail
   refine (rparity_any _ gO _ _ (o2.take d) wr4 hfr (fun i => by
    by_cases hi : i < d
    ·rw [getD_take hi, hrl i (by omega)]; exact hn5
    rw [List.getD_eq_getElem?_getD, List.getElem?_eq_none (by simp; omega)]; simp)).mono ?_
   clear hfr hrl
   rintro e9 w5 ⟨v1, v2, rfl, hP, hQ, hk5⟩
   obtain ⟨HFIX0, hlP, hlQ⟩ := fix_fin (l := l) (o := o2) (zs := zs) (d := d) (n := n) (by rw [uh HN]; exact hdN.symm) hd2 hd14 (by rw [hdN]; exact uh HPK) (by rw [hdN]; exact uh HSZ) (by rw [hdN]; exact (uh HO4).len) (by rw [hdN]; exact (uh HO4).rl) (uh HO4).bs (by rw [hdN]; exact uh HKP4) (uh HGD4)
   have HFIX := hide HFIX0
   clear HFIX0
   obtain ⟨bP, bQ⟩ := par_bs (l := o2.take d) (fun i => by
    by_cases hi : i < d
    ·rw [getD_take hi]; exact (uh HO4).bs i
    rw [List.getD_eq_getElem?_getD, List.getElem?_eq_none (by simp; omega)]; exact Bs.nil)
   obtain ⟨g1, hA1, hg1⟩ := hP.arg bP
   obtain ⟨g2, hA2, hg2⟩ := hQ.arg bQ
   obtain ⟨p1, c1, hv1, _⟩ := hA1.ex
   obtain ⟨p2, c2, hv2, _⟩ := hA2.ex
   rw [hlP] at hv1
   rw [hlQ] at hv2
   subst hv1
   subst hv2
   have hgOl := (uh HO4).lt
   have HT5 := hide ((uh HO4).tn.below hk5)
   have HB5 := hide ((uh HB4).trans (hk5.mono (uh HB4).size))
   have HG5 := hide ((uh HG4).of (hk5.block _ (uh HG4).lt))
   have hz5 := hk5.size
   obtain ⟨P1, hP1⟩ : ∃ q, pP (o2.take d) = q := ⟨_, rfl⟩
   obtain ⟨Q1, hQ1⟩ : ∃ q, pQ (o2.take d) = q := ⟨_, rfl⟩
   rw [hP1, hQ1] at HFIX
   rw [hP1] at hA1 hlP
   rw [hQ1] at hA2 hlQ
   have HA1 := hide hA1
   have HA2 := hide hA2
   have HLP := hide hlP
   have HLQ := hide hlQ
   obtain ⟨pz, hpz⟩ : ∃ q, (List.range N).map (fun i => (some (⟨gOf ps i, 0, none⟩ : Addr), psC ps i)) = q := ⟨_, rfl⟩
   rw [hpz] at HT5
   clear hP hQ hk5 bP bQ hA1 hA2 hlP hlQ hP1 hQ1 HO4 HKP4 HGD4 HB4 HG4 hpz
   cases hkd : keep zs d with
   | true =>
    have hbd : w5.cell? ⟨wA.heap.size, d, none⟩ = some (.bool false) := by
     have h := (uh HG5).cell hdN1
     rwa [show (!keep zs d) = false by rw [hkd]; rfl] at h
    have HKD := hide hkd
    clear hkd
    cases hke : keep zs e with
    | true =>
     have hbe : w5.cell? ⟨wA.heap.size, e, none⟩ = some (.bool false) := by
      have h := (uh HG5).cell heN1
      rwa [show (!keep zs e) = false by rw [hke]; rfl] at h
     have HKE := hide hke
     clear hke
     have HF := hide (uh HFIX)
     have HFE : Hid (fin o2 zs d P1 Q1 = o2) := by
      show _ = _
      unfold fin
      rw [uh HE0, uh HKD, uh HKE]
      simp
     rw [uh HFE] at HF
     have HR := hide ((uh HT5).arg hcN hcM)
     go_wp2_with fail
     go_returns
     exact ⟨uh HB5, .inl ⟨uh HYES, _, _, _, _, _, n, rfl, uh HR, uh HF⟩⟩
    | false =>
     have hbe : w5.cell? ⟨wA.heap.size, e, none⟩ = some (.bool true) := by
      have h := (uh HG5).cell heN1
      rwa [show (!keep zs e) = true by rw [hke]; rfl] at h
     have HKE := hide hke
     clear hke
     obtain ⟨hce, hfe⟩ := (uh HT5).cell heN1
     have HT7 := hide ((uh HT5).set (a := p2) (c := c2) (g := g2) (r := Q1) heN1 (by rw [uh HLQ]; exact uh HA2) (fun _ => by omega))
     rw [uh HLQ] at HT7
     have HB7 := hide (below_kp (uh HB5) ((Kp.refl [gO] _).setCell ⟨gO, e, none⟩ (.slice p2 n c2) (.inl (by simp))) (by simp; omega) (uh HB5).size)
     have HF := hide (uh HFIX)
     have HFE : Hid (fin o2 zs d P1 Q1 = (o2).set e Q1) := by
      show _ = _
      unfold fin
      rw [uh HE0, uh HKD, uh HKE]
      simp
     rw [uh HFE] at HF
     have HR := hide ((uh HT7).arg hcN hcM)
     go_wp2_with fail
     go_returns
     exact ⟨uh HB7, .inl ⟨uh HYES, _, _, _, _, _, n, rfl, uh HR, uh HF⟩⟩
   | false =>
    have hbd : w5.cell? ⟨wA.heap.size, d, none⟩ = some (.bool true) := by
     have h := (uh HG5).cell hdN1
     rwa [show (!keep zs d) = true by rw [hkd]; rfl] at h
    have HKD := hide hkd
    clear hkd
    obtain ⟨hcd, hfd⟩ := (uh HT5).cell hdN1
    have HT6 := hide ((uh HT5).set (a := p1) (c := c1) (g := g1) (r := P1) hdN1 (by rw [uh HLP]; exact uh HA1) (fun _ => by omega))
    rw [uh HLP] at HT6
    have hkw : Kp [gO] w5 (w5.setCell ⟨gO, d, none⟩ (.slice p1 n c1)) := (Kp.refl _ _).setCell _ _ (.inl (by simp))
    have HB6 := hide (below_kp (uh HB5) hkw (by simp; omega) (uh HB5).size)
    have HA26 := hide (arg_kp (uh HA2) hkw (fun _ => by simp; omega))
    have HG6 := hide ((uh HG5).kp hkw (by simp; omega))
    clear hkw
    cases hke : keep zs e with
    | true =>
     have hbe : (w5.setCell ⟨gO, d, none⟩ (.slice p1 n c1)).cell? ⟨wA.heap.size, e, none⟩ = some (.bool false) := by
      have h := (uh HG6).cell heN1
      rwa [show (!keep zs e) = false by rw [hke]; rfl] at h
     have HKE := hide hke
     clear hke
     have HF := hide (uh HFIX)
     have HFE : Hid (fin o2 zs d P1 Q1 = o2.set d P1) := by
      show _ = _
      unfold fin
      rw [uh HE0, uh HKD, uh HKE]
      simp
     rw [uh HFE] at HF
     have HR := hide ((uh HT6).arg hcN hcM)
     go_wp2_with fail
     go_returns
     exact ⟨uh HB6, .inl ⟨uh HYES, _, _, _, _, _, n, rfl, uh HR, uh HF⟩⟩
    | false =>
     have hbe : (w5.setCell ⟨gO, d, none⟩ (.slice p1 n c1)).cell? ⟨wA.heap.size, e, none⟩ = some (.bool true) := by
      have h := (uh HG6).cell heN1
      rwa [show (!keep zs e) = true by rw [hke]; rfl] at h
     have HKE := hide hke
     clear hke
     obtain ⟨hce, hfe⟩ := (uh HT6).cell heN1
     have HT7 := hide ((uh HT6).set (a := p2) (c := c2) (g := g2) (r := Q1) heN1 (by rw [uh HLQ]; exact uh HA26) (fun _ => by omega))
     rw [uh HLQ] at HT7
     have HB7 := hide (below_kp (uh HB6) ((Kp.refl [gO] _).setCell ⟨gO, e, none⟩ (.slice p2 n c2) (.inl (by simp))) (by simp; omega) (uh HB6).size)
     have HF := hide (uh HFIX)
     have HFE : Hid (fin o2 zs d P1 Q1 = (o2.set d P1).set e Q1) := by
      show _ = _
      unfold fin
      rw [uh HE0, uh HKD, uh HKE]
      simp
     rw [uh HFE] at HF
     have HR := hide ((uh HT7).arg hcN hcM)
     go_wp2_with fail
     go_returns
     exact ⟨uh HB7, .inl ⟨uh HYES, _, _, _, _, _, n, rfl, uh HR, uh HF⟩⟩
 have HND : Hid (zs.Nodup) := by
  show List.Nodup zs
  have hL2 := uh HZL
  match zs, hL2 with
  | [], _ => exact List.nodup_nil
  | [_], _ => simp
  | _ :: _ :: _, h => simp at h; omega
 have hzz3 : ((zl : Int) == 2) = false := by rw [beq_eq_false_iff_ne]; omega
 have hzl1 : zl ≤ 1 := by omega
 clear hzr hzz2
 go_enter Tryz.func39, Tryz.ntmps39
 have hmk := run_nots N (by omega)
 obtain ⟨zz, hzz⟩ : ∃ z, (List.replicate N (Value.bool false)).toArray = z := ⟨_, rfl⟩
 have HBN : Hid (∀ W : World, BBlk (W.alloc (.cells zz 4)) W.heap.size N (fun _ => false)) := by
  show ∀ _, _
  rw [← hzz]
  exact fun W => bblk_nots N W
 rw [hzz] at hmk
 clear hzz
 go_wp2_with fail
 refine wp_region_noPanic ?_
 refine wp_region_held_drew (S := fun W => Kp [] w W) (by kernel_rfl) ((Kp.refl _ _).drew) (fun hHeld => ?_)
 have HH := hide hHeld
 clear hHeld
 refine tkL 0 (uh HH) ?_
 (try simp only [layB])
 refine tkL 1 (uh HH) ?_
 (try simp only [layB])
 refine tkL 2 (uh HH) ?_
 (try simp only [layB])
 refine tkL 3 (uh HH) ?_
 (try simp only [layB])
 refine tkL 4 (uh HH) ?_
 (try simp only [layB])
 refine tkL 5 (uh HH) ?_
 (try simp only [layB])
 refine tkL 6 (uh HH) ?_
 (try simp only [layB])
 refine tkL 7 (uh HH) ?_
 (try simp only [layB])
 refine tkL 8 (uh HH) ?_
 (try simp only [layB])
 refine tkL 9 (uh HH) ?_
 (try simp only [layB])
 refine tkL 10 (uh HH) ?_
 (try simp only [layB])
 refine tkL 11 (uh HH) ?_
 (try simp only [layB])
 refine tkL 12 (uh HH) ?_
 (try simp only [layB])
 refine tkL 13 (uh HH) ?_
 (try simp only [layB])
 refine tkL 14 (uh HH) ?_
 (try simp only [layB])
 refine tkL 15 (uh HH) ?_
 (try simp only [layB])
 refine tkL 16 (uh HH) ?_
 (try simp only [layB])
 refine tkL 17 (uh HH) ?_
 (try simp only [layB])
 refine tkU 18 (uh HH) ?_
 (try simp only [layB])
 refine tkU 19 (uh HH) ?_
 (try simp only [layB])
 refine tkU 20 (uh HH) ?_
 (try simp only [layB])
 refine tkU 21 (uh HH) ?_
 (try simp only [layB])
 refine tkU 22 (uh HH) ?_
 (try simp only [layB])
 refine tkU 23 (uh HH) ?_
 (try simp only [layB])
 refine tkU 24 (uh HH) ?_
 (try simp only [layB])
 refine tkL 25 (uh HH) ?_
 (try simp only [layB])
 refine tkL 26 (uh HH) ?_
 (try simp only [layB])
 refine wpAnyH_done (by kernel_rfl) ?_ _
 refine NoPanic.normal ?_
 have hBW : Below w.heap.size w w.drew := ⟨rfl, rfl, rfl, Nat.le_refl _, fun _ _ => rfl⟩
 replace HA := hide ((uh HA).below hBW)
 replace HZ := hide ((uh HZ).below hBW)
 have HB := hide hBW
 clear hBW
 generalize w.drew = wA at HA HZ HB ⊢
 go_wp2_with fail
 have HG := hide (uh HBN wA)
 have hka : Below wA.heap.size wA (wA.alloc (.cells zz 4)) := (Below.refl _ _).alloc (Nat.le_refl _) _
 have HZ1 := hide (zarg_row5 ((uh HZ).below hka))
 have HK1 := hide hka
 have HGZ : Hid (zs ≠ [] → gz ≠ wA.heap.size) := fun h => by have := (uh HZ).lt h; omega
 clear hka hmk HBN
 generalize wA.alloc (.cells zz 4) = w1 at HG HZ1 HK1 ⊢
 refine fixL1 (gz := gz) (zs := zs) (uh HZL) (by omega) (uh HZ1) (uh HZ).bd (uh HG) (uh HGZ) ?_ ?_
 rotate_left 1
 ·intro u7 u54 u55 u56 u57 u58 u59 u60 u61 u62 u63 u64 u65 u66 u67 u68 u69 u70 u71 u72 u73 u74 u75 u76 u77 u78 u79 w2 hbad hk2
  have HB2 := hide ((uh HB).trans ((below_kp (uh HK1) hk2 (by simp) (uh HK1).size).mono (uh HB).size))
  have HNO : Hid (fixOk l zs = false) := by
   show _ = _
   rw [uh HOKe, pk_not (fun h => by obtain ⟨z, h1, h2⟩ := hbad; exact h2 (h.2.1 z h1))]
   rfl
  clear hbad hk2
  go_wp2_with fail
  go_returns
  exact ⟨uh HB2, .inr ⟨uh HNO, rfl⟩⟩
 intro u4 u5 u7 u54 u55 u56 u57 u58 u59 u60 u61 u62 u63 u64 u65 u66 u67 u68 u69 u70 u71 u72 u73 u74 u75 u76 u77 u78 u79 w2 hall hB2 hk2
 have HK2 := hide (below_kp (uh HK1) hk2 (by simp) (uh HK1).size)
 have HG2 := hide hB2
 have HPK : Hid (pk zs N = true) := pk_of ⟨by rw [uh HZL]; omega, hall, uh HND⟩
 have HA2 := hide ((uh HA).below (uh HK2))
 have HEX : Hid (∃ i, i < N ∧ keep zs i = true) := some_kept (by rw [uh HZL]; omega) hN4
 clear hall hB2 hk2 HG HZ1 HK1
 go_wp2_with fail
 refine fixL2 (G := G) (A := A) (C := C) (l := l) (zs := zs) hN16 (rarg_row (uh HA2) (uh HN)) (uh HLEN) (uh HG2) (uh HEX) ?_ ?_
 rotate_left 1
 ·intro u8 u9 u80 u81 u82 u83 u84 u85 u86 u87 u88 u89 u90 u91 u92 u93 u94 u95 u96 u97 u98 u99 u100 u101 u102 u103 u104 u105 u106 u107 u108 u109 u110 u111 u112 u113 w3 hw3 hbad
  subst hw3
  have HB2 := hide ((uh HB).trans ((uh HK2).mono (uh HB).size))
  have HNO : Hid (fixOk l zs = false) := by
   show _ = _
   obtain ⟨i, j, hi, hj, hki, hkj, hne⟩ := hbad
   have h : evK l zs = false := by
    unfold evK
    rw [decide_eq_false_iff_not]
    exact fun h => hne (h i (by rw [uh HN]; exact hi) j (by rw [uh HN]; exact hj) hki hkj)
   rw [uh HOKe, h]
   simp
  clear hbad
  go_wp2_with fail
  go_returns
  exact ⟨uh HB2, .inr ⟨uh HNO, rfl⟩⟩
 intro u4 u5 u9 u80 u81 u82 u83 u84 u85 u86 u87 u88 u89 u90 u91 u92 u93 u94 u95 u96 u97 u98 u99 u100 u101 u102 u103 u104 u105 u106 u107 u108 u109 u110 u111 u112 u113 w3 n hw3 hn5 hsz
 subst hw3
 have HSZ := hide hsz
 have HYES : Hid (fixOk l zs = true) := by
  show _ = _
  have h : evK l zs = true := by
   unfold evK
   rw [decide_eq_true_eq]
   intro i hi j hj h1 h2
   rw [uh HN] at hi hj
   rw [uh HSZ i hi h1, uh HSZ j hj h2]
  rw [uh HOKe, uh HPK, h]
  simp
  omega
 clear hsz
 go_wp2_with fail
 refine fixL3 (G := G) (A := A) (C := C) (l := l) (zs := zs) hN16 (uh HN) hn5 (uh HA2) (uh HSZ) (uh HG2) ?_
 intro u11 u114 u115 u116 u117 u118 u119 u120 u121 u122 u123 u124 u125 u126 u127 u128 u129 u130 u131 u132 u133 u134 u135 u136 u137 w4 v4 ps hM hk3
 obtain ⟨gO, cO, hv4, hcN, hcM, hO⟩ := hM.out (by omega)
 subst hv4
 have HO := hide hO
 have hgl := (uh HG2).lt
 have HG3 := hide ((uh HG2).of (hk3.block _ hgl))
 have hz2 := (uh HK2).size
 have HK3 := hide ((uh HK2).trans (hk3.mono hz2))
 have hz3 := hk3.size
 have hob := hO.ob
 clear hM hk3 hO
 go_wp2_with fail
 refine fixL4 (d := d) (zs := zs) hN16 (by omega) (uh HG3) ?_
 intro u14 u141 u142 u143 u144 u145 u146 u147 u148 u149 u150 u151 u152 u153 w6 v5 hZF hk4
 have HZF := hide hZF
 have HO5 := hide ((uh HO).below hk4)
 have HG5 := hide ((uh HG3).of (hk4.block _ (uh HG3).lt))
 have HK5 := hide ((uh HK3).trans (hk4.mono (Nat.le_trans hz2 hz3)))
 have hz4 := hk4.size
 clear hZF hk4 HO HG3 HK3
 go_wp2_with fail
 refine fixL5 (zs := zs) hN4 hN16 hdN hn5 (by rw [uh HZL]; omega) (uh HO5) (uh HG5) (uh HZF) ?_
 intro u15 u16 u17 u18 u19 u20 u21 u154 u155 u156 u157 u158 u159 u160 u161 u162 u163 u164 u165 u166 u167 u168 u169 u170 u171 u172 u173 u174 u175 u176 u177 u178 u179 u180 u181 u182 u183 u184 u185 u186 u187 u188 u189 u190 u191 u192 u193 u194 u195 u196 u197 u198 u199 u200 u201 u202 u203 u204 u205 u206 u207 u208 u209 u210 u211 u212 u213 u214 u215 u216 u217 u218 u219 u220 u221 u222 u223 u224 u225 u226 u227 u228 u229 u230 u231 u232 u233 u234 u235 u236 u237 u238 u239 u240 u241 u242 u243 u244 u245 u246 u247 u248 u249 u250 u251 u252 u253 u254 u255 u256 u257 u258 u259 u260 u261 u262 u263 u264 u265 u266 u267 u268 u269 u270 u271 u272 u273 u274 u275 u276 u277 u278 u279 u280 u281 u282 u283 u284 u285 u286 u287 u288 u289 wr4 o2 hO4 hG4 hkp4 hb4 hgd4
 have HO4 := hide hO4
 have HG4 := hide hG4
 have HKP4 : Hid (∀ j, j < N → keep zs j = true → o2.getD j [] = l.getD j []) := fun j hj hk => by rw [hkp4 j hj hk, madeL_get hj hk]
 have HGD4 := hide hgd4
 have HB4 := hide ((uh HB).trans (((uh HK5).trans (hb4.mono hz2)).mono (uh HB).size))
 have hzA := (uh HB).size
 clear hO4 hG4 hkp4 hb4 hgd4 HO5 HG5 HK5 HZF
 have hfr := (uh HO4).front (d := d) (c := cO) (by omega) hcN hcM
 have hrl := (uh HO4).rl
 go_wp2_with fail
 refine (rparity_any _ gO _ _ (o2.take d) wr4 hfr (fun i => by
  by_cases hi : i < d
  ·rw [getD_take hi, hrl i (by omega)]; exact hn5
  rw [List.getD_eq_getElem?_getD, List.getElem?_eq_none (by simp; omega)]; simp)).mono ?_
 clear hfr hrl
 rintro e9 w5 ⟨v1, v2, rfl, hP, hQ, hk5⟩
 obtain ⟨HFIX0, hlP, hlQ⟩ := fix_fin (l := l) (o := o2) (zs := zs) (d := d) (n := n) (by rw [uh HN]; exact hdN.symm) hd2 hd14 (by rw [hdN]; exact uh HPK) (by rw [hdN]; exact uh HSZ) (by rw [hdN]; exact (uh HO4).len) (by rw [hdN]; exact (uh HO4).rl) (uh HO4).bs (by rw [hdN]; exact uh HKP4) (uh HGD4)
 have HFIX := hide HFIX0
 clear HFIX0
 obtain ⟨bP, bQ⟩ := par_bs (l := o2.take d) (fun i => by
  by_cases hi : i < d
  ·rw [getD_take hi]; exact (uh HO4).bs i
  rw [List.getD_eq_getElem?_getD, List.getElem?_eq_none (by simp; omega)]; exact Bs.nil)
 obtain ⟨g1, hA1, hg1⟩ := hP.arg bP
 obtain ⟨g2, hA2, hg2⟩ := hQ.arg bQ
 obtain ⟨p1, c1, hv1, _⟩ := hA1.ex
 obtain ⟨p2, c2, hv2, _⟩ := hA2.ex
 rw [hlP] at hv1
 rw [hlQ] at hv2
 subst hv1
 subst hv2
 have hgOl := (uh HO4).lt
 have HT5 := hide ((uh HO4).tn.below hk5)
 have HB5 := hide ((uh HB4).trans (hk5.mono (uh HB4).size))
 have HG5 := hide ((uh HG4).of (hk5.block _ (uh HG4).lt))
 have hz5 := hk5.size
 obtain ⟨P1, hP1⟩ : ∃ q, pP (o2.take d) = q := ⟨_, rfl⟩
 obtain ⟨Q1, hQ1⟩ : ∃ q, pQ (o2.take d) = q := ⟨_, rfl⟩
 rw [hP1, hQ1] at HFIX
 rw [hP1] at hA1 hlP
 rw [hQ1] at hA2 hlQ
 have HA1 := hide hA1
 have HA2 := hide hA2
 have HLP := hide hlP
 have HLQ := hide hlQ
 obtain ⟨pz, hpz⟩ : ∃ q, (List.range N).map (fun i => (some (⟨gOf ps i, 0, none⟩ : Addr), psC ps i)) = q := ⟨_, rfl⟩
 rw [hpz] at HT5
 clear hP hQ hk5 bP bQ hA1 hA2 hlP hlQ hP1 hQ1 HO4 HKP4 HGD4 HB4 HG4 hpz
 cases hkd : keep zs d with
 | true =>
  have hbd : w5.cell? ⟨wA.heap.size, d, none⟩ = some (.bool false) := by
   have h := (uh HG5).cell hdN1
   rwa [show (!keep zs d) = false by rw [hkd]; rfl] at h
  have HKD := hide hkd
  clear hkd
  cases hke : keep zs e with
  | true =>
   have hbe : w5.cell? ⟨wA.heap.size, e, none⟩ = some (.bool false) := by
    have h := (uh HG5).cell heN1
    rwa [show (!keep zs e) = false by rw [hke]; rfl] at h
   have HKE := hide hke
   clear hke
   have HF := hide (uh HFIX)
   have HFE : Hid (fin o2 zs d P1 Q1 = o2) := by
    show _ = _
    unfold fin
    rw [uh HE0, uh HKD, uh HKE]
    simp
   rw [uh HFE] at HF
   have HR := hide ((uh HT5).arg hcN hcM)
   go_wp2_with fail
   go_returns
   exact ⟨uh HB5, .inl ⟨uh HYES, _, _, _, _, _, n, rfl, uh HR, uh HF⟩⟩
  | false =>
   have hbe : w5.cell? ⟨wA.heap.size, e, none⟩ = some (.bool true) := by
    have h := (uh HG5).cell heN1
    rwa [show (!keep zs e) = true by rw [hke]; rfl] at h
   have HKE := hide hke
   clear hke
   obtain ⟨hce, hfe⟩ := (uh HT5).cell heN1
   have HT7 := hide ((uh HT5).set (a := p2) (c := c2) (g := g2) (r := Q1) heN1 (by rw [uh HLQ]; exact uh HA2) (fun _ => by omega))
   rw [uh HLQ] at HT7
   have HB7 := hide (below_kp (uh HB5) ((Kp.refl [gO] _).setCell ⟨gO, e, none⟩ (.slice p2 n c2) (.inl (by simp))) (by simp; omega) (uh HB5).size)
   have HF := hide (uh HFIX)
   have HFE : Hid (fin o2 zs d P1 Q1 = (o2).set e Q1) := by
    show _ = _
    unfold fin
    rw [uh HE0, uh HKD, uh HKE]
    simp
   rw [uh HFE] at HF
   have HR := hide ((uh HT7).arg hcN hcM)
   go_wp2_with fail
   go_returns
   exact ⟨uh HB7, .inl ⟨uh HYES, _, _, _, _, _, n, rfl, uh HR, uh HF⟩⟩
 | false =>
  have hbd : w5.cell? ⟨wA.heap.size, d, none⟩ = some (.bool true) := by
   have h := (uh HG5).cell hdN1
   rwa [show (!keep zs d) = true by rw [hkd]; rfl] at h
  have HKD := hide hkd
  clear hkd
  obtain ⟨hcd, hfd⟩ := (uh HT5).cell hdN1
  have HT6 := hide ((uh HT5).set (a := p1) (c := c1) (g := g1) (r := P1) hdN1 (by rw [uh HLP]; exact uh HA1) (fun _ => by omega))
  rw [uh HLP] at HT6
  have hkw : Kp [gO] w5 (w5.setCell ⟨gO, d, none⟩ (.slice p1 n c1)) := (Kp.refl _ _).setCell _ _ (.inl (by simp))
  have HB6 := hide (below_kp (uh HB5) hkw (by simp; omega) (uh HB5).size)
  have HA26 := hide (arg_kp (uh HA2) hkw (fun _ => by simp; omega))
  have HG6 := hide ((uh HG5).kp hkw (by simp; omega))
  clear hkw
  cases hke : keep zs e with
  | true =>
   have hbe : (w5.setCell ⟨gO, d, none⟩ (.slice p1 n c1)).cell? ⟨wA.heap.size, e, none⟩ = some (.bool false) := by
    have h := (uh HG6).cell heN1
    rwa [show (!keep zs e) = false by rw [hke]; rfl] at h
   have HKE := hide hke
   clear hke
   have HF := hide (uh HFIX)
   have HFE : Hid (fin o2 zs d P1 Q1 = o2.set d P1) := by
    show _ = _
    unfold fin
    rw [uh HE0, uh HKD, uh HKE]
    simp
   rw [uh HFE] at HF
   have HR := hide ((uh HT6).arg hcN hcM)
   go_wp2_with fail
   go_returns
   exact ⟨uh HB6, .inl ⟨uh HYES, _, _, _, _, _, n, rfl, uh HR, uh HF⟩⟩
  | false =>
   have hbe : (w5.setCell ⟨gO, d, none⟩ (.slice p1 n c1)).cell? ⟨wA.heap.size, e, none⟩ = some (.bool true) := by
    have h := (uh HG6).cell heN1
    rwa [show (!keep zs e) = true by rw [hke]; rfl] at h
   have HKE := hide hke
   clear hke
   obtain ⟨hce, hfe⟩ := (uh HT6).cell heN1
   have HT7 := hide ((uh HT6).set (a := p2) (c := c2) (g := g2) (r := Q1) heN1 (by rw [uh HLQ]; exact uh HA26) (fun _ => by omega))
   rw [uh HLQ] at HT7
   have HB7 := hide (below_kp (uh HB6) ((Kp.refl [gO] _).setCell ⟨gO, e, none⟩ (.slice p2 n c2) (.inl (by simp))) (by simp; omega) (uh HB6).size)
   have HF := hide (uh HFIX)
   have HFE : Hid (fin o2 zs d P1 Q1 = (o2.set d P1).set e Q1) := by
    show _ = _
    unfold fin
    rw [uh HE0, uh HKD, uh HKE]
    simp
   rw [uh HFE] at HF
   have HR := hide ((uh HT7).arg hcN hcM)
   go_wp2_with fail
   go_returns
   exact ⟨uh HB7, .inl ⟨uh HYES, _, _, _, _, _, n, rfl, uh HR, uh HF⟩⟩
end Go.Proofs.YtjdikhelabibnaaGreat
