/-
  ramekinref5.Fix: a loop of it.
-/
import Derived.Test.YtjdikhelabibnaaGreatQ5b
namespace Go.Proofs.YtjdikhelabibnaaGreat
open Go.RowKit

set_option maxRecDepth 1000000 in
set_option maxHeartbeats 16000000 in
theorem fixL2 {Q : Exit → Act → World → Prop} {c1 c2 c3 c4 c5 c7 c10 c11 c12 c13 c14 c15 c16 c17 c18 c19 c20 c21 c22 c23 c24 c25 c26 c27 c28 c29 c30 c31 c32 c33 c34 c35 c36 c37 c38 c39 c40 c41 c42 c43 c44 c45 c46 c47 c48 c49 c50 c51 c52 c53 c54 c55 c56 c57 c58 c59 c60 c61 c62 c63 c64 c65 c66 c67 c68 c69 c70 c71 c72 c73 c74 c75 c76 c77 c78 c79 c80 c81 c82 c83 c84 c85 c86 c87 c88 c89 c90 c91 c92 c93 c94 c95 c96 c97 c98 c99 c100 c101 c102 c103 c104 c105 c106 c107 c108 c109 c110 c111 c112 c113 c114 c115 c116 c117 c118 c119 c120 c121 c122 c123 c124 c125 c126 c127 c128 c129 c130 c131 c132 c133 c134 c135 c136 c137 c138 c139 c140 c141 c142 c143 c144 c145 c146 c147 c148 c149 c150 c151 c152 c153 c154 c155 c156 c157 c158 c159 c160 c161 c162 c163 c164 c165 c166 c167 c168 c169 c170 c171 c172 c173 c174 c175 c176 c177 c178 c179 c180 c181 c182 c183 c184 c185 c186 c187 c188 c189 c190 c191 c192 c193 c194 c195 c196 c197 c198 c199 c200 c201 c202 c203 c204 c205 c206 c207 c208 c209 c210 c211 c212 c213 c214 c215 c216 c217 c218 c219 c220 c221 c222 c223 c224 c225 c226 c227 c228 c229 c230 c231 c232 c233 c234 c235 c236 c237 c238 c239 c240 c241 c242 c243 c244 c245 c246 c247 c248 c249 c250 c251 c252 c253 c254 c255 c256 c257 c258 c259 c260 c261 c262 c263 c264 c265 c266 c267 c268 c269 c270 c271 c272 c273 c274 c275 c276 c277 c278 c279 c280 c281 c282 c283 c284 c285 c286 c287 c288 c289 c290 c291 c292 c293 c294 c295 c296 c297 c298 c299 c300 c301 c302 c303 c304 c305 c306 c307 c308 c309 c310 c311 c312 c313 c314 c315 : Value} {w : World} {ao : Option Addr} {N c gg G : Nat} {A : Nat → Option Addr} {C : Nat → Nat} {l : List (List Nat)} {zs : List Int} (hN : N ≤ 16) (hR : VRow w ao G A (fun i => (l.getD i []).length) C N) (hlen : ∀ i, (l.getD i []).length ≤ 100000) (hG : BBlk w gg N (fun j => !keep zs j)) (hk : ∃ i, i < N ∧ keep zs i = true)
    (hexit : ∀ (u4 u5 u9 u80 u81 u82 u83 u84 u85 u86 u87 u88 u89 u90 u91 u92 u93 u94 u95 u96 u97 u98 u99 u100 u101 u102 u103 u104 u105 u106 u107 u108 u109 u110 u111 u112 u113 : Value) (wr : World) (n : Nat), wr = w → n ≤ 100000 → (∀ i, i < N → keep zs i = true → (l.getD i []).length = n) → Q (.exit 2) ⟨List.toArray ((.slice ao N c) :: c1 :: c2 :: c3 :: u4 :: u5 :: (.slice (some ⟨gg, 0, none⟩) N N) :: c7 :: (.int .i64 (n : Int)) :: u9 :: c10 :: c11 :: c12 :: c13 :: c14 :: c15 :: c16 :: c17 :: c18 :: c19 :: c20 :: c21 :: c22 :: c23 :: c24 :: c25 :: c26 :: c27 :: c28 :: c29 :: c30 :: c31 :: c32 :: c33 :: c34 :: c35 :: c36 :: c37 :: c38 :: c39 :: c40 :: c41 :: c42 :: c43 :: c44 :: c45 :: c46 :: c47 :: c48 :: c49 :: c50 :: c51 :: c52 :: c53 :: c54 :: c55 :: c56 :: c57 :: c58 :: c59 :: c60 :: c61 :: c62 :: c63 :: c64 :: c65 :: c66 :: c67 :: c68 :: c69 :: c70 :: c71 :: c72 :: c73 :: c74 :: c75 :: c76 :: c77 :: c78 :: c79 :: u80 :: u81 :: u82 :: u83 :: u84 :: u85 :: u86 :: u87 :: u88 :: u89 :: u90 :: u91 :: u92 :: u93 :: u94 :: u95 :: u96 :: u97 :: u98 :: u99 :: u100 :: u101 :: u102 :: u103 :: u104 :: u105 :: u106 :: u107 :: u108 :: u109 :: u110 :: u111 :: u112 :: u113 :: c114 :: c115 :: c116 :: c117 :: c118 :: c119 :: c120 :: c121 :: c122 :: c123 :: c124 :: c125 :: c126 :: c127 :: c128 :: c129 :: c130 :: c131 :: c132 :: c133 :: c134 :: c135 :: c136 :: c137 :: c138 :: c139 :: c140 :: c141 :: c142 :: c143 :: c144 :: c145 :: c146 :: c147 :: c148 :: c149 :: c150 :: c151 :: c152 :: c153 :: c154 :: c155 :: c156 :: c157 :: c158 :: c159 :: c160 :: c161 :: c162 :: c163 :: c164 :: c165 :: c166 :: c167 :: c168 :: c169 :: c170 :: c171 :: c172 :: c173 :: c174 :: c175 :: c176 :: c177 :: c178 :: c179 :: c180 :: c181 :: c182 :: c183 :: c184 :: c185 :: c186 :: c187 :: c188 :: c189 :: c190 :: c191 :: c192 :: c193 :: c194 :: c195 :: c196 :: c197 :: c198 :: c199 :: c200 :: c201 :: c202 :: c203 :: c204 :: c205 :: c206 :: c207 :: c208 :: c209 :: c210 :: c211 :: c212 :: c213 :: c214 :: c215 :: c216 :: c217 :: c218 :: c219 :: c220 :: c221 :: c222 :: c223 :: c224 :: c225 :: c226 :: c227 :: c228 :: c229 :: c230 :: c231 :: c232 :: c233 :: c234 :: c235 :: c236 :: c237 :: c238 :: c239 :: c240 :: c241 :: c242 :: c243 :: c244 :: c245 :: c246 :: c247 :: c248 :: c249 :: c250 :: c251 :: c252 :: c253 :: c254 :: c255 :: c256 :: c257 :: c258 :: c259 :: c260 :: c261 :: c262 :: c263 :: c264 :: c265 :: c266 :: c267 :: c268 :: c269 :: c270 :: c271 :: c272 :: c273 :: c274 :: c275 :: c276 :: c277 :: c278 :: c279 :: c280 :: c281 :: c282 :: c283 :: c284 :: c285 :: c286 :: c287 :: c288 :: c289 :: c290 :: c291 :: c292 :: c293 :: c294 :: c295 :: c296 :: c297 :: c298 :: c299 :: c300 :: c301 :: c302 :: c303 :: c304 :: c305 :: c306 :: c307 :: c308 :: c309 :: c310 :: c311 :: c312 :: c313 :: c314 :: c315 :: []), []⟩ wr)
    (hret : ∀ (u8 u9 u80 u81 u82 u83 u84 u85 u86 u87 u88 u89 u90 u91 u92 u93 u94 u95 u96 u97 u98 u99 u100 u101 u102 u103 u104 u105 u106 u107 u108 u109 u110 u111 u112 u113 : Value) (wr : World), wr = w → (∃ i j, i < N ∧ j < N ∧ keep zs i = true ∧ keep zs j = true ∧ (l.getD i []).length ≠ (l.getD j []).length) → Q (.ret) ⟨List.toArray ((.slice ao N c) :: c1 :: c2 :: c3 :: (.slice none 0 0) :: (.bool false) :: (.slice (some ⟨gg, 0, none⟩) N N) :: c7 :: u8 :: u9 :: c10 :: c11 :: c12 :: c13 :: c14 :: c15 :: c16 :: c17 :: c18 :: c19 :: c20 :: c21 :: c22 :: c23 :: c24 :: c25 :: c26 :: c27 :: c28 :: c29 :: c30 :: c31 :: c32 :: c33 :: c34 :: c35 :: c36 :: c37 :: c38 :: c39 :: c40 :: c41 :: c42 :: c43 :: c44 :: c45 :: c46 :: c47 :: c48 :: c49 :: c50 :: c51 :: c52 :: c53 :: c54 :: c55 :: c56 :: c57 :: c58 :: c59 :: c60 :: c61 :: c62 :: c63 :: c64 :: c65 :: c66 :: c67 :: c68 :: c69 :: c70 :: c71 :: c72 :: c73 :: c74 :: c75 :: c76 :: c77 :: c78 :: c79 :: u80 :: u81 :: u82 :: u83 :: u84 :: u85 :: u86 :: u87 :: u88 :: u89 :: u90 :: u91 :: u92 :: u93 :: u94 :: u95 :: u96 :: u97 :: u98 :: u99 :: u100 :: u101 :: u102 :: u103 :: u104 :: u105 :: u106 :: u107 :: u108 :: u109 :: u110 :: u111 :: u112 :: u113 :: c114 :: c115 :: c116 :: c117 :: c118 :: c119 :: c120 :: c121 :: c122 :: c123 :: c124 :: c125 :: c126 :: c127 :: c128 :: c129 :: c130 :: c131 :: c132 :: c133 :: c134 :: c135 :: c136 :: c137 :: c138 :: c139 :: c140 :: c141 :: c142 :: c143 :: c144 :: c145 :: c146 :: c147 :: c148 :: c149 :: c150 :: c151 :: c152 :: c153 :: c154 :: c155 :: c156 :: c157 :: c158 :: c159 :: c160 :: c161 :: c162 :: c163 :: c164 :: c165 :: c166 :: c167 :: c168 :: c169 :: c170 :: c171 :: c172 :: c173 :: c174 :: c175 :: c176 :: c177 :: c178 :: c179 :: c180 :: c181 :: c182 :: c183 :: c184 :: c185 :: c186 :: c187 :: c188 :: c189 :: c190 :: c191 :: c192 :: c193 :: c194 :: c195 :: c196 :: c197 :: c198 :: c199 :: c200 :: c201 :: c202 :: c203 :: c204 :: c205 :: c206 :: c207 :: c208 :: c209 :: c210 :: c211 :: c212 :: c213 :: c214 :: c215 :: c216 :: c217 :: c218 :: c219 :: c220 :: c221 :: c222 :: c223 :: c224 :: c225 :: c226 :: c227 :: c228 :: c229 :: c230 :: c231 :: c232 :: c233 :: c234 :: c235 :: c236 :: c237 :: c238 :: c239 :: c240 :: c241 :: c242 :: c243 :: c244 :: c245 :: c246 :: c247 :: c248 :: c249 :: c250 :: c251 :: c252 :: c253 :: c254 :: c255 :: c256 :: c257 :: c258 :: c259 :: c260 :: c261 :: c262 :: c263 :: c264 :: c265 :: c266 :: c267 :: c268 :: c269 :: c270 :: c271 :: c272 :: c273 :: c274 :: c275 :: c276 :: c277 :: c278 :: c279 :: c280 :: c281 :: c282 :: c283 :: c284 :: c285 :: c286 :: c287 :: c288 :: c289 :: c290 :: c291 :: c292 :: c293 :: c294 :: c295 :: c296 :: c297 :: c298 :: c299 :: c300 :: c301 :: c302 :: c303 :: c304 :: c305 :: c306 :: c307 :: c308 :: c309 :: c310 :: c311 :: c312 :: c313 :: c314 :: c315 :: []), []⟩ wr)
    : Code.wp Tryz.prog (Code.loop (fixLoop 1)) Q ⟨List.toArray ((.slice ao N c) :: c1 :: c2 :: c3 :: c4 :: c5 :: (.slice (some ⟨gg, 0, none⟩) N N) :: c7 :: (.int .i64 (-1)) :: (.int .i64 0) :: c10 :: c11 :: c12 :: c13 :: c14 :: c15 :: c16 :: c17 :: c18 :: c19 :: c20 :: c21 :: c22 :: c23 :: c24 :: c25 :: c26 :: c27 :: c28 :: c29 :: c30 :: c31 :: c32 :: c33 :: c34 :: c35 :: c36 :: c37 :: c38 :: c39 :: c40 :: c41 :: c42 :: c43 :: c44 :: c45 :: c46 :: c47 :: c48 :: c49 :: c50 :: c51 :: c52 :: c53 :: c54 :: c55 :: c56 :: c57 :: c58 :: c59 :: c60 :: c61 :: c62 :: c63 :: c64 :: c65 :: c66 :: c67 :: c68 :: c69 :: c70 :: c71 :: c72 :: c73 :: c74 :: c75 :: c76 :: c77 :: c78 :: c79 :: c80 :: c81 :: c82 :: c83 :: c84 :: c85 :: c86 :: c87 :: c88 :: c89 :: c90 :: c91 :: c92 :: c93 :: c94 :: c95 :: c96 :: c97 :: c98 :: c99 :: c100 :: c101 :: c102 :: c103 :: c104 :: c105 :: c106 :: c107 :: c108 :: c109 :: c110 :: c111 :: c112 :: c113 :: c114 :: c115 :: c116 :: c117 :: c118 :: c119 :: c120 :: c121 :: c122 :: c123 :: c124 :: c125 :: c126 :: c127 :: c128 :: c129 :: c130 :: c131 :: c132 :: c133 :: c134 :: c135 :: c136 :: c137 :: c138 :: c139 :: c140 :: c141 :: c142 :: c143 :: c144 :: c145 :: c146 :: c147 :: c148 :: c149 :: c150 :: c151 :: c152 :: c153 :: c154 :: c155 :: c156 :: c157 :: c158 :: c159 :: c160 :: c161 :: c162 :: c163 :: c164 :: c165 :: c166 :: c167 :: c168 :: c169 :: c170 :: c171 :: c172 :: c173 :: c174 :: c175 :: c176 :: c177 :: c178 :: c179 :: c180 :: c181 :: c182 :: c183 :: c184 :: c185 :: c186 :: c187 :: c188 :: c189 :: c190 :: c191 :: c192 :: c193 :: c194 :: c195 :: c196 :: c197 :: c198 :: c199 :: c200 :: c201 :: c202 :: c203 :: c204 :: c205 :: c206 :: c207 :: c208 :: c209 :: c210 :: c211 :: c212 :: c213 :: c214 :: c215 :: c216 :: c217 :: c218 :: c219 :: c220 :: c221 :: c222 :: c223 :: c224 :: c225 :: c226 :: c227 :: c228 :: c229 :: c230 :: c231 :: c232 :: c233 :: c234 :: c235 :: c236 :: c237 :: c238 :: c239 :: c240 :: c241 :: c242 :: c243 :: c244 :: c245 :: c246 :: c247 :: c248 :: c249 :: c250 :: c251 :: c252 :: c253 :: c254 :: c255 :: c256 :: c257 :: c258 :: c259 :: c260 :: c261 :: c262 :: c263 :: c264 :: c265 :: c266 :: c267 :: c268 :: c269 :: c270 :: c271 :: c272 :: c273 :: c274 :: c275 :: c276 :: c277 :: c278 :: c279 :: c280 :: c281 :: c282 :: c283 :: c284 :: c285 :: c286 :: c287 :: c288 :: c289 :: c290 :: c291 :: c292 :: c293 :: c294 :: c295 :: c296 :: c297 :: c298 :: c299 :: c300 :: c301 :: c302 :: c303 :: c304 :: c305 :: c306 :: c307 :: c308 :: c309 :: c310 :: c311 :: c312 :: c313 :: c314 :: c315 :: []), []⟩ w := by
  conv => arg 2; arg 1; whnf
  have HEXIT := hide hexit
  clear hexit
  have HRET := hide hret
  clear hret
  have HR := hide hR
  have HLEN := hide hlen
  have HG := hide hG
  have HKE := hide hk
  clear hR hlen hG hk
  go_loop [8, 9] (fun s p => ∃ i : Nat, p = .int .i64 i ∧ i ≤ N ∧ ((s = .int .i64 (-1) ∧ ∀ c, c < i → keep zs c = false) ∨ (∃ n c0 : Nat, s = .int .i64 (n : Int) ∧ n ≤ 100000 ∧ c0 < i ∧ keep zs c0 = true ∧ (l.getD c0 []).length = n ∧ ∀ c, c < i → keep zs c = true → (l.getD c []).length = n))) (fun _ p => N - (intOf p).toNat)
  case atStart => exact ⟨0, rfl, by omega, .inl ⟨rfl, fun c h => by omega⟩⟩
  case round =>
    obtain ⟨i, rfl, hi, hs⟩ := hrel
    by_cases hlt : i < N
    · have hi1 : (i : Int) < (N : Int) := by omega
      have hb := (unhide HG).cell hlt
      obtain ⟨o, rfl, hcl⟩ := (unhide HR).at (by omega)
      have hc := hcl i hlt
      obtain ⟨m, hm⟩ : ∃ m, (l.getD i []).length = m := ⟨_, rfl⟩
      have hm5 : m ≤ 100000 := by rw [← hm]; exact unhide HLEN i

      rw [hm] at hc
      have HM := hide hm
      clear hm hcl
      cases hkp : keep zs i with
      | false =>
        rw [hkp] at hb
        have hb' : _ = some (Value.bool true) := hb
        clear hb
        have HKP := hide hkp
        clear hkp
        rcases hs with ⟨rfl, hno⟩ | ⟨n, c0, rfl, hn5, hc0, hk0, hl0, hall⟩
        · have HNO := hide hno
          clear hno
          go_wp2_with fail
          go_round
          case rel => exact ⟨i + 1, by go_num, by omega, .inl ⟨rfl, fun c h => by
            by_cases e : c = i
            · rw [e]; exact unhide HKP
            · exact unhide HNO c (by omega)⟩⟩
          case measure => simp [intOf]; omega
        · have HALL := hide hall
          have HK0 := hide hk0
          have HL0 := hide hl0
          clear hall hk0 hl0
          go_wp2_with fail
          go_round
          case rel => exact ⟨i + 1, by go_num, by omega, .inr ⟨n, c0, rfl, hn5, by omega, unhide HK0, unhide HL0, fun c h hk => by
            by_cases e : c = i
            · rw [e, unhide HKP] at hk; cases hk
            · exact unhide HALL c (by omega) hk⟩⟩
          case measure => simp [intOf]; omega
      | true =>
        rw [hkp] at hb
        have hb' : _ = some (Value.bool false) := hb
        clear hb
        have HKP := hide hkp
        clear hkp
        rcases hs with ⟨rfl, hno⟩ | ⟨n, c0, rfl, hn5, hc0, hk0, hl0, hall⟩
        · have HNO := hide hno
          clear hno
          go_wp2_with fail
          go_round
          case rel => exact ⟨i + 1, by go_num, by omega, .inr ⟨m, i, rfl, hm5, by omega, unhide HKP, unhide HM, fun c h hk => by
            by_cases e : c = i
            · rw [e]; exact unhide HM
            · rw [unhide HNO c (by omega)] at hk; cases hk⟩⟩
          case measure => simp [intOf]; omega
        · have HALL := hide hall
          have HK0 := hide hk0
          have HL0 := hide hl0
          clear hall hk0 hl0
          have hn0 : (0 : Int) ≤ (n : Int) := by omega
          by_cases he : m = n
          · have e3 : ((m : Int) != (n : Int)) = false := by rw [he]; simp
            have HE := hide he
            clear he
            go_wp2_with fail
            go_round
            case rel => exact ⟨i + 1, by go_num, by omega, .inr ⟨m, i, rfl, hm5, by omega, unhide HKP, unhide HM, fun c h hk => by
              by_cases e : c = i
              · rw [e]; exact unhide HM
              · rw [unhide HE]; exact unhide HALL c (by omega) hk⟩⟩
            case measure => simp [intOf]; omega
          · have e3 : ((m : Int) != (n : Int)) = true := by rw [bne_iff_ne]; omega
            go_wp2_with fail
            refine unhide HRET _ _ _ _ _ _ _ _ _ _ _ _ _ _ _ _ _ _ _ _ _ _ _ _ _ _ _ _ _ _ _ _ _ _ _ _ _ rfl ?_
            exact ⟨i, c0, hlt, by omega, unhide HKP, unhide HK0, by rw [unhide HM, unhide HL0]; exact he⟩
    · have hi2 : i = N := by omega
      subst hi2
      rcases hs with ⟨rfl, hno⟩ | ⟨n, c0, rfl, hn5, hc0, hk0, hl0, hall⟩
      · obtain ⟨i0, h1, h2⟩ := unhide HKE
        rw [hno i0 h1] at h2
        cases h2
      · have HALL := hide hall
        clear hall hk0 hl0
        go_wp2_with fail
        refine unhide HEXIT _ _ _ _ _ _ _ _ _ _ _ _ _ _ _ _ _ _ _ _ _ _ _ _ _ _ _ _ _ _ _ _ _ _ _ _ _ _ n rfl hn5 ?_
        exact unhide HALL

end Go.Proofs.YtjdikhelabibnaaGreat
