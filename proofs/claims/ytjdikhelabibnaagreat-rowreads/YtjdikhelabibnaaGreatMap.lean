/-
  
-/
import Derived.Test.YtjdikhelabibnaaGreatMao
namespace Go.Proofs.YtjdikhelabibnaaGreat
open Go.RowKit
set_option maxRecDepth 1000000 in
set_option maxHeartbeats 16000000 in
theorem fixL5b {Q : Exit → Act → World → Prop} {c0 c1 c2 c3 c4 c5 c7 c9 c11 c14 c16 c17 c18 c19 c20 c21 c22 c23 c24 c25 c26 c27 c28 c29 c30 c31 c32 c33 c34 c35 c36 c37 c38 c39 c40 c41 c42 c43 c44 c45 c46 c47 c48 c49 c50 c51 c52 c53 c54 c55 c56 c57 c58 c59 c60 c61 c62 c63 c64 c65 c66 c67 c68 c69 c70 c71 c72 c73 c74 c75 c76 c77 c78 c79 c80 c81 c82 c83 c84 c85 c86 c87 c88 c89 c90 c91 c92 c93 c94 c95 c96 c97 c98 c99 c100 c101 c102 c103 c104 c105 c106 c107 c108 c109 c110 c111 c112 c113 c114 c115 c116 c117 c118 c119 c120 c121 c122 c123 c124 c125 c126 c127 c128 c129 c130 c131 c132 c133 c134 c135 c136 c137 c138 c139 c140 c141 c142 c143 c144 c145 c146 c147 c148 c149 c150 c151 c152 c153 c154 c155 c156 c157 c158 c159 c160 c161 c162 c163 c164 c165 c166 c167 c168 c169 c170 c171 c172 c173 c174 c175 c176 c177 c178 c179 c180 c181 c182 c183 c184 c185 c186 c187 c188 c189 c190 c191 c192 c193 c194 c195 c196 c197 c198 c199 c200 c201 c202 c203 c204 c205 c206 c207 c208 c209 c210 c211 c212 c213 c214 c215 c216 c217 c218 c219 c220 c221 c222 c223 c224 c225 c226 c227 c228 c229 c230 c231 c232 c233 c234 c235 c236 c237 c238 c239 c240 c241 c242 c243 c244 c245 c246 c247 c248 c249 c250 c251 c252 c253 c254 c255 c256 c257 c258 c259 c260 c261 c262 c263 c264 c265 c266 c267 c268 c269 c270 c271 c272 c273 c274 c275 c276 c277 c278 c279 c280 c281 c282 c283 c284 c285 c286 c287 c288 c289 c290 c291 c292 c293 c294 c295 c296 c297 c298 c299 c300 c301 c302 c303 c304 c305 c306 c307 c308 c309 c310 c311 c312 c313 c314 c315 : Value} {w : World} {base gO N n gg ga d cO ca x : Nat} {G C : Nat → Nat} {zs : List Int} {out : List (List Nat)} (hN4 : 4 ≤ N) (hN16 : N ≤ 16) (hdN : d + 2 = N) (hn : n ≤ 100000) (hL : L5S base gO N n gg ga d G C zs [x] true false out w w 0 out) (has : lostL zs d = [x]) (HKD : Hid (keep zs d = true))
  (hexit : ∀ (u15 u16 u17 u18 u19 u20 u21 u154 u155 u156 u157 u158 u159 u160 u161 u162 u163 u164 u165 u166 u167 u168 u169 u170 u171 u172 u173 u174 u175 u176 u177 u178 u179 u180 u181 u182 u183 u184 u185 u186 u187 u188 u189 u190 u191 u192 u193 u194 u195 u196 u197 u198 u199 u200 u201 u202 u203 u204 u205 u206 u207 u208 u209 u210 u211 u212 u213 u214 u215 u216 u217 u218 u219 u220 u221 u222 u223 u224 u225 u226 u227 u228 u229 u230 u231 u232 u233 u234 u235 u236 u237 u238 u239 u240 u241 u242 u243 u244 u245 u246 u247 u248 u249 u250 u251 u252 u253 u254 u255 u256 u257 u258 u259 u260 u261 u262 u263 u264 u265 u266 u267 u268 u269 u270 u271 u272 u273 u274 u275 u276 u277 u278 u279 u280 u281 u282 u283 u284 u285 u286 u287 u288 u289 : Value) (wr : World) (o2 : List (List Nat)), L5S base gO N n gg ga d G C zs [x] true false out w wr n o2 → Q (.exit 8) ⟨List.toArray (c0 :: c1 :: c2 :: c3 :: c4 :: c5 :: (.slice (some ⟨gg, 0, none⟩) N N) :: c7 :: (.int .i64 (n : Int)) :: c9 :: (.slice (some ⟨gO, 0, none⟩) N cO) :: c11 :: (.int .i64 (d : Int)) :: (.slice (some ⟨ga, 0, none⟩) 1 ca) :: c14 :: u15 :: u16 :: u17 :: u18 :: u19 :: u20 :: u21 :: c22 :: c23 :: c24 :: c25 :: c26 :: c27 :: c28 :: c29 :: c30 :: c31 :: c32 :: c33 :: c34 :: c35 :: c36 :: c37 :: c38 :: c39 :: c40 :: c41 :: c42 :: c43 :: c44 :: c45 :: c46 :: c47 :: c48 :: c49 :: c50 :: c51 :: c52 :: c53 :: c54 :: c55 :: c56 :: c57 :: c58 :: c59 :: c60 :: c61 :: c62 :: c63 :: c64 :: c65 :: c66 :: c67 :: c68 :: c69 :: c70 :: c71 :: c72 :: c73 :: c74 :: c75 :: c76 :: c77 :: c78 :: c79 :: c80 :: c81 :: c82 :: c83 :: c84 :: c85 :: c86 :: c87 :: c88 :: c89 :: c90 :: c91 :: c92 :: c93 :: c94 :: c95 :: c96 :: c97 :: c98 :: c99 :: c100 :: c101 :: c102 :: c103 :: c104 :: c105 :: c106 :: c107 :: c108 :: c109 :: c110 :: c111 :: c112 :: c113 :: c114 :: c115 :: c116 :: c117 :: c118 :: c119 :: c120 :: c121 :: c122 :: c123 :: c124 :: c125 :: c126 :: c127 :: c128 :: c129 :: c130 :: c131 :: c132 :: c133 :: c134 :: c135 :: c136 :: c137 :: c138 :: c139 :: c140 :: c141 :: c142 :: c143 :: c144 :: c145 :: c146 :: c147 :: c148 :: c149 :: c150 :: c151 :: c152 :: c153 :: u154 :: u155 :: u156 :: u157 :: u158 :: u159 :: u160 :: u161 :: u162 :: u163 :: u164 :: u165 :: u166 :: u167 :: u168 :: u169 :: u170 :: u171 :: u172 :: u173 :: u174 :: u175 :: u176 :: u177 :: u178 :: u179 :: u180 :: u181 :: u182 :: u183 :: u184 :: u185 :: u186 :: u187 :: u188 :: u189 :: u190 :: u191 :: u192 :: u193 :: u194 :: u195 :: u196 :: u197 :: u198 :: u199 :: u200 :: u201 :: u202 :: u203 :: u204 :: u205 :: u206 :: u207 :: u208 :: u209 :: u210 :: u211 :: u212 :: u213 :: u214 :: u215 :: u216 :: u217 :: u218 :: u219 :: u220 :: u221 :: u222 :: u223 :: u224 :: u225 :: u226 :: u227 :: u228 :: u229 :: u230 :: u231 :: u232 :: u233 :: u234 :: u235 :: u236 :: u237 :: u238 :: u239 :: u240 :: u241 :: u242 :: u243 :: u244 :: u245 :: u246 :: u247 :: u248 :: u249 :: u250 :: u251 :: u252 :: u253 :: u254 :: u255 :: u256 :: u257 :: u258 :: u259 :: u260 :: u261 :: u262 :: u263 :: u264 :: u265 :: u266 :: u267 :: u268 :: u269 :: u270 :: u271 :: u272 :: u273 :: u274 :: u275 :: u276 :: u277 :: u278 :: u279 :: u280 :: u281 :: u282 :: u283 :: u284 :: u285 :: u286 :: u287 :: u288 :: u289 :: c290 :: c291 :: c292 :: c293 :: c294 :: c295 :: c296 :: c297 :: c298 :: c299 :: c300 :: c301 :: c302 :: c303 :: c304 :: c305 :: c306 :: c307 :: c308 :: c309 :: c310 :: c311 :: c312 :: c313 :: c314 :: c315 :: []), []⟩ wr)
  : Code.wp Tryz.prog (Code.loop (fixLoop 4)) Q ⟨List.toArray (c0 :: c1 :: c2 :: c3 :: c4 :: c5 :: (.slice (some ⟨gg, 0, none⟩) N N) :: c7 :: (.int .i64 (n : Int)) :: c9 :: (.slice (some ⟨gO, 0, none⟩) N cO) :: c11 :: (.int .i64 (d : Int)) :: (.slice (some ⟨ga, 0, none⟩) 1 ca) :: c14 :: (.int .i64 0) :: c16 :: c17 :: c18 :: c19 :: c20 :: c21 :: c22 :: c23 :: c24 :: c25 :: c26 :: c27 :: c28 :: c29 :: c30 :: c31 :: c32 :: c33 :: c34 :: c35 :: c36 :: c37 :: c38 :: c39 :: c40 :: c41 :: c42 :: c43 :: c44 :: c45 :: c46 :: c47 :: c48 :: c49 :: c50 :: c51 :: c52 :: c53 :: c54 :: c55 :: c56 :: c57 :: c58 :: c59 :: c60 :: c61 :: c62 :: c63 :: c64 :: c65 :: c66 :: c67 :: c68 :: c69 :: c70 :: c71 :: c72 :: c73 :: c74 :: c75 :: c76 :: c77 :: c78 :: c79 :: c80 :: c81 :: c82 :: c83 :: c84 :: c85 :: c86 :: c87 :: c88 :: c89 :: c90 :: c91 :: c92 :: c93 :: c94 :: c95 :: c96 :: c97 :: c98 :: c99 :: c100 :: c101 :: c102 :: c103 :: c104 :: c105 :: c106 :: c107 :: c108 :: c109 :: c110 :: c111 :: c112 :: c113 :: c114 :: c115 :: c116 :: c117 :: c118 :: c119 :: c120 :: c121 :: c122 :: c123 :: c124 :: c125 :: c126 :: c127 :: c128 :: c129 :: c130 :: c131 :: c132 :: c133 :: c134 :: c135 :: c136 :: c137 :: c138 :: c139 :: c140 :: c141 :: c142 :: c143 :: c144 :: c145 :: c146 :: c147 :: c148 :: c149 :: c150 :: c151 :: c152 :: c153 :: c154 :: c155 :: c156 :: c157 :: c158 :: c159 :: c160 :: c161 :: c162 :: c163 :: c164 :: c165 :: c166 :: c167 :: c168 :: c169 :: c170 :: c171 :: c172 :: c173 :: c174 :: c175 :: c176 :: c177 :: c178 :: c179 :: c180 :: c181 :: c182 :: c183 :: c184 :: c185 :: c186 :: c187 :: c188 :: c189 :: c190 :: c191 :: c192 :: c193 :: c194 :: c195 :: c196 :: c197 :: c198 :: c199 :: c200 :: c201 :: c202 :: c203 :: c204 :: c205 :: c206 :: c207 :: c208 :: c209 :: c210 :: c211 :: c212 :: c213 :: c214 :: c215 :: c216 :: c217 :: c218 :: c219 :: c220 :: c221 :: c222 :: c223 :: c224 :: c225 :: c226 :: c227 :: c228 :: c229 :: c230 :: c231 :: c232 :: c233 :: c234 :: c235 :: c236 :: c237 :: c238 :: c239 :: c240 :: c241 :: c242 :: c243 :: c244 :: c245 :: c246 :: c247 :: c248 :: c249 :: c250 :: c251 :: c252 :: c253 :: c254 :: c255 :: c256 :: c257 :: c258 :: c259 :: c260 :: c261 :: c262 :: c263 :: c264 :: c265 :: c266 :: c267 :: c268 :: c269 :: c270 :: c271 :: c272 :: c273 :: c274 :: c275 :: c276 :: c277 :: c278 :: c279 :: c280 :: c281 :: c282 :: c283 :: c284 :: c285 :: c286 :: c287 :: c288 :: c289 :: c290 :: c291 :: c292 :: c293 :: c294 :: c295 :: c296 :: c297 :: c298 :: c299 :: c300 :: c301 :: c302 :: c303 :: c304 :: c305 :: c306 :: c307 :: c308 :: c309 :: c310 :: c311 :: c312 :: c313 :: c314 :: c315 :: []), []⟩ w := by
 conv => arg 2; arg 1; whnf
 have HEXIT := hide hexit
 clear hexit
 have HL0 := hide hL
 clear hL
 obtain ⟨e, he0⟩ : ∃ e : Nat, d + 1 = e := ⟨_, rfl⟩
 have hde : (d : Int) + 1 = (e : Int) := by omega
 have HE0 := hide he0
 have hdN1 : d < N := by omega
 have heN1 : e < N := by omega
 have hdN2 : (d : Int) < (N : Int) := by omega
 have heN2 : (e : Int) < (N : Int) := by omega
 have hd14 : d ≤ 14 := by omega
 have hwe : IntKind.i64.wrap (e : Int) = (e : Int) := IntWalk.i64_in _ ⟨by omega, by omega⟩
 clear he0
 go_loopw [15] (fun p wr => ∃ (k : Nat) (o2 : List (List Nat)), p = .int .i64 k ∧ k ≤ n ∧ L5S base gO N n gg ga d G C zs [x] true false out w wr k o2) (fun p _ => n - (intOf p).toNat)
 case atStart => exact ⟨0, out, rfl, by omega, uh HL0⟩
 case round =>
  obtain ⟨k, o2, rfl, hkn, hL⟩ := hrel
  have HL := hide hL
  clear hL
  by_cases hk : k < n
  ·have hk1 : (k : Int) < (n : Int) := by omega
   obtain ⟨s, hs⟩ : ∃ s, sP o2 (fun j => !keep zs j) d k = s := ⟨_, rfl⟩
   obtain ⟨t, ht⟩ : ∃ t, sQ o2 (fun j => !keep zs j) d k = t := ⟨_, rfl⟩
   obtain ⟨od, hod⟩ : ∃ q, rc o2 d k = q := ⟨_, rfl⟩
   obtain ⟨oe, hoe⟩ : ∃ q, rc o2 e k = q := ⟨_, rfl⟩
   have hs8 : s < 256 := by rw [← hs]; exact sP_lt (uh HL).o.bs
   have ht8 : t < 256 := by rw [← ht]; exact sQ_lt
   have hod8 : od < 256 := by rw [← hod]; exact (uh HL).o.bs d k
   have hoe8 : oe < 256 := by rw [← hoe]; exact (uh HL).o.bs e k
   have HS := hide hs
   have HT := hide ht
   have HOD := hide hod
   have HOE := hide hoe
   clear hs ht hod hoe
   go_wp2_with fail
   refine (rsums_to (uh HS) (uh HT) (uh HL).o (uh HL).g hdN hN16 hk).mono ?_
   rintro e9 Ws ⟨rfl, hkw⟩
   replace HL := hide ((uh HL).below hkw)
   clear hkw
   obtain ⟨h1, h4, h6⟩ := one_of has
   have hxN : x < N := by omega
   have hxN1 : (x : Int) < (N : Int) := by omega
   have HP6 := hide h6
   have HKX := hide h4
   clear h4 h6
   have HA0 : Hid (Ws.cell? ⟨ga, 0, none⟩ = some (.int .i64 (x : Int))) := ((uh HL).i (by simp)).cell (j := 0) (by simp [ints])
   have HHx := hide ((uh HL).o.head (i := x) hxN)
   have HAX : Hid (¬ ga = G x) := (uh HL).o.ine ((uh HL).i (by simp)) hxN
   have HGX : Hid (¬ gO = G x) := (uh HL).o.gne hxN
   have hgb : Ws.cell? ⟨gg, d, none⟩ = some (.bool false) := by
    have h := (uh HL).g.cell hdN1
    rwa [show (!keep zs d) = false by rw [uh HKD]; rfl] at h
   have HOL : Hid (o2.length = N ∧ ∀ i, i < N → (o2.getD i []).length = n) := ⟨(uh HL).o.len, (uh HL).o.rl⟩
   have HBS : Hid (∀ i, Bs (o2.getD i [])) := (uh HL).o.bs
   have HHd := hide ((uh HL).o.head (i := d) hdN1)
   have HBd : Hid (Ws.cell? ⟨G d, k, none⟩ = some (.int .u8 ((od : Nat) : Int))) := ((uh HL).o.byte (i := d) (k := k) hdN1 hk).trans (by rw [uh HOD])
   have HXD : Hid (¬ G d = G x) := (uh HL).o.ne hdN1 hxN (by omega)
   have hxr1 := bits_xor_u8 hs8 hod8
   obtain ⟨v, hv⟩ : ∃ q, s ^^^ od = q := ⟨_, rfl⟩
   have hv8 : v < 256 := by rw [← hv]; exact xor_lt hs8 hod8
   rw [hv] at hxr1
   have HV := hide hv
   clear hv
   go_wp2_with fail
   clear hgb
   refine wp_region_noPanic ?_
   refine wp_region_held_drew (S := fun W => Kp [G x] Ws W) (by kernel_rfl) ((Kp.refl _ _).drew) (fun hHeld => ?_)
   have HH := hide hHeld
   clear hHeld
   refine tkL 0 (uh HH) ?_
   (try simp only [layB])
   refine tkL 1 (uh HH) ?_
   (try simp only [layB])
   refine tkL 2 (uh HH) ?_
   (try simp only [layB])
   refine tkW 3 (v := ?_) ?_ (uh HH) ?_
   rotate_left 1
   ·intro W1 hSW; have hc := hSW.cell (uh HA0) (by simp; exact uh HAX); clear hSW; go_simp; all_goals (with_reducible rfl)
   (try simp only [layB])
   refine tkL 4 (uh HH) ?_
   (try simp only [layB])
   refine tkW 5 (v := ?_) ?_ (uh HH) ?_
   rotate_left 1
   ·intro W1 hSW; have hc := hSW.cell (uh HHx) (by simp; exact uh HGX); clear hSW; go_simp; all_goals (with_reducible rfl)
   (try simp only [layB])
   refine tkL 6 (uh HH) ?_
   (try simp only [layB])
   refine tkL 7 (uh HH) ?_
   (try simp only [layB])
   refine tkL 8 (uh HH) ?_
   (try simp only [layB])
   refine tkL 9 (uh HH) ?_
   (try simp only [layB])
   refine tkL 10 (uh HH) ?_
   (try simp only [layB])
   refine tkW 11 (v := ?_) ?_ (uh HH) ?_
   rotate_left 1
   ·intro W1 hSW; have hc := hSW.cell (uh HHd) (by simp; exact uh HGX); clear hSW; go_simp; all_goals (with_reducible rfl)
   (try simp only [layB])
   refine tkL 12 (uh HH) ?_
   (try simp only [layB])
   refine tkL 13 (uh HH) ?_
   (try simp only [layB])
   refine tkW 14 (v := ?_) ?_ (uh HH) ?_
   rotate_left 1
   ·intro W1 hSW; have hc := hSW.cell (uh HBd) (by simp; exact uh HXD); clear hSW; go_simp; all_goals (with_reducible rfl)
   (try simp only [layB])
   refine tkL 15 (uh HH) ?_
   (try simp only [layB])
   refine tkL 16 (uh HH) ?_
   (try simp only [layB])
   refine wpAnyH_ready (rs := [17]) (by kernel_rfl) (by simp) ?_
   refine consL rfl (fun K hK => ?_) AllReadyH.nil
   have he : Ws.cell? ⟨G x, k, none⟩ = some (.int .u8 ((rc o2 x k : Nat) : Int)) := (uh HL).o.byte hxN hk
   have hf4 : Ws.frozen? ⟨G x, k, none⟩ = false := ((uh HL).o.rows x hxN).free
   go_simp
   have HL2 : Hid (L5S base gO N n gg ga d G C zs [x] true false out w (Ws.setCell ⟨G x, k, none⟩ (.int .u8 (v : Int))).drew k _) := ((uh HL).set hxN (uh HKX) hk hv8).drew
   have HKW2 : Hid (Kp [G x] Ws (Ws.setCell ⟨G x, k, none⟩ (.int .u8 (v : Int))).drew) := ((Kp.refl [G x] Ws).setCell ⟨G x, k, none⟩ (.int .u8 (v : Int)) (.inl (by simp))).drew
   refine hK.out _ _ (uh HKW2) (fun hHeld => ?_)
   clear hHeld hK K HH he hf4 HKW2
   (try simp only [layB])
   refine wpAnyH_done (by kernel_rfl) ?_ _
   refine NoPanic.normal ?_
   clear hxr1 HA0 HHx HHd HBd
   have HGD : Hid (Gd true false d (o2.set x ((o2.getD x []).set k v)) k) := gd_oneP (out := o2) (v := v) (fun i => by rw [rc_store (by rw [(uh HOL).1]; exact hxN) ((uh HOL).2 x hxN) hk]; simp) h1 (uh HP6) (by rw [uh HS, uh HOD, uh HV])
   clear HL
   have HL := HL2
   clear HL2
   generalize (Ws.setCell ⟨G x, k, none⟩ (.int .u8 (v : Int))).drew = W5 at HL ⊢
   go_wp2_with fail
   go_roundw
   case rel => exact ⟨k + 1, _, by go_num, by omega, (uh HL).next (uh HGD)⟩
   case measure => simp [intOf]; omega
  have hk2 : k = n := by omega
  subst hk2
  go_wp2_with fail
  refine uh HEXIT _ _ _ _ _ _ _ _ _ _ _ _ _ _ _ _ _ _ _ _ _ _ _ _ _ _ _ _ _ _ _ _ _ _ _ _ _ _ _ _ _ _ _ _ _ _ _ _ _ _ _ _ _ _ _ _ _ _ _ _ _ _ _ _ _ _ _ _ _ _ _ _ _ _ _ _ _ _ _ _ _ _ _ _ _ _ _ _ _ _ _ _ _ _ _ _ _ _ _ _ _ _ _ _ _ _ _ _ _ _ _ _ _ _ _ _ _ _ _ _ _ _ _ _ _ _ _ _ _ _ _ _ _ _ _ _ _ _ _ _ _ _ _ _ o2 ?_
  exact uh HL
end Go.Proofs.YtjdikhelabibnaaGreat

namespace Go.Proofs.YtjdikhelabibnaaGreat
open Go.RowKit
set_option maxRecDepth 1000000 in
set_option maxHeartbeats 16000000 in
theorem fixL5c {Q : Exit → Act → World → Prop} {c0 c1 c2 c3 c4 c5 c7 c9 c11 c14 c16 c17 c18 c19 c20 c21 c22 c23 c24 c25 c26 c27 c28 c29 c30 c31 c32 c33 c34 c35 c36 c37 c38 c39 c40 c41 c42 c43 c44 c45 c46 c47 c48 c49 c50 c51 c52 c53 c54 c55 c56 c57 c58 c59 c60 c61 c62 c63 c64 c65 c66 c67 c68 c69 c70 c71 c72 c73 c74 c75 c76 c77 c78 c79 c80 c81 c82 c83 c84 c85 c86 c87 c88 c89 c90 c91 c92 c93 c94 c95 c96 c97 c98 c99 c100 c101 c102 c103 c104 c105 c106 c107 c108 c109 c110 c111 c112 c113 c114 c115 c116 c117 c118 c119 c120 c121 c122 c123 c124 c125 c126 c127 c128 c129 c130 c131 c132 c133 c134 c135 c136 c137 c138 c139 c140 c141 c142 c143 c144 c145 c146 c147 c148 c149 c150 c151 c152 c153 c154 c155 c156 c157 c158 c159 c160 c161 c162 c163 c164 c165 c166 c167 c168 c169 c170 c171 c172 c173 c174 c175 c176 c177 c178 c179 c180 c181 c182 c183 c184 c185 c186 c187 c188 c189 c190 c191 c192 c193 c194 c195 c196 c197 c198 c199 c200 c201 c202 c203 c204 c205 c206 c207 c208 c209 c210 c211 c212 c213 c214 c215 c216 c217 c218 c219 c220 c221 c222 c223 c224 c225 c226 c227 c228 c229 c230 c231 c232 c233 c234 c235 c236 c237 c238 c239 c240 c241 c242 c243 c244 c245 c246 c247 c248 c249 c250 c251 c252 c253 c254 c255 c256 c257 c258 c259 c260 c261 c262 c263 c264 c265 c266 c267 c268 c269 c270 c271 c272 c273 c274 c275 c276 c277 c278 c279 c280 c281 c282 c283 c284 c285 c286 c287 c288 c289 c290 c291 c292 c293 c294 c295 c296 c297 c298 c299 c300 c301 c302 c303 c304 c305 c306 c307 c308 c309 c310 c311 c312 c313 c314 c315 : Value} {w : World} {base gO N n gg ga d cO ca x : Nat} {G C : Nat → Nat} {zs : List Int} {out : List (List Nat)} (hN4 : 4 ≤ N) (hN16 : N ≤ 16) (hdN : d + 2 = N) (hn : n ≤ 100000) (hL : L5S base gO N n gg ga d G C zs [x] false true out w w 0 out) (has : lostL zs d = [x]) (HKD : Hid (keep zs d = false))
  (hexit : ∀ (u15 u16 u17 u18 u19 u20 u21 u154 u155 u156 u157 u158 u159 u160 u161 u162 u163 u164 u165 u166 u167 u168 u169 u170 u171 u172 u173 u174 u175 u176 u177 u178 u179 u180 u181 u182 u183 u184 u185 u186 u187 u188 u189 u190 u191 u192 u193 u194 u195 u196 u197 u198 u199 u200 u201 u202 u203 u204 u205 u206 u207 u208 u209 u210 u211 u212 u213 u214 u215 u216 u217 u218 u219 u220 u221 u222 u223 u224 u225 u226 u227 u228 u229 u230 u231 u232 u233 u234 u235 u236 u237 u238 u239 u240 u241 u242 u243 u244 u245 u246 u247 u248 u249 u250 u251 u252 u253 u254 u255 u256 u257 u258 u259 u260 u261 u262 u263 u264 u265 u266 u267 u268 u269 u270 u271 u272 u273 u274 u275 u276 u277 u278 u279 u280 u281 u282 u283 u284 u285 u286 u287 u288 u289 : Value) (wr : World) (o2 : List (List Nat)), L5S base gO N n gg ga d G C zs [x] false true out w wr n o2 → Q (.exit 8) ⟨List.toArray (c0 :: c1 :: c2 :: c3 :: c4 :: c5 :: (.slice (some ⟨gg, 0, none⟩) N N) :: c7 :: (.int .i64 (n : Int)) :: c9 :: (.slice (some ⟨gO, 0, none⟩) N cO) :: c11 :: (.int .i64 (d : Int)) :: (.slice (some ⟨ga, 0, none⟩) 1 ca) :: c14 :: u15 :: u16 :: u17 :: u18 :: u19 :: u20 :: u21 :: c22 :: c23 :: c24 :: c25 :: c26 :: c27 :: c28 :: c29 :: c30 :: c31 :: c32 :: c33 :: c34 :: c35 :: c36 :: c37 :: c38 :: c39 :: c40 :: c41 :: c42 :: c43 :: c44 :: c45 :: c46 :: c47 :: c48 :: c49 :: c50 :: c51 :: c52 :: c53 :: c54 :: c55 :: c56 :: c57 :: c58 :: c59 :: c60 :: c61 :: c62 :: c63 :: c64 :: c65 :: c66 :: c67 :: c68 :: c69 :: c70 :: c71 :: c72 :: c73 :: c74 :: c75 :: c76 :: c77 :: c78 :: c79 :: c80 :: c81 :: c82 :: c83 :: c84 :: c85 :: c86 :: c87 :: c88 :: c89 :: c90 :: c91 :: c92 :: c93 :: c94 :: c95 :: c96 :: c97 :: c98 :: c99 :: c100 :: c101 :: c102 :: c103 :: c104 :: c105 :: c106 :: c107 :: c108 :: c109 :: c110 :: c111 :: c112 :: c113 :: c114 :: c115 :: c116 :: c117 :: c118 :: c119 :: c120 :: c121 :: c122 :: c123 :: c124 :: c125 :: c126 :: c127 :: c128 :: c129 :: c130 :: c131 :: c132 :: c133 :: c134 :: c135 :: c136 :: c137 :: c138 :: c139 :: c140 :: c141 :: c142 :: c143 :: c144 :: c145 :: c146 :: c147 :: c148 :: c149 :: c150 :: c151 :: c152 :: c153 :: u154 :: u155 :: u156 :: u157 :: u158 :: u159 :: u160 :: u161 :: u162 :: u163 :: u164 :: u165 :: u166 :: u167 :: u168 :: u169 :: u170 :: u171 :: u172 :: u173 :: u174 :: u175 :: u176 :: u177 :: u178 :: u179 :: u180 :: u181 :: u182 :: u183 :: u184 :: u185 :: u186 :: u187 :: u188 :: u189 :: u190 :: u191 :: u192 :: u193 :: u194 :: u195 :: u196 :: u197 :: u198 :: u199 :: u200 :: u201 :: u202 :: u203 :: u204 :: u205 :: u206 :: u207 :: u208 :: u209 :: u210 :: u211 :: u212 :: u213 :: u214 :: u215 :: u216 :: u217 :: u218 :: u219 :: u220 :: u221 :: u222 :: u223 :: u224 :: u225 :: u226 :: u227 :: u228 :: u229 :: u230 :: u231 :: u232 :: u233 :: u234 :: u235 :: u236 :: u237 :: u238 :: u239 :: u240 :: u241 :: u242 :: u243 :: u244 :: u245 :: u246 :: u247 :: u248 :: u249 :: u250 :: u251 :: u252 :: u253 :: u254 :: u255 :: u256 :: u257 :: u258 :: u259 :: u260 :: u261 :: u262 :: u263 :: u264 :: u265 :: u266 :: u267 :: u268 :: u269 :: u270 :: u271 :: u272 :: u273 :: u274 :: u275 :: u276 :: u277 :: u278 :: u279 :: u280 :: u281 :: u282 :: u283 :: u284 :: u285 :: u286 :: u287 :: u288 :: u289 :: c290 :: c291 :: c292 :: c293 :: c294 :: c295 :: c296 :: c297 :: c298 :: c299 :: c300 :: c301 :: c302 :: c303 :: c304 :: c305 :: c306 :: c307 :: c308 :: c309 :: c310 :: c311 :: c312 :: c313 :: c314 :: c315 :: []), []⟩ wr)
  : Code.wp Tryz.prog (Code.loop (fixLoop 4)) Q ⟨List.toArray (c0 :: c1 :: c2 :: c3 :: c4 :: c5 :: (.slice (some ⟨gg, 0, none⟩) N N) :: c7 :: (.int .i64 (n : Int)) :: c9 :: (.slice (some ⟨gO, 0, none⟩) N cO) :: c11 :: (.int .i64 (d : Int)) :: (.slice (some ⟨ga, 0, none⟩) 1 ca) :: c14 :: (.int .i64 0) :: c16 :: c17 :: c18 :: c19 :: c20 :: c21 :: c22 :: c23 :: c24 :: c25 :: c26 :: c27 :: c28 :: c29 :: c30 :: c31 :: c32 :: c33 :: c34 :: c35 :: c36 :: c37 :: c38 :: c39 :: c40 :: c41 :: c42 :: c43 :: c44 :: c45 :: c46 :: c47 :: c48 :: c49 :: c50 :: c51 :: c52 :: c53 :: c54 :: c55 :: c56 :: c57 :: c58 :: c59 :: c60 :: c61 :: c62 :: c63 :: c64 :: c65 :: c66 :: c67 :: c68 :: c69 :: c70 :: c71 :: c72 :: c73 :: c74 :: c75 :: c76 :: c77 :: c78 :: c79 :: c80 :: c81 :: c82 :: c83 :: c84 :: c85 :: c86 :: c87 :: c88 :: c89 :: c90 :: c91 :: c92 :: c93 :: c94 :: c95 :: c96 :: c97 :: c98 :: c99 :: c100 :: c101 :: c102 :: c103 :: c104 :: c105 :: c106 :: c107 :: c108 :: c109 :: c110 :: c111 :: c112 :: c113 :: c114 :: c115 :: c116 :: c117 :: c118 :: c119 :: c120 :: c121 :: c122 :: c123 :: c124 :: c125 :: c126 :: c127 :: c128 :: c129 :: c130 :: c131 :: c132 :: c133 :: c134 :: c135 :: c136 :: c137 :: c138 :: c139 :: c140 :: c141 :: c142 :: c143 :: c144 :: c145 :: c146 :: c147 :: c148 :: c149 :: c150 :: c151 :: c152 :: c153 :: c154 :: c155 :: c156 :: c157 :: c158 :: c159 :: c160 :: c161 :: c162 :: c163 :: c164 :: c165 :: c166 :: c167 :: c168 :: c169 :: c170 :: c171 :: c172 :: c173 :: c174 :: c175 :: c176 :: c177 :: c178 :: c179 :: c180 :: c181 :: c182 :: c183 :: c184 :: c185 :: c186 :: c187 :: c188 :: c189 :: c190 :: c191 :: c192 :: c193 :: c194 :: c195 :: c196 :: c197 :: c198 :: c199 :: c200 :: c201 :: c202 :: c203 :: c204 :: c205 :: c206 :: c207 :: c208 :: c209 :: c210 :: c211 :: c212 :: c213 :: c214 :: c215 :: c216 :: c217 :: c218 :: c219 :: c220 :: c221 :: c222 :: c223 :: c224 :: c225 :: c226 :: c227 :: c228 :: c229 :: c230 :: c231 :: c232 :: c233 :: c234 :: c235 :: c236 :: c237 :: c238 :: c239 :: c240 :: c241 :: c242 :: c243 :: c244 :: c245 :: c246 :: c247 :: c248 :: c249 :: c250 :: c251 :: c252 :: c253 :: c254 :: c255 :: c256 :: c257 :: c258 :: c259 :: c260 :: c261 :: c262 :: c263 :: c264 :: c265 :: c266 :: c267 :: c268 :: c269 :: c270 :: c271 :: c272 :: c273 :: c274 :: c275 :: c276 :: c277 :: c278 :: c279 :: c280 :: c281 :: c282 :: c283 :: c284 :: c285 :: c286 :: c287 :: c288 :: c289 :: c290 :: c291 :: c292 :: c293 :: c294 :: c295 :: c296 :: c297 :: c298 :: c299 :: c300 :: c301 :: c302 :: c303 :: c304 :: c305 :: c306 :: c307 :: c308 :: c309 :: c310 :: c311 :: c312 :: c313 :: c314 :: c315 :: []), []⟩ w := by
 conv => arg 2; arg 1; whnf
 have HEXIT := hide hexit
 clear hexit
 have HL0 := hide hL
 clear hL
 obtain ⟨e, he0⟩ : ∃ e : Nat, d + 1 = e := ⟨_, rfl⟩
 have hde : (d : Int) + 1 = (e : Int) := by omega
 have HE0 := hide he0
 have hdN1 : d < N := by omega
 have heN1 : e < N := by omega
 have hdN2 : (d : Int) < (N : Int) := by omega
 have heN2 : (e : Int) < (N : Int) := by omega
 have hd14 : d ≤ 14 := by omega
 have hwe : IntKind.i64.wrap (e : Int) = (e : Int) := IntWalk.i64_in _ ⟨by omega, by omega⟩
 clear he0
 go_loopw [15] (fun p wr => ∃ (k : Nat) (o2 : List (List Nat)), p = .int .i64 k ∧ k ≤ n ∧ L5S base gO N n gg ga d G C zs [x] false true out w wr k o2) (fun p _ => n - (intOf p).toNat)
 case atStart => exact ⟨0, out, rfl, by omega, uh HL0⟩
 case round =>
  obtain ⟨k, o2, rfl, hkn, hL⟩ := hrel
  have HL := hide hL
  clear hL
  by_cases hk : k < n
  ·have hk1 : (k : Int) < (n : Int) := by omega
   obtain ⟨s, hs⟩ : ∃ s, sP o2 (fun j => !keep zs j) d k = s := ⟨_, rfl⟩
   obtain ⟨t, ht⟩ : ∃ t, sQ o2 (fun j => !keep zs j) d k = t := ⟨_, rfl⟩
   obtain ⟨od, hod⟩ : ∃ q, rc o2 d k = q := ⟨_, rfl⟩
   obtain ⟨oe, hoe⟩ : ∃ q, rc o2 e k = q := ⟨_, rfl⟩
   have hs8 : s < 256 := by rw [← hs]; exact sP_lt (uh HL).o.bs
   have ht8 : t < 256 := by rw [← ht]; exact sQ_lt
   have hod8 : od < 256 := by rw [← hod]; exact (uh HL).o.bs d k
   have hoe8 : oe < 256 := by rw [← hoe]; exact (uh HL).o.bs e k
   have HS := hide hs
   have HT := hide ht
   have HOD := hide hod
   have HOE := hide hoe
   clear hs ht hod hoe
   go_wp2_with fail
   refine (rsums_to (uh HS) (uh HT) (uh HL).o (uh HL).g hdN hN16 hk).mono ?_
   rintro e9 Ws ⟨rfl, hkw⟩
   replace HL := hide ((uh HL).below hkw)
   clear hkw
   obtain ⟨h1, h4, h6⟩ := one_of has
   have hxN : x < N := by omega
   have hxN1 : (x : Int) < (N : Int) := by omega
   have HP6 := hide h6
   have HKX := hide h4
   clear h4 h6
   have HA0 : Hid (Ws.cell? ⟨ga, 0, none⟩ = some (.int .i64 (x : Int))) := ((uh HL).i (by simp)).cell (j := 0) (by simp [ints])
   have HHx := hide ((uh HL).o.head (i := x) hxN)
   have HAX : Hid (¬ ga = G x) := (uh HL).o.ine ((uh HL).i (by simp)) hxN
   have HGX : Hid (¬ gO = G x) := (uh HL).o.gne hxN
   have hgb : Ws.cell? ⟨gg, d, none⟩ = some (.bool true) := by
    have h := (uh HL).g.cell hdN1
    rwa [show (!keep zs d) = true by rw [uh HKD]; rfl] at h
   have HOL : Hid (o2.length = N ∧ ∀ i, i < N → (o2.getD i []).length = n) := ⟨(uh HL).o.len, (uh HL).o.rl⟩
   have HBS : Hid (∀ i, Bs (o2.getD i [])) := (uh HL).o.bs
   have HHe := hide ((uh HL).o.head (i := e) heN1)
   have HBe : Hid (Ws.cell? ⟨G e, k, none⟩ = some (.int .u8 ((oe : Nat) : Int))) := ((uh HL).o.byte (i := e) (k := k) heN1 hk).trans (by rw [uh HOE])
   have HXE : Hid (¬ G e = G x) := (uh HL).o.ne heN1 hxN (by have := uh HE0; omega)
   obtain ⟨ex, hex⟩ : ∃ q, E x = q := ⟨_, rfl⟩
   have hx8 : ex < 256 := by rw [← hex]; exact E_lt _
   have HX := hide hex
   clear hex
   have hxr1 := bits_xor_u8 ht8 hoe8
   obtain ⟨qq, hqq⟩ : ∃ q, t ^^^ oe = q := ⟨_, rfl⟩
   have hqq8 : qq < 256 := by rw [← hqq]; exact xor_lt ht8 hoe8
   rw [hqq] at hxr1
   obtain ⟨iv, hiv⟩ : ∃ q, pw ex (-1) = q := ⟨_, rfl⟩
   have hiv8 : iv < 256 := by rw [← hiv]; exact pw_lt _ _
   obtain ⟨v, hv⟩ : ∃ q, gmul qq iv = q := ⟨_, rfl⟩
   have hv8 : v < 256 := by rw [← hv]; exact gmul_lt hqq8
   have HQQ := hide hqq
   have HIV := hide hiv
   have HV := hide hv
   clear hqq hiv hv
   go_wp2_with fail
   clear hgb
   refine wp_region_noPanic ?_
   refine wp_region_held_drew (S := fun W => Kp [G x] Ws W) (by kernel_rfl) ((Kp.refl _ _).drew) (fun hHeld => ?_)
   have HH := hide hHeld
   clear hHeld
   refine tkL 0 (uh HH) ?_
   (try simp only [layB])
   refine tkL 1 (uh HH) ?_
   (try simp only [layB])
   refine tkL 2 (uh HH) ?_
   (try simp only [layB])
   refine tkW 3 (v := ?_) ?_ (uh HH) ?_
   rotate_left 1
   ·intro W1 hSW; have hc := hSW.cell (uh HA0) (by simp; exact uh HAX); clear hSW; go_simp; all_goals (with_reducible rfl)
   (try simp only [layB])
   refine tkL 4 (uh HH) ?_
   (try simp only [layB])
   refine tkW 5 (v := ?_) ?_ (uh HH) ?_
   rotate_left 1
   ·intro W1 hSW; have hc := hSW.cell (uh HHx) (by simp; exact uh HGX); clear hSW; go_simp; all_goals (with_reducible rfl)
   (try simp only [layB])
   refine tkL 6 (uh HH) ?_
   (try simp only [layB])
   refine tkL 7 (uh HH) ?_
   (try simp only [layB])
   refine tkL 8 (uh HH) ?_
   (try simp only [layB])
   refine tkL 9 (uh HH) ?_
   (try simp only [layB])
   refine tkL 10 (uh HH) ?_
   (try simp only [layB])
   refine tkL 11 (uh HH) ?_
   (try simp only [layB])
   refine tkW 12 (v := ?_) ?_ (uh HH) ?_
   rotate_left 1
   ·intro W1 hSW; have hc := hSW.cell (uh HHe) (by simp; exact uh HGX); clear hSW; go_simp; all_goals (with_reducible rfl)
   (try simp only [layB])
   refine tkL 13 (uh HH) ?_
   (try simp only [layB])
   refine tkL 14 (uh HH) ?_
   (try simp only [layB])
   refine tkW 15 (v := ?_) ?_ (uh HH) ?_
   rotate_left 1
   ·intro W1 hSW; have hc := hSW.cell (uh HBe) (by simp; exact uh HXE); clear hSW; go_simp; all_goals (with_reducible rfl)
   (try simp only [layB])
   refine tkL 16 (uh HH) ?_
   (try simp only [layB])
   refine tkL 17 (uh HH) ?_
   (try simp only [layB])
   refine tkL 18 (uh HH) ?_
   (try simp only [layB])
   refine tkW 19 (v := ?_) ?_ (uh HH) ?_
   rotate_left 1
   ·intro W1 hSW; have hc := hSW.cell (uh HA0) (by simp; exact uh HAX); clear hSW; go_simp; all_goals (with_reducible rfl)
   (try simp only [layB])
   refine wpAnyH_ready (rs := [20]) (by kernel_rfl) (by simp) ?_
   refine consL rfl (fun K hK => ?_) AllReadyH.nil
   go_simp
   refine (rexp_to (uh HX) _).mono ?_
   rintro e w9 ⟨rfl, hw9⟩
   subst hw9
   go_wp2_with fail
   refine hK.out _ _ (uh HH) (fun hHeld => ?_)
   clear hK K HH
   have HH := hide hHeld
   clear hHeld
   (try simp only [layB])
   refine wpAnyH_ready (rs := [21]) (by kernel_rfl) (by simp) ?_
   refine consL rfl (fun K hK => ?_) AllReadyH.nil
   go_simp
   refine (rinv_to (uh HIV) hx8 _).mono ?_
   rintro e w9 ⟨rfl, hw9⟩
   subst hw9
   go_wp2_with fail
   refine hK.out _ _ (uh HH) (fun hHeld => ?_)
   clear hK K HH
   have HH := hide hHeld
   clear hHeld
   (try simp only [layB])
   refine wpAnyH_ready (rs := [22]) (by kernel_rfl) (by simp) ?_
   refine consL rfl (fun K hK => ?_) AllReadyH.nil
   go_simp
   refine (rmul_to (uh HV) hqq8 hiv8 _).mono ?_
   rintro e w9 ⟨rfl, hw9⟩
   subst hw9
   go_wp2_with fail
   refine hK.out _ _ (uh HH) (fun hHeld => ?_)
   clear hK K HH
   have HH := hide hHeld
   clear hHeld
   (try simp only [layB])
   refine tkL 23 (uh HH) ?_
   (try simp only [layB])
   refine wpAnyH_ready (rs := [24]) (by kernel_rfl) (by simp) ?_
   refine consL rfl (fun K hK => ?_) AllReadyH.nil
   have he : Ws.cell? ⟨G x, k, none⟩ = some (.int .u8 ((rc o2 x k : Nat) : Int)) := (uh HL).o.byte hxN hk
   have hf4 : Ws.frozen? ⟨G x, k, none⟩ = false := ((uh HL).o.rows x hxN).free
   go_simp
   have HL2 : Hid (L5S base gO N n gg ga d G C zs [x] false true out w (Ws.setCell ⟨G x, k, none⟩ (.int .u8 (v : Int))).drew k _) := ((uh HL).set hxN (uh HKX) hk hv8).drew
   have HKW2 : Hid (Kp [G x] Ws (Ws.setCell ⟨G x, k, none⟩ (.int .u8 (v : Int))).drew) := ((Kp.refl [G x] Ws).setCell ⟨G x, k, none⟩ (.int .u8 (v : Int)) (.inl (by simp))).drew
   refine hK.out _ _ (uh HKW2) (fun hHeld => ?_)
   clear hHeld hK K HH he hf4 HKW2
   (try simp only [layB])
   refine wpAnyH_done (by kernel_rfl) ?_ _
   refine NoPanic.normal ?_
   clear hxr1 HA0 HHx HHe HBe
   have HGD : Hid (Gd false true d (o2.set x ((o2.getD x []).set k v)) k) := by
    refine gd_oneQ (out := o2) (v := v) (q := qq) (fun i => by rw [rc_store (by rw [(uh HOL).1]; exact hxN) ((uh HOL).2 x hxN) hk]; simp) h1 (uh HP6) (uh HBS) (by rw [uh HT, uh HE0, uh HOE, uh HQQ]) ?_
    rw [uh HX, uh HIV, uh HV]
   clear HL
   have HL := HL2
   clear HL2
   generalize (Ws.setCell ⟨G x, k, none⟩ (.int .u8 (v : Int))).drew = W5 at HL ⊢
   go_wp2_with fail
   go_roundw
   case rel => exact ⟨k + 1, _, by go_num, by omega, (uh HL).next (uh HGD)⟩
   case measure => simp [intOf]; omega
  have hk2 : k = n := by omega
  subst hk2
  go_wp2_with fail
  refine uh HEXIT _ _ _ _ _ _ _ _ _ _ _ _ _ _ _ _ _ _ _ _ _ _ _ _ _ _ _ _ _ _ _ _ _ _ _ _ _ _ _ _ _ _ _ _ _ _ _ _ _ _ _ _ _ _ _ _ _ _ _ _ _ _ _ _ _ _ _ _ _ _ _ _ _ _ _ _ _ _ _ _ _ _ _ _ _ _ _ _ _ _ _ _ _ _ _ _ _ _ _ _ _ _ _ _ _ _ _ _ _ _ _ _ _ _ _ _ _ _ _ _ _ _ _ _ _ _ _ _ _ _ _ _ _ _ _ _ _ _ _ _ _ _ _ _ o2 ?_
  exact uh HL
end Go.Proofs.YtjdikhelabibnaaGreat

namespace Go.Proofs.YtjdikhelabibnaaGreat
open Go.RowKit
set_option maxRecDepth 1000000 in
set_option maxHeartbeats 16000000 in
theorem fixL5d {Q : Exit → Act → World → Prop} {c0 c1 c2 c3 c4 c5 c7 c9 c11 c14 c16 c17 c18 c19 c20 c21 c22 c23 c24 c25 c26 c27 c28 c29 c30 c31 c32 c33 c34 c35 c36 c37 c38 c39 c40 c41 c42 c43 c44 c45 c46 c47 c48 c49 c50 c51 c52 c53 c54 c55 c56 c57 c58 c59 c60 c61 c62 c63 c64 c65 c66 c67 c68 c69 c70 c71 c72 c73 c74 c75 c76 c77 c78 c79 c80 c81 c82 c83 c84 c85 c86 c87 c88 c89 c90 c91 c92 c93 c94 c95 c96 c97 c98 c99 c100 c101 c102 c103 c104 c105 c106 c107 c108 c109 c110 c111 c112 c113 c114 c115 c116 c117 c118 c119 c120 c121 c122 c123 c124 c125 c126 c127 c128 c129 c130 c131 c132 c133 c134 c135 c136 c137 c138 c139 c140 c141 c142 c143 c144 c145 c146 c147 c148 c149 c150 c151 c152 c153 c154 c155 c156 c157 c158 c159 c160 c161 c162 c163 c164 c165 c166 c167 c168 c169 c170 c171 c172 c173 c174 c175 c176 c177 c178 c179 c180 c181 c182 c183 c184 c185 c186 c187 c188 c189 c190 c191 c192 c193 c194 c195 c196 c197 c198 c199 c200 c201 c202 c203 c204 c205 c206 c207 c208 c209 c210 c211 c212 c213 c214 c215 c216 c217 c218 c219 c220 c221 c222 c223 c224 c225 c226 c227 c228 c229 c230 c231 c232 c233 c234 c235 c236 c237 c238 c239 c240 c241 c242 c243 c244 c245 c246 c247 c248 c249 c250 c251 c252 c253 c254 c255 c256 c257 c258 c259 c260 c261 c262 c263 c264 c265 c266 c267 c268 c269 c270 c271 c272 c273 c274 c275 c276 c277 c278 c279 c280 c281 c282 c283 c284 c285 c286 c287 c288 c289 c290 c291 c292 c293 c294 c295 c296 c297 c298 c299 c300 c301 c302 c303 c304 c305 c306 c307 c308 c309 c310 c311 c312 c313 c314 c315 : Value} {w : World} {base gO N n gg ga d cO ca : Nat} {va : Option Addr} {G C : Nat → Nat} {zs : List Int} {out : List (List Nat)} (hN4 : 4 ≤ N) (hN16 : N ≤ 16) (hdN : d + 2 = N) (hn : n ≤ 100000) (hL : L5S base gO N n gg ga d G C zs [] false false out w w 0 out)
  (hexit : ∀ (u15 u16 u17 u18 u19 u20 u21 u154 u155 u156 u157 u158 u159 u160 u161 u162 u163 u164 u165 u166 u167 u168 u169 u170 u171 u172 u173 u174 u175 u176 u177 u178 u179 u180 u181 u182 u183 u184 u185 u186 u187 u188 u189 u190 u191 u192 u193 u194 u195 u196 u197 u198 u199 u200 u201 u202 u203 u204 u205 u206 u207 u208 u209 u210 u211 u212 u213 u214 u215 u216 u217 u218 u219 u220 u221 u222 u223 u224 u225 u226 u227 u228 u229 u230 u231 u232 u233 u234 u235 u236 u237 u238 u239 u240 u241 u242 u243 u244 u245 u246 u247 u248 u249 u250 u251 u252 u253 u254 u255 u256 u257 u258 u259 u260 u261 u262 u263 u264 u265 u266 u267 u268 u269 u270 u271 u272 u273 u274 u275 u276 u277 u278 u279 u280 u281 u282 u283 u284 u285 u286 u287 u288 u289 : Value) (wr : World) (o2 : List (List Nat)), L5S base gO N n gg ga d G C zs [] false false out w wr n o2 → Q (.exit 8) ⟨List.toArray (c0 :: c1 :: c2 :: c3 :: c4 :: c5 :: (.slice (some ⟨gg, 0, none⟩) N N) :: c7 :: (.int .i64 (n : Int)) :: c9 :: (.slice (some ⟨gO, 0, none⟩) N cO) :: c11 :: (.int .i64 (d : Int)) :: (.slice va 0 ca) :: c14 :: u15 :: u16 :: u17 :: u18 :: u19 :: u20 :: u21 :: c22 :: c23 :: c24 :: c25 :: c26 :: c27 :: c28 :: c29 :: c30 :: c31 :: c32 :: c33 :: c34 :: c35 :: c36 :: c37 :: c38 :: c39 :: c40 :: c41 :: c42 :: c43 :: c44 :: c45 :: c46 :: c47 :: c48 :: c49 :: c50 :: c51 :: c52 :: c53 :: c54 :: c55 :: c56 :: c57 :: c58 :: c59 :: c60 :: c61 :: c62 :: c63 :: c64 :: c65 :: c66 :: c67 :: c68 :: c69 :: c70 :: c71 :: c72 :: c73 :: c74 :: c75 :: c76 :: c77 :: c78 :: c79 :: c80 :: c81 :: c82 :: c83 :: c84 :: c85 :: c86 :: c87 :: c88 :: c89 :: c90 :: c91 :: c92 :: c93 :: c94 :: c95 :: c96 :: c97 :: c98 :: c99 :: c100 :: c101 :: c102 :: c103 :: c104 :: c105 :: c106 :: c107 :: c108 :: c109 :: c110 :: c111 :: c112 :: c113 :: c114 :: c115 :: c116 :: c117 :: c118 :: c119 :: c120 :: c121 :: c122 :: c123 :: c124 :: c125 :: c126 :: c127 :: c128 :: c129 :: c130 :: c131 :: c132 :: c133 :: c134 :: c135 :: c136 :: c137 :: c138 :: c139 :: c140 :: c141 :: c142 :: c143 :: c144 :: c145 :: c146 :: c147 :: c148 :: c149 :: c150 :: c151 :: c152 :: c153 :: u154 :: u155 :: u156 :: u157 :: u158 :: u159 :: u160 :: u161 :: u162 :: u163 :: u164 :: u165 :: u166 :: u167 :: u168 :: u169 :: u170 :: u171 :: u172 :: u173 :: u174 :: u175 :: u176 :: u177 :: u178 :: u179 :: u180 :: u181 :: u182 :: u183 :: u184 :: u185 :: u186 :: u187 :: u188 :: u189 :: u190 :: u191 :: u192 :: u193 :: u194 :: u195 :: u196 :: u197 :: u198 :: u199 :: u200 :: u201 :: u202 :: u203 :: u204 :: u205 :: u206 :: u207 :: u208 :: u209 :: u210 :: u211 :: u212 :: u213 :: u214 :: u215 :: u216 :: u217 :: u218 :: u219 :: u220 :: u221 :: u222 :: u223 :: u224 :: u225 :: u226 :: u227 :: u228 :: u229 :: u230 :: u231 :: u232 :: u233 :: u234 :: u235 :: u236 :: u237 :: u238 :: u239 :: u240 :: u241 :: u242 :: u243 :: u244 :: u245 :: u246 :: u247 :: u248 :: u249 :: u250 :: u251 :: u252 :: u253 :: u254 :: u255 :: u256 :: u257 :: u258 :: u259 :: u260 :: u261 :: u262 :: u263 :: u264 :: u265 :: u266 :: u267 :: u268 :: u269 :: u270 :: u271 :: u272 :: u273 :: u274 :: u275 :: u276 :: u277 :: u278 :: u279 :: u280 :: u281 :: u282 :: u283 :: u284 :: u285 :: u286 :: u287 :: u288 :: u289 :: c290 :: c291 :: c292 :: c293 :: c294 :: c295 :: c296 :: c297 :: c298 :: c299 :: c300 :: c301 :: c302 :: c303 :: c304 :: c305 :: c306 :: c307 :: c308 :: c309 :: c310 :: c311 :: c312 :: c313 :: c314 :: c315 :: []), []⟩ wr)
  : Code.wp Tryz.prog (Code.loop (fixLoop 4)) Q ⟨List.toArray (c0 :: c1 :: c2 :: c3 :: c4 :: c5 :: (.slice (some ⟨gg, 0, none⟩) N N) :: c7 :: (.int .i64 (n : Int)) :: c9 :: (.slice (some ⟨gO, 0, none⟩) N cO) :: c11 :: (.int .i64 (d : Int)) :: (.slice va 0 ca) :: c14 :: (.int .i64 0) :: c16 :: c17 :: c18 :: c19 :: c20 :: c21 :: c22 :: c23 :: c24 :: c25 :: c26 :: c27 :: c28 :: c29 :: c30 :: c31 :: c32 :: c33 :: c34 :: c35 :: c36 :: c37 :: c38 :: c39 :: c40 :: c41 :: c42 :: c43 :: c44 :: c45 :: c46 :: c47 :: c48 :: c49 :: c50 :: c51 :: c52 :: c53 :: c54 :: c55 :: c56 :: c57 :: c58 :: c59 :: c60 :: c61 :: c62 :: c63 :: c64 :: c65 :: c66 :: c67 :: c68 :: c69 :: c70 :: c71 :: c72 :: c73 :: c74 :: c75 :: c76 :: c77 :: c78 :: c79 :: c80 :: c81 :: c82 :: c83 :: c84 :: c85 :: c86 :: c87 :: c88 :: c89 :: c90 :: c91 :: c92 :: c93 :: c94 :: c95 :: c96 :: c97 :: c98 :: c99 :: c100 :: c101 :: c102 :: c103 :: c104 :: c105 :: c106 :: c107 :: c108 :: c109 :: c110 :: c111 :: c112 :: c113 :: c114 :: c115 :: c116 :: c117 :: c118 :: c119 :: c120 :: c121 :: c122 :: c123 :: c124 :: c125 :: c126 :: c127 :: c128 :: c129 :: c130 :: c131 :: c132 :: c133 :: c134 :: c135 :: c136 :: c137 :: c138 :: c139 :: c140 :: c141 :: c142 :: c143 :: c144 :: c145 :: c146 :: c147 :: c148 :: c149 :: c150 :: c151 :: c152 :: c153 :: c154 :: c155 :: c156 :: c157 :: c158 :: c159 :: c160 :: c161 :: c162 :: c163 :: c164 :: c165 :: c166 :: c167 :: c168 :: c169 :: c170 :: c171 :: c172 :: c173 :: c174 :: c175 :: c176 :: c177 :: c178 :: c179 :: c180 :: c181 :: c182 :: c183 :: c184 :: c185 :: c186 :: c187 :: c188 :: c189 :: c190 :: c191 :: c192 :: c193 :: c194 :: c195 :: c196 :: c197 :: c198 :: c199 :: c200 :: c201 :: c202 :: c203 :: c204 :: c205 :: c206 :: c207 :: c208 :: c209 :: c210 :: c211 :: c212 :: c213 :: c214 :: c215 :: c216 :: c217 :: c218 :: c219 :: c220 :: c221 :: c222 :: c223 :: c224 :: c225 :: c226 :: c227 :: c228 :: c229 :: c230 :: c231 :: c232 :: c233 :: c234 :: c235 :: c236 :: c237 :: c238 :: c239 :: c240 :: c241 :: c242 :: c243 :: c244 :: c245 :: c246 :: c247 :: c248 :: c249 :: c250 :: c251 :: c252 :: c253 :: c254 :: c255 :: c256 :: c257 :: c258 :: c259 :: c260 :: c261 :: c262 :: c263 :: c264 :: c265 :: c266 :: c267 :: c268 :: c269 :: c270 :: c271 :: c272 :: c273 :: c274 :: c275 :: c276 :: c277 :: c278 :: c279 :: c280 :: c281 :: c282 :: c283 :: c284 :: c285 :: c286 :: c287 :: c288 :: c289 :: c290 :: c291 :: c292 :: c293 :: c294 :: c295 :: c296 :: c297 :: c298 :: c299 :: c300 :: c301 :: c302 :: c303 :: c304 :: c305 :: c306 :: c307 :: c308 :: c309 :: c310 :: c311 :: c312 :: c313 :: c314 :: c315 :: []), []⟩ w := by
 conv => arg 2; arg 1; whnf
 have HEXIT := hide hexit
 clear hexit
 have HL0 := hide hL
 clear hL
 obtain ⟨e, he0⟩ : ∃ e : Nat, d + 1 = e := ⟨_, rfl⟩
 have hde : (d : Int) + 1 = (e : Int) := by omega
 have HE0 := hide he0
 have hdN1 : d < N := by omega
 have heN1 : e < N := by omega
 have hdN2 : (d : Int) < (N : Int) := by omega
 have heN2 : (e : Int) < (N : Int) := by omega
 have hd14 : d ≤ 14 := by omega
 have hwe : IntKind.i64.wrap (e : Int) = (e : Int) := IntWalk.i64_in _ ⟨by omega, by omega⟩
 clear he0
 go_loopw [15] (fun p wr => ∃ (k : Nat) (o2 : List (List Nat)), p = .int .i64 k ∧ k ≤ n ∧ L5S base gO N n gg ga d G C zs [] false false out w wr k o2) (fun p _ => n - (intOf p).toNat)
 case atStart => exact ⟨0, out, rfl, by omega, uh HL0⟩
 case round =>
  obtain ⟨k, o2, rfl, hkn, hL⟩ := hrel
  have HL := hide hL
  clear hL
  by_cases hk : k < n
  ·have hk1 : (k : Int) < (n : Int) := by omega
   obtain ⟨s, hs⟩ : ∃ s, sP o2 (fun j => !keep zs j) d k = s := ⟨_, rfl⟩
   obtain ⟨t, ht⟩ : ∃ t, sQ o2 (fun j => !keep zs j) d k = t := ⟨_, rfl⟩
   obtain ⟨od, hod⟩ : ∃ q, rc o2 d k = q := ⟨_, rfl⟩
   obtain ⟨oe, hoe⟩ : ∃ q, rc o2 e k = q := ⟨_, rfl⟩
   have hs8 : s < 256 := by rw [← hs]; exact sP_lt (uh HL).o.bs
   have ht8 : t < 256 := by rw [← ht]; exact sQ_lt
   have hod8 : od < 256 := by rw [← hod]; exact (uh HL).o.bs d k
   have hoe8 : oe < 256 := by rw [← hoe]; exact (uh HL).o.bs e k
   have HS := hide hs
   have HT := hide ht
   have HOD := hide hod
   have HOE := hide hoe
   clear hs ht hod hoe
   go_wp2_with fail
   refine (rsums_to (uh HS) (uh HT) (uh HL).o (uh HL).g hdN hN16 hk).mono ?_
   rintro e9 Ws ⟨rfl, hkw⟩
   replace HL := hide ((uh HL).below hkw)
   clear hkw
   have HGD : Hid (Gd false false d o2 k) := Gd.none _ _ _
   go_wp2_with fail
   go_roundw
   case rel => exact ⟨k + 1, _, by go_num, by omega, (uh HL).next (uh HGD)⟩
   case measure => simp [intOf]; omega
  have hk2 : k = n := by omega
  subst hk2
  go_wp2_with fail
  refine uh HEXIT _ _ _ _ _ _ _ _ _ _ _ _ _ _ _ _ _ _ _ _ _ _ _ _ _ _ _ _ _ _ _ _ _ _ _ _ _ _ _ _ _ _ _ _ _ _ _ _ _ _ _ _ _ _ _ _ _ _ _ _ _ _ _ _ _ _ _ _ _ _ _ _ _ _ _ _ _ _ _ _ _ _ _ _ _ _ _ _ _ _ _ _ _ _ _ _ _ _ _ _ _ _ _ _ _ _ _ _ _ _ _ _ _ _ _ _ _ _ _ _ _ _ _ _ _ _ _ _ _ _ _ _ _ _ _ _ _ _ _ _ _ _ _ _ o2 ?_
  exact uh HL
end Go.Proofs.YtjdikhelabibnaaGreat

namespace Go.Proofs.YtjdikhelabibnaaGreat
open Go.RowKit
def gA (zs : List Int) (d : Nat) : Bool := decide (0 < (lostL zs d).length) && keep zs d
def gB (zs : List Int) (d : Nat) : Bool := decide ((lostL zs d).length = 2) || (decide ((lostL zs d).length = 1) && !keep zs d)
def fin (o : List (List Nat)) (zs : List Int) (d : Nat) (P Q : List Nat) : List (List Nat) :=
 if keep zs (d + 1) = true then (if keep zs d = true then o else o.set d P) else (if keep zs d = true then o else o.set d P).set (d + 1) Q
theorem fin_get {o : List (List Nat)} {zs : List Int} {d : Nat} {P Q : List Nat} (hl : o.length = d + 2) (i : Nat) : (fin o zs d P Q).getD i [] = if i = d + 1 ∧ keep zs (d + 1) = false then Q else if i = d ∧ keep zs d = false then P else o.getD i [] := by
 have h1 : d < o.length := by omega
 have h2 : d + 1 < o.length := by omega
 have h3 : ∀ r : List Nat, d + 1 < (o.set d r).length := fun r => by rw [List.length_set]; omega
 unfold fin
 cases hd : keep zs d <;> cases he : keep zs (d + 1) <;> simp only [Bool.false_eq_true, if_false, if_true, and_true]
 ·rw [getD_set (h3 P), getD_set h1]
  simp only [eq_comm (a := i)]
 ·rw [getD_set h1]
  simp only [eq_comm (a := i)]
  simp
 ·rw [getD_set h2]
  simp only [eq_comm (a := i)]
  simp
 simp
theorem fin_len {o : List (List Nat)} {zs : List Int} {d : Nat} {P Q : List Nat} : (fin o zs d P Q).length = o.length := by
 unfold fin
 cases keep zs d <;> cases keep zs (d + 1) <;> simp
theorem sm_aP {o : List (List Nat)} {d k : Nat} (hb : ∀ i, Bs (o.getD i [])) : sm (fun _ => 1) o (List.range d) k = aP o d k := xsum_congr (fun i _ => gmul_one (hb i k))
theorem sm_aQ {o : List (List Nat)} {d k : Nat} (hb : ∀ i, Bs (o.getD i [])) : sm E o (List.range d) k = aQ o d k := xsum_congr (fun i _ => gmul_comm (hb i k) (E_lt i))
theorem lost_at {zs : List Int} {d : Nat} {z : Int} (hz : z ∈ zs) (h0 : 0 ≤ z) (h1 : z < (d : Int)) : z.toNat ∈ lostL zs d := lostL_mem.2 ⟨by omega, by rw [Int.toNat_of_nonneg h0]; exact hz⟩
theorem keep_mem {zs : List Int} {i : Nat} : keep zs i = false ↔ (i : Int) ∈ zs := by unfold keep; simp
theorem keep_not {zs : List Int} {i : Nat} : keep zs i = true ↔ (i : Int) ∉ zs := by unfold keep; simp
theorem gA_of {zs : List Int} {d : Nat} (hb : ∀ z ∈ zs, 0 ≤ z ∧ z < ((d + 2 : Nat) : Int)) (hk : keep zs d = true) (h : ∃ z ∈ zs, z ≠ ((d + 1 : Nat) : Int)) : gA zs d = true := by
 obtain ⟨z, hz, hne⟩ := h
 have h2 := hb z hz
 have h3 : z ≠ (d : Int) := fun e => keep_not.1 hk (by rw [← e]; exact hz)
 have h4 := lost_at (d := d) hz h2.1 (by omega)
 unfold gA
 rw [hk, Bool.and_true, decide_eq_true_eq]
 exact List.length_pos_of_mem h4
theorem gB_of {zs : List Int} {d : Nat} (hb : ∀ z ∈ zs, 0 ≤ z ∧ z < ((d + 2 : Nat) : Int)) (hnd : zs.Nodup) (hk : keep zs (d + 1) = true) (h : zs.length = 2) : gB zs d = true := by
 have hm : ∀ i ∈ lostL zs d, i < d ∧ (i : Int) ∈ zs := fun i hi => lostL_mem.1 hi
 have hl := lostL_len (zs := zs) (d := d) (by omega)
 have hn := lostL_nodup zs d
 match zs, h with
 | [a, b], _ =>
  have ha := hb a (by simp)
  have hbb := hb b (by simp)
  have hab : a ≠ b := by simpa using hnd
  have hk1 := keep_not.1 hk
  simp at hk1
  have h1 : a < (d : Int) → a.toNat ∈ lostL [a, b] d := fun h => lost_at (by simp) ha.1 h
  have h2 : b < (d : Int) → b.toNat ∈ lostL [a, b] d := fun h => lost_at (by simp) hbb.1 h
  unfold gB
  cases hkd : keep [a, b] d with
  | true =>
   have hk2 := keep_not.1 hkd
   simp at hk2
   have m1 := h1 (by omega)
   have m2 := h2 (by omega)
   match hL : lostL [a, b] d with
   | [] => rw [hL] at m1; simp at m1
   | [x] =>
    rw [hL] at m1 m2
    simp at m1 m2
    omega
   | [x, y] => simp
   | _ :: _ :: _ :: _ => rw [hL] at hl; simp at hl
  | false =>
   have hk2 := keep_mem.1 hkd
   simp at hk2
   match hL : lostL [a, b] d with
   | [] =>
    rw [hL] at h1 h2
    simp at h1 h2
    omega
   | [x] => simp
   | [x, y] => simp
   | _ :: _ :: _ :: _ => rw [hL] at hl; simp at hl
theorem fix_fin {l o : List (List Nat)} {zs : List Int} {d n : Nat} (hl : l.length = d + 2) (h2 : 2 ≤ d) (hd : d ≤ 14) (hpk : pk zs (d + 2) = true) (hsz : ∀ i, i < d + 2 → keep zs i = true → (l.getD i []).length = n) (hol : o.length = d + 2) (hrl : ∀ i, i < d + 2 → (o.getD i []).length = n) (hbs : ∀ i, Bs (o.getD i []))
  (hkp : ∀ i, i < d + 2 → keep zs i = true → o.getD i [] = l.getD i []) (hgd : ∀ c, c < n → Gd (gA zs d) (gB zs d) d o c) : IsFix l zs (fin o zs d (pP (o.take d)) (pQ (o.take d))) n ∧ (pP (o.take d)).length = n ∧ (pQ (o.take d)).length = n := by
 obtain ⟨hz2, hzb, hznd⟩ := pk_parts hpk
 obtain ⟨o1, o2, o3⟩ := take_ok hol h2 hd (fun i hi => hrl i (by omega))
 obtain ⟨bP, bQ⟩ := par_bs (l := o.take d) (fun i => by
  by_cases hi : i < d
  ·rw [getD_take hi]; exact hbs i
  rw [List.getD_eq_getElem?_getD, List.getElem?_eq_none (by rw [o3]; omega)]; exact Bs.nil)
 have eP : pP (o.take d) = smL (fun _ => 1) (o.take d) (List.range d) n := by rw [(par_of o1).1, o2, o3]
 have eQ : pQ (o.take d) = smL E (o.take d) (List.range d) n := by rw [(par_of o1).2, o2, o3]
 have lP : (pP (o.take d)).length = n := by rw [eP, smL_len]
 have lQ : (pQ (o.take d)).length = n := by rw [eQ, smL_len]
 have cP : ∀ k, k < n → cf (pP (o.take d)) k = aP o d k := fun k hk => by rw [eP, cf_smL, if_pos hk, sm_take, sm_aP hbs]
 have cQ : ∀ k, k < n → cf (pQ (o.take d)) k = aQ o d k := fun k hk => by rw [eQ, cf_smL, if_pos hk, sm_take, sm_aQ hbs]
 have hfb : ∀ i, Bs ((fin o zs d (pP (o.take d)) (pQ (o.take d))).getD i []) := fun i => by
  rw [fin_get hol]
  split
  ·exact bQ
  split
  ·exact bP
  exact hbs i
 have low : ∀ i, i < d → ∀ k, rc (fin o zs d (pP (o.take d)) (pQ (o.take d))) i k = rc o i k := fun i hi k => by
  unfold rc
  rw [fin_get hol, if_neg (fun e => by omega), if_neg (fun e => by omega)]
 have fP : ∀ k, sm (fun _ => 1) (fin o zs d (pP (o.take d)) (pQ (o.take d))) (List.range d) k = aP o d k := fun k => by
  rw [← sm_aP hbs]
  exact xsum_congr (fun i hi => by rw [low i (List.mem_range.1 hi)])
 have fQ : ∀ k, sm E (fin o zs d (pP (o.take d)) (pQ (o.take d))) (List.range d) k = aQ o d k := fun k => by
  rw [← sm_aQ hbs]
  exact xsum_congr (fun i hi => by rw [low i (List.mem_range.1 hi)])
 refine ⟨⟨by rw [fin_len, hol, hl], fun i hi => hsz i (by omega), fun i hi => ?_, fun i hi hk => ?_, hfb, fun hz k hk => ?_, fun hz k hk => ?_⟩, lP, lQ⟩
 ·rw [fin_get hol]
  split
  ·exact lQ
  split
  ·exact lP
  exact hrl i (by omega)
 ·rw [fin_get hol, if_neg (fun e => by rw [e.1, e.2] at hk; cases hk), if_neg (fun e => by rw [e.1, e.2] at hk; cases hk)]
  exact hkp i (by omega) hk
 ·rw [hl] at hz ⊢
  rw [show d + 2 - 2 = d by omega] at hz ⊢
  rw [all_P hfb, fP]
  unfold rc
  rw [fin_get hol, if_neg (fun e => by omega)]
  cases hkd : keep zs d with
  | false => rw [if_pos ⟨rfl, rfl⟩, cP k hk, Nat.xor_self]
  | true =>
   rw [if_neg (fun e => by cases e.2)]
   have h := (hgd k hk).1 (gA_of hzb hkd hz)
   rw [h]
   exact Nat.xor_self _
 rw [hl] at hz ⊢
 rw [show d + 2 - 2 = d by omega] at hz ⊢
 rw [all_Q hfb, fQ]
 unfold rc
 rw [fin_get hol]
 cases hke : keep zs (d + 1) with
 | false => rw [if_pos ⟨rfl, rfl⟩, cQ k hk, Nat.xor_self]
 | true =>
  rw [if_neg (fun e => by cases e.2), if_neg (fun e => by omega)]
  have h := (hgd k hk).2 (gB_of hzb hznd hke (by
   rcases hz with h | h
   ·exact h
   exact absurd h (keep_not.1 hke)))
  rw [h]
  exact Nat.xor_self _
end Go.Proofs.YtjdikhelabibnaaGreat
