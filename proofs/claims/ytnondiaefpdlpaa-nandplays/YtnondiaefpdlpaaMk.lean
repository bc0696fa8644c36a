/-
  (Act).Do: noise.
  (Act).Do: by what is to be done.
-/
import Derived.Test.YtnondiaefpdlpaaMn
namespace Go.Proofs.Ytnondiaefpdlpaa
open Go.RowKit Go.Shelf

set_option maxRecDepth 1000000 in
set_option maxHeartbeats 16000000 in
theorem do_r27 {Q : Exit → Act → World → Prop} {c0 c4 c5 c6 c10 c11 c12 c13 c14 c15 c16 c17 c18 c19 c20 c21 c22 c23 c24 c25 c26 c27 c28 c29 c30 c31 c32 c33 c34 c35 c36 c37 c38 c39 c40 c41 c42 c43 c44 c45 c46 c47 c48 c49 c50 c51 c52 c53 c54 c55 c56 c57 c58 c59 c60 c61 c62 c63 c64 c65 c66 c67 c68 c69 c70 c71 c72 c73 c74 c75 c76 c77 c78 c79 c80 c81 c82 c83 c84 c85 c86 c87 c88 c89 c90 c91 c92 c93 c94 c95 c96 c97 c98 c99 c100 c101 c102 c103 c104 c105 c106 c107 c108 c109 c110 c111 c112 c113 c114 c115 c116 c117 c118 c119 c120 c121 c122 c123 c124 c125 c126 c127 c128 c129 c130 c131 c132 c133 c134 c135 c136 c137 c138 c139 c140 c141 c142 c143 c144 c145 c146 c147 c148 c149 c150 c151 c152 c153 c154 c155 c156 c157 c158 c159 c160 c161 c162 c163 c164 c165 c166 c167 c168 c169 c170 c171 c172 c173 c174 c175 c176 c177 c178 c179 c180 c181 c182 c183 c184 c185 c186 c187 c188 c189 c190 c191 c192 c193 c194 c195 c196 c197 c198 c199 c200 c201 c202 c203 c204 : Value} {m : Nat} {w V0 : World} {L : La} {L' : Lr} {s : Nd} {a : AD} {box : Nat} {d b p : Int} (hN : NA m V0 L s) (hR : RA m V0 L' s) (hW : DoW m w V0 a box)  (hret : ∀ (vals : Array Value) (W' : World), vals[6]? = some (.bool true) → DoPost m w L.n L'.n s W' → Q .normal ⟨vals, []⟩ W')
    : Code.wp Try.prog do27 Q ⟨List.toArray (c0 :: (.pointer (some ⟨L.n, 0, none⟩)) :: (.pointer (some ⟨L'.n, 0, none⟩)) :: (.pointer (some ⟨box, 0, none⟩)) :: c4 :: c5 :: c6 :: (.int .i64 d) :: (.int .i64 b) :: (.int .i64 p) :: c10 :: c11 :: c12 :: c13 :: c14 :: c15 :: c16 :: c17 :: c18 :: c19 :: c20 :: c21 :: c22 :: c23 :: c24 :: c25 :: c26 :: c27 :: c28 :: c29 :: c30 :: c31 :: c32 :: c33 :: c34 :: c35 :: c36 :: c37 :: c38 :: c39 :: c40 :: c41 :: c42 :: c43 :: c44 :: c45 :: c46 :: c47 :: c48 :: c49 :: c50 :: c51 :: c52 :: c53 :: c54 :: c55 :: c56 :: c57 :: c58 :: c59 :: c60 :: c61 :: c62 :: c63 :: c64 :: c65 :: c66 :: c67 :: c68 :: c69 :: c70 :: c71 :: c72 :: c73 :: c74 :: c75 :: c76 :: c77 :: c78 :: c79 :: c80 :: c81 :: c82 :: c83 :: c84 :: c85 :: c86 :: c87 :: c88 :: c89 :: c90 :: c91 :: c92 :: c93 :: c94 :: c95 :: c96 :: c97 :: c98 :: c99 :: c100 :: c101 :: c102 :: c103 :: c104 :: c105 :: c106 :: c107 :: c108 :: c109 :: c110 :: c111 :: c112 :: c113 :: c114 :: c115 :: c116 :: c117 :: c118 :: c119 :: c120 :: c121 :: c122 :: c123 :: c124 :: c125 :: c126 :: c127 :: c128 :: c129 :: c130 :: c131 :: c132 :: c133 :: c134 :: c135 :: c136 :: c137 :: c138 :: c139 :: c140 :: c141 :: c142 :: c143 :: c144 :: c145 :: c146 :: c147 :: c148 :: c149 :: c150 :: c151 :: c152 :: c153 :: c154 :: c155 :: c156 :: c157 :: c158 :: c159 :: c160 :: c161 :: c162 :: c163 :: c164 :: c165 :: c166 :: c167 :: c168 :: c169 :: c170 :: c171 :: c172 :: c173 :: c174 :: c175 :: c176 :: c177 :: c178 :: c179 :: c180 :: c181 :: c182 :: c183 :: c184 :: c185 :: c186 :: c187 :: c188 :: c189 :: c190 :: c191 :: c192 :: c193 :: c194 :: c195 :: c196 :: c197 :: c198 :: c199 :: c200 :: c201 :: c202 :: c203 :: c204 :: []), []⟩ V0 := by
  conv => arg 2; whnf
  have HQ := hide hret
  have HN : Hid (NA m V0.drew L s) := hN.below ((Below.refl _ _).drew)
  have HR : Hid (RA m V0.drew L' s) := hR.below ((Below.refl _ _).drew)
  have HW : Hid (DoW m w V0.drew a box) := hW.drew
  have hW0 := hW.al.nil_imp.1
  clear hN hR hW hret
  have HZL : Hid (a.z.length = a.ln) := hW0
  clear hW0
  refine wp_region_noPanic ?_
  refine wp_region_held_drew (S := fun W => W.cell? ⟨box, 6, none⟩ = some (.slice a.lo a.ln a.lc)) (by kernel_rfl) ?_ (fun hHeld => ?_)
  · exact cell_blk (unhide HW).bx rfl
  have HH := hide hHeld
  clear hHeld
  generalize V0.drew = V at HN HR HW HH ⊢
  refine takeL (i := 0) (v := ?_) rfl (by kernel_rfl) (by kernel_rfl) (by kernel_rfl) (fun _ _ _ h => h) (Or.inl ⟨by rfl, ?_⟩) (unhide HH) ?_
  rotate_left 1
  · intro W1 s1; go_simp; all_goals (with_reducible rfl)
  (try simp only [Act.put, List.setIfInBounds_toArray, List.set_cons_zero, List.set_cons_succ])
  refine takeL (i := 1) (v := ?_) rfl (by kernel_rfl) (by kernel_rfl) (by kernel_rfl) (fun _ _ _ h => h) (Or.inl ⟨by rfl, ?_⟩) (unhide HH) ?_
  rotate_left 1
  · intro W1 s1; go_simp; all_goals (with_reducible rfl)
  (try simp only [Act.put, List.setIfInBounds_toArray, List.set_cons_zero, List.set_cons_succ])
  refine takeL (i := 2) (v := ?_) rfl (by kernel_rfl) (by kernel_rfl) (by kernel_rfl) (fun _ _ _ h => h) (Or.inl ⟨by rfl, ?_⟩) (unhide HH) ?_
  rotate_left 1
  · intro W1 s1; go_simp; all_goals (with_reducible rfl)
  (try simp only [Act.put, List.setIfInBounds_toArray, List.set_cons_zero, List.set_cons_succ])
  refine takeL (i := 3) (v := ?_) rfl (by kernel_rfl) (by kernel_rfl) (by kernel_rfl) (fun _ _ _ h => h) (Or.inl ⟨by rfl, ?_⟩) (unhide HH) ?_
  rotate_left 1
  · intro W1 s1; go_simp; all_goals (with_reducible rfl)
  (try simp only [Act.put, List.setIfInBounds_toArray, List.set_cons_zero, List.set_cons_succ])
  refine takeL (i := 5) (v := ?_) rfl (by kernel_rfl) (by kernel_rfl) (by kernel_rfl) (fun _ _ _ h => h) (Or.inl ⟨by rfl, ?_⟩) (unhide HH) ?_
  rotate_left 1
  · intro W1 s1; go_simp; all_goals (with_reducible rfl)
  (try simp only [Act.put, List.setIfInBounds_toArray, List.set_cons_zero, List.set_cons_succ])
  refine takeL (i := 6) (v := ?_) rfl (by kernel_rfl) (by kernel_rfl) (by kernel_rfl) (fun _ _ _ h => h) (Or.inl ⟨by rfl, ?_⟩) (unhide HH) ?_
  rotate_left 1
  · intro W1 s1; go_simp; all_goals (with_reducible rfl)
  (try simp only [Act.put, List.setIfInBounds_toArray, List.set_cons_zero, List.set_cons_succ])
  refine takeL (i := 9) (v := ?_) rfl (by kernel_rfl) (by kernel_rfl) (by kernel_rfl) (fun _ _ _ h => h) (Or.inl ⟨by rfl, ?_⟩) (unhide HH) ?_
  rotate_left 1
  · intro W1 s1; go_simp; all_goals (with_reducible rfl)
  (try simp only [Act.put, List.setIfInBounds_toArray, List.set_cons_zero, List.set_cons_succ])
  refine takeL (i := 10) (v := ?_) rfl (by kernel_rfl) (by kernel_rfl) (by kernel_rfl) (fun _ _ _ h => h) (Or.inl ⟨by rfl, ?_⟩) (unhide HH) ?_
  rotate_left 1
  · intro W1 s1; go_simp; all_goals (with_reducible rfl)
  (try simp only [Act.put, List.setIfInBounds_toArray, List.set_cons_zero, List.set_cons_succ])
  refine takeL (i := 11) (v := ?_) rfl (by kernel_rfl) (by kernel_rfl) (by kernel_rfl) (fun _ _ _ h => h) (Or.inl ⟨by rfl, ?_⟩) (unhide HH) ?_
  rotate_left 1
  · intro W1 s1; go_simp; all_goals (with_reducible rfl)
  (try simp only [Act.put, List.setIfInBounds_toArray, List.set_cons_zero, List.set_cons_succ])
  refine takeL (i := 12) (v := ?_) rfl (by kernel_rfl) (by kernel_rfl) (by kernel_rfl) (fun _ _ _ h => h) (Or.inl ⟨by rfl, ?_⟩) (unhide HH) ?_
  rotate_left 1
  · intro W1 s1; go_simp; all_goals (with_reducible rfl)
  (try simp only [Act.put, List.setIfInBounds_toArray, List.set_cons_zero, List.set_cons_succ])
  refine takeL (i := 13) (v := ?_) rfl (by kernel_rfl) (by kernel_rfl) (by kernel_rfl) (fun _ _ _ h => h) (Or.inl ⟨by rfl, ?_⟩) (unhide HH) ?_
  rotate_left 1
  · intro W1 s1; go_simp; all_goals (with_reducible rfl)
  (try simp only [Act.put, List.setIfInBounds_toArray, List.set_cons_zero, List.set_cons_succ])
  refine takeL (i := 14) (v := ?_) rfl (by kernel_rfl) (by kernel_rfl) (by kernel_rfl) (fun _ _ _ h => h) (Or.inl ⟨by rfl, ?_⟩) (unhide HH) ?_
  rotate_left 1
  · intro W1 s1; go_simp; all_goals (with_reducible rfl)
  (try simp only [Act.put, List.setIfInBounds_toArray, List.set_cons_zero, List.set_cons_succ])
  refine wpAnyH_ready (rs := [4]) (by kernel_rfl) (by simp) ?_
  refine consL rfl (fun K hK => ?_) AllReadyH.nil
  go_simp
  have hk : Below V.heap.size V (V.alloc (.cells #[] 3)) := (Below.refl _ _).alloc (Nat.le_refl _) _
  have hO := OwnZ.none V
  have hW3 := (unhide HW).below hk (unhide HN).n_lt
  refine hK.out _ _ (cell_blk hW3.bx rfl) (fun hHeld => ?_)
  clear hK K HH
  have HH := hide hHeld
  clear hHeld
  (try simp only [Act.put, List.setIfInBounds_toArray, List.set_cons_zero, List.set_cons_succ])
  have HO := hide hO
  have HK3 := hide hk
  clear hk hO hW3
  refine wpAnyH_ready (rs := [7]) (by kernel_rfl) (by simp) ?_
  refine consL rfl (fun K hK => ?_) AllReadyH.nil
  rw [if_pos (by rfl)]
  refine wp_append_z (.tmp 174) (.tmp 176) (by rfl) V.heap.size _ [] a.z (by rfl) (unhide HO) a.lo a.gl a.ln a.lc (by rfl) (unhide HZL) ((unhide HW).al.below (unhide HK3)).nil_imp.2.2 (unhide HW).al.nil_imp.2.1 (by have := (unhide HW).nl; simp; omega) (unhide HK3).size ?_
  intro v4 V4 hO4 hg4
  rw [List.nil_append] at hO4
  have hb4 : Below V.heap.size V V4 := below_grown (unhide HK3) hg4 (unhide HK3).size (fun k hk => by cases hk; exact Nat.le_refl _)
  obtain ⟨o4, c4, g4, rfl, hZ4, _⟩ := hO4.za (unhide HW).al.bd
  rw [unhide HZL] at hZ4 ⊢
  have HN4 := hide ((unhide HN).below hb4)
  have HR4 := hide ((unhide HR).below hb4)
  have HW4 := hide ((unhide HW).below hb4 (unhide HN).n_lt)
  have HZ4 := hide hZ4
  clear hO4 hg4 hb4 hZ4 HO HK3 HN HR HW
  refine hK.out _ _ (cell_blk (unhide HW4).bx rfl) (fun hHeld => ?_)
  clear hK K HH
  have HH := hide hHeld
  clear hHeld
  (try simp only [Act.put, List.setIfInBounds_toArray, List.set_cons_zero, List.set_cons_succ])
  refine wpAnyH_ready (rs := [8]) (by kernel_rfl) (by simp) ?_
  refine consL rfl (fun K hK => ?_) AllReadyH.nil
  go_simp
  refine (noise_u (unhide HN4) d b p _ g4 a.z (unhide HZ4)).mono ?_
  rintro e V5 ⟨rfl, ⟨L5, hL, hM⟩, hK1⟩
  have HN5 := hide hM
  have HL5 := hide hL
  have HR5 := hide ((unhide HR4).kn hK1)
  have HW5 := hide ((unhide HW4).kn hK1)
  clear hM hL hK1 HN4 HR4 HW4
  go_wp2_with fail
  refine hK.out _ _ (cell_blk (unhide HW5).bx rfl) (fun hHeld => ?_)
  clear hK K HH
  have HH := hide hHeld
  clear hHeld
  (try simp only [Act.put, List.setIfInBounds_toArray, List.set_cons_zero, List.set_cons_succ])
  refine wpAnyH_ready (rs := [15]) (by kernel_rfl) (by simp) ?_
  refine consL rfl (fun K hK => ?_) AllReadyH.nil
  go_simp
  refine (rnoise_u (unhide HR5) d b p _ _ _ a.gl a.z (unhide HW5).al (by have := (unhide HW5).nl; omega)).mono ?_
  rintro e V6 ⟨rfl, ⟨L6, hL, hM⟩, hK1⟩
  have HR6 := hide hM
  have HL6 := hide hL
  have HN6 := hide ((unhide HN5).kr hK1)
  have HW6 := hide ((unhide HW5).kr hK1)
  clear hM hL hK1 HN5 HR5 HW5
  go_wp2_with fail
  refine hK.out _ _ (cell_blk (unhide HW6).bx rfl) (fun hHeld => ?_)
  clear hK K HH
  have HH := hide hHeld
  clear hHeld
  (try simp only [Act.put, List.setIfInBounds_toArray, List.set_cons_zero, List.set_cons_succ])
  refine takeL (i := 16) (v := ?_) rfl (by kernel_rfl) (by kernel_rfl) (by kernel_rfl) (fun _ _ _ h => h) (Or.inl ⟨by rfl, ?_⟩) (unhide HH) ?_
  rotate_left 1
  · intro W1 s1; go_simp; all_goals (with_reducible rfl)
  (try simp only [Act.put, List.setIfInBounds_toArray, List.set_cons_zero, List.set_cons_succ])
  refine takeL (i := 17) (v := ?_) rfl (by kernel_rfl) (by kernel_rfl) (by kernel_rfl) (fun _ _ _ h => h) (Or.inl ⟨by rfl, ?_⟩) (unhide HH) ?_
  rotate_left 1
  · intro W1 s1; go_simp; all_goals (with_reducible rfl)
  (try simp only [Act.put, List.setIfInBounds_toArray, List.set_cons_zero, List.set_cons_succ])
  refine wpAnyH_done (by kernel_rfl) ?_ _
  refine NoPanic.normal ?_
  exact unhide HQ _ _ rfl ⟨L5, L6, _, unhide HL5, unhide HL6, geo_n s d b p a.z, unhide HN6, unhide HR6, (unhide HW6).be⟩


end Go.Proofs.Ytnondiaefpdlpaa

namespace Go.Proofs.Ytnondiaefpdlpaa
open Go.RowKit Go.Shelf

set_option maxRecDepth 1000000 in
set_option maxHeartbeats 16000000 in
theorem do_k9 {Q : Exit → Act → World → Prop} {c0 c4 c5 c6 c10 c11 c12 c13 c14 c15 c16 c17 c18 c19 c20 c21 c22 c23 c24 c25 c26 c27 c28 c29 c30 c31 c32 c33 c34 c35 c36 c37 c38 c39 c40 c41 c42 c43 c44 c45 c46 c47 c48 c49 c50 c51 c52 c53 c54 c55 c56 c57 c58 c59 c60 c61 c62 c63 c64 c65 c66 c67 c68 c69 c70 c71 c72 c73 c74 c75 c76 c77 c78 c79 c80 c81 c82 c83 c84 c85 c86 c87 c88 c89 c90 c91 c92 c93 c94 c95 c96 c97 c98 c99 c100 c101 c102 c103 c104 c105 c106 c107 c108 c109 c110 c111 c112 c113 c114 c115 c116 c117 c118 c119 c120 c121 c122 c123 c124 c125 c126 c127 c128 c129 c130 c131 c132 c133 c134 c135 c136 c137 c138 c139 c140 c141 c142 c143 c144 c145 c146 c147 c148 c149 c150 c151 c152 c153 c154 c155 c156 c157 c158 c159 c160 c161 c162 c163 c164 c165 c166 c167 c168 c169 c170 c171 c172 c173 c174 c175 c176 c177 c178 c179 c180 c181 c182 c183 c184 c185 c186 c187 c188 c189 c190 c191 c192 c193 c194 c195 c196 c197 c198 c199 c200 c201 c202 c203 c204 : Value} {m : Nat} {w V0 : World} {L : La} {L' : Lr} {s : Nd} {a : AD} {box : Nat} {d b p : Int} (hN : NA m V0 L s) (hR : RA m V0 L' s) (hW : DoW m w V0 a box)  (hk : a.k % 13 = 9) (hret : ∀ (vals : Array Value) (W' : World), vals[6]? = some (.bool true) → DoPost m w L.n L'.n s W' → Q .ret ⟨vals, []⟩ W')
    : Code.wp Try.prog doT Q ⟨List.toArray (c0 :: (.pointer (some ⟨L.n, 0, none⟩)) :: (.pointer (some ⟨L'.n, 0, none⟩)) :: (.pointer (some ⟨box, 0, none⟩)) :: c4 :: c5 :: c6 :: (.int .i64 d) :: (.int .i64 b) :: (.int .i64 p) :: c10 :: c11 :: c12 :: c13 :: c14 :: c15 :: c16 :: c17 :: c18 :: c19 :: c20 :: c21 :: c22 :: c23 :: c24 :: c25 :: c26 :: c27 :: c28 :: c29 :: c30 :: c31 :: c32 :: c33 :: c34 :: c35 :: c36 :: c37 :: c38 :: c39 :: c40 :: c41 :: c42 :: c43 :: c44 :: c45 :: c46 :: c47 :: c48 :: c49 :: c50 :: c51 :: c52 :: c53 :: c54 :: c55 :: c56 :: c57 :: c58 :: c59 :: c60 :: c61 :: c62 :: c63 :: c64 :: c65 :: c66 :: c67 :: c68 :: c69 :: c70 :: c71 :: c72 :: c73 :: c74 :: c75 :: c76 :: c77 :: c78 :: c79 :: c80 :: c81 :: c82 :: c83 :: c84 :: c85 :: c86 :: c87 :: c88 :: c89 :: c90 :: c91 :: c92 :: c93 :: c94 :: c95 :: c96 :: c97 :: c98 :: c99 :: c100 :: c101 :: c102 :: c103 :: c104 :: c105 :: c106 :: c107 :: c108 :: c109 :: c110 :: c111 :: c112 :: c113 :: c114 :: c115 :: c116 :: c117 :: c118 :: c119 :: c120 :: c121 :: c122 :: c123 :: c124 :: c125 :: c126 :: c127 :: c128 :: c129 :: c130 :: c131 :: c132 :: c133 :: c134 :: c135 :: c136 :: c137 :: c138 :: c139 :: c140 :: c141 :: c142 :: c143 :: c144 :: c145 :: c146 :: c147 :: c148 :: c149 :: c150 :: c151 :: c152 :: c153 :: c154 :: c155 :: c156 :: c157 :: c158 :: c159 :: c160 :: c161 :: c162 :: c163 :: c164 :: c165 :: c166 :: c167 :: c168 :: c169 :: c170 :: c171 :: c172 :: c173 :: c174 :: c175 :: c176 :: c177 :: c178 :: c179 :: c180 :: c181 :: c182 :: c183 :: c184 :: c185 :: c186 :: c187 :: c188 :: c189 :: c190 :: c191 :: c192 :: c193 :: c194 :: c195 :: c196 :: c197 :: c198 :: c199 :: c200 :: c201 :: c202 :: c203 :: c204 :: []), []⟩ V0 := by
  conv => arg 2; whnf
  have HQ := hide hret
  have b0 : V0.cell? ⟨box, 0, none⟩ = some (.int .i64 a.k) := cell_blk hW.bx rfl
  have HN := hide hN
  have HR := hide hR
  have HW := hide hW
  clear hN hR hW hret
  go_wp2_with fail
  refine (within7_any _ 13 _ (by omega) (by omega)).mono ?_
  rintro e V1 ⟨he, hV⟩
  rw [hk] at he
  subst he
  replace hV := hV.symm
  subst hV
  clear b0 hk
  go_wp2_with fail
  refine (read_u (unhide HN) d b p).mono ?_
  rintro e w1 ⟨v1, rfl, hF1, hN1, hK1⟩
  obtain ⟨o1, k1, hv1⟩ := hF1.shape
  obtain ⟨n1, hn1⟩ : ∃ n, (s.rVal d b p).length = n := ⟨_, rfl⟩
  rw [hn1] at hv1
  subst hv1
  have HR1 := hide ((unhide HR).kn hK1)
  have HN1 := hide hN1
  have HF1 := hide hF1
  have HW1 := hide ((unhide HW).kn hK1)
  clear hF1 hN1 hK1 HN HR HW
  go_wp2_with fail
  refine (rread_u (unhide HR1) d b p).mono ?_
  rintro e w2 ⟨v2, rfl, hF2, hN2, hK2⟩
  obtain ⟨o2, k2, hv2⟩ := hF2.shape
  rw [hn1] at hv2
  subst hv2
  have hbs := rVal_bs (unhide HR1).ok d b p
  obtain ⟨g1, hA1, _⟩ := ((unhide HF1).lie hK2.lie (by decide)).arg hbs
  obtain ⟨g2, hA2, _⟩ := hF2.arg hbs
  have hcv1 := conv_arg hA1
  have hcv2 := conv_arg hA2
  obtain ⟨st, hst⟩ : ∃ st, strOf (ints (s.rVal d b p)) = st := ⟨_, rfl⟩
  rw [hst] at hcv1 hcv2
  have HN2 := hide ((unhide HN1).kr hK2)
  have HR2 := hide hN2
  have HW2 := hide ((unhide HW1).kr hK2)
  clear hst hA1 hA2 hbs hF2 hN2 hK2 hn1 HF1 HN1 HR1 HW1
  go_wp2_with fail
  exact unhide HQ _ _ rfl ⟨L, L', _, rfl, rfl, geo_r s d b p, unhide HN2, unhide HR2, (unhide HW2).be⟩

set_option maxRecDepth 1000000 in
set_option maxHeartbeats 16000000 in
theorem do_k10 {Q : Exit → Act → World → Prop} {c0 c4 c5 c6 c10 c11 c12 c13 c14 c15 c16 c17 c18 c19 c20 c21 c22 c23 c24 c25 c26 c27 c28 c29 c30 c31 c32 c33 c34 c35 c36 c37 c38 c39 c40 c41 c42 c43 c44 c45 c46 c47 c48 c49 c50 c51 c52 c53 c54 c55 c56 c57 c58 c59 c60 c61 c62 c63 c64 c65 c66 c67 c68 c69 c70 c71 c72 c73 c74 c75 c76 c77 c78 c79 c80 c81 c82 c83 c84 c85 c86 c87 c88 c89 c90 c91 c92 c93 c94 c95 c96 c97 c98 c99 c100 c101 c102 c103 c104 c105 c106 c107 c108 c109 c110 c111 c112 c113 c114 c115 c116 c117 c118 c119 c120 c121 c122 c123 c124 c125 c126 c127 c128 c129 c130 c131 c132 c133 c134 c135 c136 c137 c138 c139 c140 c141 c142 c143 c144 c145 c146 c147 c148 c149 c150 c151 c152 c153 c154 c155 c156 c157 c158 c159 c160 c161 c162 c163 c164 c165 c166 c167 c168 c169 c170 c171 c172 c173 c174 c175 c176 c177 c178 c179 c180 c181 c182 c183 c184 c185 c186 c187 c188 c189 c190 c191 c192 c193 c194 c195 c196 c197 c198 c199 c200 c201 c202 c203 c204 : Value} {m : Nat} {w V0 : World} {L : La} {L' : Lr} {s : Nd} {a : AD} {box : Nat} {d b p : Int} (hN : NA m V0 L s) (hR : RA m V0 L' s) (hW : DoW m w V0 a box)  (hk : a.k % 13 = 10) (hret : ∀ (vals : Array Value) (W' : World), vals[6]? = some (.bool true) → DoPost m w L.n L'.n s W' → Q .ret ⟨vals, []⟩ W')
    : Code.wp Try.prog doT Q ⟨List.toArray (c0 :: (.pointer (some ⟨L.n, 0, none⟩)) :: (.pointer (some ⟨L'.n, 0, none⟩)) :: (.pointer (some ⟨box, 0, none⟩)) :: c4 :: c5 :: c6 :: (.int .i64 d) :: (.int .i64 b) :: (.int .i64 p) :: c10 :: c11 :: c12 :: c13 :: c14 :: c15 :: c16 :: c17 :: c18 :: c19 :: c20 :: c21 :: c22 :: c23 :: c24 :: c25 :: c26 :: c27 :: c28 :: c29 :: c30 :: c31 :: c32 :: c33 :: c34 :: c35 :: c36 :: c37 :: c38 :: c39 :: c40 :: c41 :: c42 :: c43 :: c44 :: c45 :: c46 :: c47 :: c48 :: c49 :: c50 :: c51 :: c52 :: c53 :: c54 :: c55 :: c56 :: c57 :: c58 :: c59 :: c60 :: c61 :: c62 :: c63 :: c64 :: c65 :: c66 :: c67 :: c68 :: c69 :: c70 :: c71 :: c72 :: c73 :: c74 :: c75 :: c76 :: c77 :: c78 :: c79 :: c80 :: c81 :: c82 :: c83 :: c84 :: c85 :: c86 :: c87 :: c88 :: c89 :: c90 :: c91 :: c92 :: c93 :: c94 :: c95 :: c96 :: c97 :: c98 :: c99 :: c100 :: c101 :: c102 :: c103 :: c104 :: c105 :: c106 :: c107 :: c108 :: c109 :: c110 :: c111 :: c112 :: c113 :: c114 :: c115 :: c116 :: c117 :: c118 :: c119 :: c120 :: c121 :: c122 :: c123 :: c124 :: c125 :: c126 :: c127 :: c128 :: c129 :: c130 :: c131 :: c132 :: c133 :: c134 :: c135 :: c136 :: c137 :: c138 :: c139 :: c140 :: c141 :: c142 :: c143 :: c144 :: c145 :: c146 :: c147 :: c148 :: c149 :: c150 :: c151 :: c152 :: c153 :: c154 :: c155 :: c156 :: c157 :: c158 :: c159 :: c160 :: c161 :: c162 :: c163 :: c164 :: c165 :: c166 :: c167 :: c168 :: c169 :: c170 :: c171 :: c172 :: c173 :: c174 :: c175 :: c176 :: c177 :: c178 :: c179 :: c180 :: c181 :: c182 :: c183 :: c184 :: c185 :: c186 :: c187 :: c188 :: c189 :: c190 :: c191 :: c192 :: c193 :: c194 :: c195 :: c196 :: c197 :: c198 :: c199 :: c200 :: c201 :: c202 :: c203 :: c204 :: []), []⟩ V0 := by
  conv => arg 2; whnf
  have HQ := hide hret
  have b0 : V0.cell? ⟨box, 0, none⟩ = some (.int .i64 a.k) := cell_blk hW.bx rfl
  have HN := hide hN
  have HR := hide hR
  have HW := hide hW
  clear hN hR hW hret
  go_wp2_with fail
  refine (within7_any _ 13 _ (by omega) (by omega)).mono ?_
  rintro e V1 ⟨he, hV⟩
  rw [hk] at he
  subst he
  replace hV := hV.symm
  subst hV
  clear b0 hk
  go_wp2_with fail
  refine do_r27 (unhide HN) (unhide HR) (unhide HW) ?_
  intro vals W' hv hPo
  go_wp2_with fail
  exact unhide HQ vals W' hv hPo


end Go.Proofs.Ytnondiaefpdlpaa
