/-
  (Act).Do: the power that will go.
  (Act).Do: by what is to be done.
-/
import Derived.Test.YtnondiaefpdlpaaMn
namespace Go.Proofs.Ytnondiaefpdlpaa
open Go.RowKit Go.Shelf

set_option maxRecDepth 1000000 in
set_option maxHeartbeats 16000000 in
theorem do_r29 {Q : Exit → Act → World → Prop} {c0 c4 c5 c6 c10 c11 c12 c13 c14 c15 c16 c17 c18 c19 c20 c21 c22 c23 c24 c25 c26 c27 c28 c29 c30 c31 c32 c33 c34 c35 c36 c37 c38 c39 c40 c41 c42 c43 c44 c45 c46 c47 c48 c49 c50 c51 c52 c53 c54 c55 c56 c57 c58 c59 c60 c61 c62 c63 c64 c65 c66 c67 c68 c69 c70 c71 c72 c73 c74 c75 c76 c77 c78 c79 c80 c81 c82 c83 c84 c85 c86 c87 c88 c89 c90 c91 c92 c93 c94 c95 c96 c97 c98 c99 c100 c101 c102 c103 c104 c105 c106 c107 c108 c109 c110 c111 c112 c113 c114 c115 c116 c117 c118 c119 c120 c121 c122 c123 c124 c125 c126 c127 c128 c129 c130 c131 c132 c133 c134 c135 c136 c137 c138 c139 c140 c141 c142 c143 c144 c145 c146 c147 c148 c149 c150 c151 c152 c153 c154 c155 c156 c157 c158 c159 c160 c161 c162 c163 c164 c165 c166 c167 c168 c169 c170 c171 c172 c173 c174 c175 c176 c177 c178 c179 c180 c181 c182 c183 c184 c185 c186 c187 c188 c189 c190 c191 c192 c193 c194 c195 c196 c197 c198 c199 c200 c201 c202 c203 c204 : Value} {m : Nat} {w V0 : World} {L : La} {L' : Lr} {s : Nd} {a : AD} {box : Nat} {d b p : Int} (hN : NA m V0 L s) (hR : RA m V0 L' s) (hW : DoW m w V0 a box)  (hret : ∀ (u189 u190 u191 u192 u193 u194 u195 u196 : Value) (L1 : La) (W' : World), L1.n = L.n → NA m W' L1 { s with left := (a.n % 9 - 1).toNat, mask := a.x } → RA m W' L' s → DoW m w W' a box → Q .normal ⟨List.toArray (c0 :: (.pointer (some ⟨L.n, 0, none⟩)) :: (.pointer (some ⟨L'.n, 0, none⟩)) :: (.pointer (some ⟨box, 0, none⟩)) :: c4 :: c5 :: c6 :: (.int .i64 d) :: (.int .i64 b) :: (.int .i64 p) :: c10 :: c11 :: c12 :: c13 :: c14 :: c15 :: c16 :: c17 :: c18 :: c19 :: c20 :: c21 :: c22 :: c23 :: c24 :: c25 :: c26 :: c27 :: c28 :: c29 :: c30 :: c31 :: c32 :: c33 :: c34 :: c35 :: c36 :: c37 :: c38 :: c39 :: c40 :: c41 :: c42 :: c43 :: c44 :: c45 :: c46 :: c47 :: c48 :: c49 :: c50 :: c51 :: c52 :: c53 :: c54 :: c55 :: c56 :: c57 :: c58 :: c59 :: c60 :: c61 :: c62 :: c63 :: c64 :: c65 :: c66 :: c67 :: c68 :: c69 :: c70 :: c71 :: c72 :: c73 :: c74 :: c75 :: c76 :: c77 :: c78 :: c79 :: c80 :: c81 :: c82 :: c83 :: c84 :: c85 :: c86 :: c87 :: c88 :: c89 :: c90 :: c91 :: c92 :: c93 :: c94 :: c95 :: c96 :: c97 :: c98 :: c99 :: c100 :: c101 :: c102 :: c103 :: c104 :: c105 :: c106 :: c107 :: c108 :: c109 :: c110 :: c111 :: c112 :: c113 :: c114 :: c115 :: c116 :: c117 :: c118 :: c119 :: c120 :: c121 :: c122 :: c123 :: c124 :: c125 :: c126 :: c127 :: c128 :: c129 :: c130 :: c131 :: c132 :: c133 :: c134 :: c135 :: c136 :: c137 :: c138 :: c139 :: c140 :: c141 :: c142 :: c143 :: c144 :: c145 :: c146 :: c147 :: c148 :: c149 :: c150 :: c151 :: c152 :: c153 :: c154 :: c155 :: c156 :: c157 :: c158 :: c159 :: c160 :: c161 :: c162 :: c163 :: c164 :: c165 :: c166 :: c167 :: c168 :: c169 :: c170 :: c171 :: c172 :: c173 :: c174 :: c175 :: c176 :: c177 :: c178 :: c179 :: c180 :: c181 :: c182 :: c183 :: c184 :: c185 :: c186 :: c187 :: c188 :: u189 :: u190 :: u191 :: u192 :: u193 :: u194 :: u195 :: u196 :: c197 :: c198 :: c199 :: c200 :: c201 :: c202 :: c203 :: c204 :: []), []⟩ W')
    : Code.wp Try.prog do29 Q ⟨List.toArray (c0 :: (.pointer (some ⟨L.n, 0, none⟩)) :: (.pointer (some ⟨L'.n, 0, none⟩)) :: (.pointer (some ⟨box, 0, none⟩)) :: c4 :: c5 :: c6 :: (.int .i64 d) :: (.int .i64 b) :: (.int .i64 p) :: c10 :: c11 :: c12 :: c13 :: c14 :: c15 :: c16 :: c17 :: c18 :: c19 :: c20 :: c21 :: c22 :: c23 :: c24 :: c25 :: c26 :: c27 :: c28 :: c29 :: c30 :: c31 :: c32 :: c33 :: c34 :: c35 :: c36 :: c37 :: c38 :: c39 :: c40 :: c41 :: c42 :: c43 :: c44 :: c45 :: c46 :: c47 :: c48 :: c49 :: c50 :: c51 :: c52 :: c53 :: c54 :: c55 :: c56 :: c57 :: c58 :: c59 :: c60 :: c61 :: c62 :: c63 :: c64 :: c65 :: c66 :: c67 :: c68 :: c69 :: c70 :: c71 :: c72 :: c73 :: c74 :: c75 :: c76 :: c77 :: c78 :: c79 :: c80 :: c81 :: c82 :: c83 :: c84 :: c85 :: c86 :: c87 :: c88 :: c89 :: c90 :: c91 :: c92 :: c93 :: c94 :: c95 :: c96 :: c97 :: c98 :: c99 :: c100 :: c101 :: c102 :: c103 :: c104 :: c105 :: c106 :: c107 :: c108 :: c109 :: c110 :: c111 :: c112 :: c113 :: c114 :: c115 :: c116 :: c117 :: c118 :: c119 :: c120 :: c121 :: c122 :: c123 :: c124 :: c125 :: c126 :: c127 :: c128 :: c129 :: c130 :: c131 :: c132 :: c133 :: c134 :: c135 :: c136 :: c137 :: c138 :: c139 :: c140 :: c141 :: c142 :: c143 :: c144 :: c145 :: c146 :: c147 :: c148 :: c149 :: c150 :: c151 :: c152 :: c153 :: c154 :: c155 :: c156 :: c157 :: c158 :: c159 :: c160 :: c161 :: c162 :: c163 :: c164 :: c165 :: c166 :: c167 :: c168 :: c169 :: c170 :: c171 :: c172 :: c173 :: c174 :: c175 :: c176 :: c177 :: c178 :: c179 :: c180 :: c181 :: c182 :: c183 :: c184 :: c185 :: c186 :: c187 :: c188 :: c189 :: c190 :: c191 :: c192 :: c193 :: c194 :: c195 :: c196 :: c197 :: c198 :: c199 :: c200 :: c201 :: c202 :: c203 :: c204 :: []), []⟩ V0 := by
  conv => arg 2; whnf
  have HQ := hide hret
  have HN : Hid (NA m V0.drew L s) := hN.below ((Below.refl _ _).drew)
  have HR : Hid (RA m V0.drew L' s) := hR.below ((Below.refl _ _).drew)
  have HW : Hid (DoW m w V0.drew a box) := hW.drew
  clear hN hR hW hret
  obtain ⟨z, hz⟩ : ∃ z, a.n % 9 = z := ⟨_, rfl⟩
  have hz0 : 0 ≤ z := by rw [← hz]; exact Int.emod_nonneg _ (by omega)
  have hz9 : z < 9 := by rw [← hz]; exact Int.emod_lt_of_pos _ (by omega)
  have hwz : IntKind.i64.wrap (z - 1) = z - 1 := IntWalk.i64_in _ ⟨by omega, by omega⟩
  have HZ := hide hz
  clear hz
  refine wp_region_noPanic ?_
  refine wp_region_held_drew (S := fun W => W.cell? ⟨box, 4, none⟩ = some (.int .i64 a.n) ∧ W.cell? ⟨box, 5, none⟩ = some (.slice a.bo a.bn a.bc)) (by kernel_rfl) ?_ (fun hHeld => ?_)
  · exact ⟨cell_blk (unhide HW).bx rfl, cell_blk (unhide HW).bx rfl⟩
  have HH := hide hHeld
  clear hHeld
  generalize V0.drew = V at HN HR HW HH ⊢
  refine takeL (i := 0) (v := ?_) rfl (by kernel_rfl) (by kernel_rfl) (by kernel_rfl) (fun _ _ _ h => h) (Or.inl ⟨by rfl, ?_⟩) (unhide HH) ?_
  rotate_left 1
  · intro W1 ⟨s1, s2⟩; go_simp; all_goals (with_reducible rfl)
  (try simp only [Act.put, List.setIfInBounds_toArray, List.set_cons_zero, List.set_cons_succ])
  refine takeL (i := 1) (v := ?_) rfl (by kernel_rfl) (by kernel_rfl) (by kernel_rfl) (fun _ _ _ h => h) (Or.inl ⟨by rfl, ?_⟩) (unhide HH) ?_
  rotate_left 1
  · intro W1 ⟨s1, s2⟩; go_simp; all_goals (with_reducible rfl)
  (try simp only [Act.put, List.setIfInBounds_toArray, List.set_cons_zero, List.set_cons_succ])
  refine takeL (i := 2) (v := ?_) rfl (by kernel_rfl) (by kernel_rfl) (by kernel_rfl) (fun _ _ _ h => h) (Or.inl ⟨by rfl, ?_⟩) (unhide HH) ?_
  rotate_left 1
  · intro W1 ⟨s1, s2⟩; go_simp; all_goals (with_reducible rfl)
  (try simp only [Act.put, List.setIfInBounds_toArray, List.set_cons_zero, List.set_cons_succ])
  refine takeL (i := 5) (v := ?_) rfl (by kernel_rfl) (by kernel_rfl) (by kernel_rfl) (fun _ _ _ h => h) (Or.inl ⟨by rfl, ?_⟩) (unhide HH) ?_
  rotate_left 1
  · intro W1 ⟨s1, s2⟩; go_simp; all_goals (with_reducible rfl)
  (try simp only [Act.put, List.setIfInBounds_toArray, List.set_cons_zero, List.set_cons_succ])
  refine takeL (i := 6) (v := ?_) rfl (by kernel_rfl) (by kernel_rfl) (by kernel_rfl) (fun _ _ _ h => h) (Or.inl ⟨by rfl, ?_⟩) (unhide HH) ?_
  rotate_left 1
  · intro W1 ⟨s1, s2⟩; go_simp; all_goals (with_reducible rfl)
  (try simp only [Act.put, List.setIfInBounds_toArray, List.set_cons_zero, List.set_cons_succ])
  refine wpAnyH_ready (rs := [3]) (by kernel_rfl) (by simp) ?_
  refine consL rfl (fun K hK => ?_) AllReadyH.nil
  go_simp
  refine (within7_any a.n 9 _ (by omega) (by omega)).mono ?_
  rintro e V1 ⟨he, hV⟩
  rw [unhide HZ] at he
  subst he
  replace hV := hV.symm
  subst hV
  go_wp2_with fail
  refine hK.out _ _ (unhide HH) (fun hHeld => ?_)
  clear hK K HH
  have HH := hide hHeld
  clear hHeld
  (try simp only [Act.put, List.setIfInBounds_toArray, List.set_cons_zero, List.set_cons_succ])
  refine takeL (i := 4) (v := ?_) rfl (by kernel_rfl) (by kernel_rfl) (by kernel_rfl) (fun _ _ _ h => h) (Or.inl ⟨by rfl, ?_⟩) (unhide HH) ?_
  rotate_left 1
  · intro W1 ⟨s1, s2⟩; go_simp; all_goals (with_reducible rfl)
  (try simp only [Act.put, List.setIfInBounds_toArray, List.set_cons_zero, List.set_cons_succ])
  refine wpAnyH_ready (rs := [7]) (by kernel_rfl) (by simp) ?_
  refine consL rfl (fun K hK => ?_) AllReadyH.nil
  go_simp
  refine (stop_any (unhide HN) (z - 1) (by omega) _ a.gb a.x (unhide HW).ab (unhide HW).sfe).mono ?_
  rintro e V1 ⟨⟨r, rfl⟩, ⟨L1, hL, hM⟩, hK1⟩
  have HN1 := hide hM
  have HL1 := hide hL
  have HR1 := hide ((unhide HR).kn hK1)
  have HW1 := hide ((unhide HW).kn hK1)
  clear hM hL hK1 HN HR HW
  go_wp2_with fail
  refine hK.out _ _ (⟨cell_blk (unhide HW1).bx rfl, cell_blk (unhide HW1).bx rfl⟩) (fun hHeld => ?_)
  clear hK K HH
  have HH := hide hHeld
  clear hHeld
  (try simp only [Act.put, List.setIfInBounds_toArray, List.set_cons_zero, List.set_cons_succ])
  refine wpAnyH_done (by kernel_rfl) ?_ _
  refine NoPanic.normal ?_
  exact unhide HQ _ _ _ _ _ _ _ _ L1 _ (unhide HL1) (by rw [unhide HZ]; exact unhide HN1) (unhide HR1) (unhide HW1)

set_option maxRecDepth 1000000 in
set_option maxHeartbeats 16000000 in
theorem do_r30 {Q : Exit → Act → World → Prop} {c0 c1 c4 c5 c6 c10 c11 c12 c13 c14 c15 c16 c17 c18 c19 c20 c21 c22 c23 c24 c25 c26 c27 c28 c29 c30 c31 c32 c33 c34 c35 c36 c37 c38 c39 c40 c41 c42 c43 c44 c45 c46 c47 c48 c49 c50 c51 c52 c53 c54 c55 c56 c57 c58 c59 c60 c61 c62 c63 c64 c65 c66 c67 c68 c69 c70 c71 c72 c73 c74 c75 c76 c77 c78 c79 c80 c81 c82 c83 c84 c85 c86 c87 c88 c89 c90 c91 c92 c93 c94 c95 c96 c97 c98 c99 c100 c101 c102 c103 c104 c105 c106 c107 c108 c109 c110 c111 c112 c113 c114 c115 c116 c117 c118 c119 c120 c121 c122 c123 c124 c125 c126 c127 c128 c129 c130 c131 c132 c133 c134 c135 c136 c137 c138 c139 c140 c141 c142 c143 c144 c145 c146 c147 c148 c149 c150 c151 c152 c153 c154 c155 c156 c157 c158 c159 c160 c161 c162 c163 c164 c165 c166 c167 c168 c169 c170 c171 c172 c173 c174 c175 c176 c177 c178 c179 c180 c181 c182 c183 c184 c185 c186 c187 c188 c189 c190 c191 c192 c193 c194 c195 c196 c197 c198 c199 c200 c201 c202 c203 c204 : Value} {m : Nat} {w V0 : World} {L : La} {L' : Lr} {s : Nd} {a : AD} {box : Nat} {d b p : Int} (hN : NA m V0 L { s with left := (a.n % 9 - 1).toNat, mask := a.x }) (hR : RA m V0 L' s) (hW : DoW m w V0 a box) (hret : ∀ (u197 u198 u199 u200 u201 u202 u203 u204 : Value) (W' : World), DoPost m w L.n L'.n s W' → Q .normal ⟨List.toArray (c0 :: c1 :: (.pointer (some ⟨L'.n, 0, none⟩)) :: (.pointer (some ⟨box, 0, none⟩)) :: c4 :: c5 :: c6 :: (.int .i64 d) :: (.int .i64 b) :: (.int .i64 p) :: c10 :: c11 :: c12 :: c13 :: c14 :: c15 :: c16 :: c17 :: c18 :: c19 :: c20 :: c21 :: c22 :: c23 :: c24 :: c25 :: c26 :: c27 :: c28 :: c29 :: c30 :: c31 :: c32 :: c33 :: c34 :: c35 :: c36 :: c37 :: c38 :: c39 :: c40 :: c41 :: c42 :: c43 :: c44 :: c45 :: c46 :: c47 :: c48 :: c49 :: c50 :: c51 :: c52 :: c53 :: c54 :: c55 :: c56 :: c57 :: c58 :: c59 :: c60 :: c61 :: c62 :: c63 :: c64 :: c65 :: c66 :: c67 :: c68 :: c69 :: c70 :: c71 :: c72 :: c73 :: c74 :: c75 :: c76 :: c77 :: c78 :: c79 :: c80 :: c81 :: c82 :: c83 :: c84 :: c85 :: c86 :: c87 :: c88 :: c89 :: c90 :: c91 :: c92 :: c93 :: c94 :: c95 :: c96 :: c97 :: c98 :: c99 :: c100 :: c101 :: c102 :: c103 :: c104 :: c105 :: c106 :: c107 :: c108 :: c109 :: c110 :: c111 :: c112 :: c113 :: c114 :: c115 :: c116 :: c117 :: c118 :: c119 :: c120 :: c121 :: c122 :: c123 :: c124 :: c125 :: c126 :: c127 :: c128 :: c129 :: c130 :: c131 :: c132 :: c133 :: c134 :: c135 :: c136 :: c137 :: c138 :: c139 :: c140 :: c141 :: c142 :: c143 :: c144 :: c145 :: c146 :: c147 :: c148 :: c149 :: c150 :: c151 :: c152 :: c153 :: c154 :: c155 :: c156 :: c157 :: c158 :: c159 :: c160 :: c161 :: c162 :: c163 :: c164 :: c165 :: c166 :: c167 :: c168 :: c169 :: c170 :: c171 :: c172 :: c173 :: c174 :: c175 :: c176 :: c177 :: c178 :: c179 :: c180 :: c181 :: c182 :: c183 :: c184 :: c185 :: c186 :: c187 :: c188 :: c189 :: c190 :: c191 :: c192 :: c193 :: c194 :: c195 :: c196 :: u197 :: u198 :: u199 :: u200 :: u201 :: u202 :: u203 :: u204 :: []), []⟩ W')
    : Code.wp Try.prog do30 Q ⟨List.toArray (c0 :: c1 :: (.pointer (some ⟨L'.n, 0, none⟩)) :: (.pointer (some ⟨box, 0, none⟩)) :: c4 :: c5 :: c6 :: (.int .i64 d) :: (.int .i64 b) :: (.int .i64 p) :: c10 :: c11 :: c12 :: c13 :: c14 :: c15 :: c16 :: c17 :: c18 :: c19 :: c20 :: c21 :: c22 :: c23 :: c24 :: c25 :: c26 :: c27 :: c28 :: c29 :: c30 :: c31 :: c32 :: c33 :: c34 :: c35 :: c36 :: c37 :: c38 :: c39 :: c40 :: c41 :: c42 :: c43 :: c44 :: c45 :: c46 :: c47 :: c48 :: c49 :: c50 :: c51 :: c52 :: c53 :: c54 :: c55 :: c56 :: c57 :: c58 :: c59 :: c60 :: c61 :: c62 :: c63 :: c64 :: c65 :: c66 :: c67 :: c68 :: c69 :: c70 :: c71 :: c72 :: c73 :: c74 :: c75 :: c76 :: c77 :: c78 :: c79 :: c80 :: c81 :: c82 :: c83 :: c84 :: c85 :: c86 :: c87 :: c88 :: c89 :: c90 :: c91 :: c92 :: c93 :: c94 :: c95 :: c96 :: c97 :: c98 :: c99 :: c100 :: c101 :: c102 :: c103 :: c104 :: c105 :: c106 :: c107 :: c108 :: c109 :: c110 :: c111 :: c112 :: c113 :: c114 :: c115 :: c116 :: c117 :: c118 :: c119 :: c120 :: c121 :: c122 :: c123 :: c124 :: c125 :: c126 :: c127 :: c128 :: c129 :: c130 :: c131 :: c132 :: c133 :: c134 :: c135 :: c136 :: c137 :: c138 :: c139 :: c140 :: c141 :: c142 :: c143 :: c144 :: c145 :: c146 :: c147 :: c148 :: c149 :: c150 :: c151 :: c152 :: c153 :: c154 :: c155 :: c156 :: c157 :: c158 :: c159 :: c160 :: c161 :: c162 :: c163 :: c164 :: c165 :: c166 :: c167 :: c168 :: c169 :: c170 :: c171 :: c172 :: c173 :: c174 :: c175 :: c176 :: c177 :: c178 :: c179 :: c180 :: c181 :: c182 :: c183 :: c184 :: c185 :: c186 :: c187 :: c188 :: c189 :: c190 :: c191 :: c192 :: c193 :: c194 :: c195 :: c196 :: c197 :: c198 :: c199 :: c200 :: c201 :: c202 :: c203 :: c204 :: []), []⟩ V0 := by
  conv => arg 2; whnf
  have HQ := hide hret
  have HN : Hid (NA m V0.drew L { s with left := (a.n % 9 - 1).toNat, mask := a.x }) := hN.below ((Below.refl _ _).drew)
  have HR : Hid (RA m V0.drew L' s) := hR.below ((Below.refl _ _).drew)
  have HW : Hid (DoW m w V0.drew a box) := hW.drew
  clear hN hR hW hret
  obtain ⟨z, hz⟩ : ∃ z, a.n % 9 = z := ⟨_, rfl⟩
  have hz0 : 0 ≤ z := by rw [← hz]; exact Int.emod_nonneg _ (by omega)
  have hz9 : z < 9 := by rw [← hz]; exact Int.emod_lt_of_pos _ (by omega)
  have hwz : IntKind.i64.wrap (z - 1) = z - 1 := IntWalk.i64_in _ ⟨by omega, by omega⟩
  have HZ := hide hz
  clear hz
  refine wp_region_noPanic ?_
  refine wp_region_held_drew (S := fun W => W.cell? ⟨box, 4, none⟩ = some (.int .i64 a.n) ∧ W.cell? ⟨box, 5, none⟩ = some (.slice a.bo a.bn a.bc)) (by kernel_rfl) ?_ (fun hHeld => ?_)
  · exact ⟨cell_blk (unhide HW).bx rfl, cell_blk (unhide HW).bx rfl⟩
  have HH := hide hHeld
  clear hHeld
  generalize V0.drew = V at HN HR HW HH ⊢
  refine takeL (i := 0) (v := ?_) rfl (by kernel_rfl) (by kernel_rfl) (by kernel_rfl) (fun _ _ _ h => h) (Or.inl ⟨by rfl, ?_⟩) (unhide HH) ?_
  rotate_left 1
  · intro W1 ⟨s1, s2⟩; go_simp; all_goals (with_reducible rfl)
  (try simp only [Act.put, List.setIfInBounds_toArray, List.set_cons_zero, List.set_cons_succ])
  refine takeL (i := 1) (v := ?_) rfl (by kernel_rfl) (by kernel_rfl) (by kernel_rfl) (fun _ _ _ h => h) (Or.inl ⟨by rfl, ?_⟩) (unhide HH) ?_
  rotate_left 1
  · intro W1 ⟨s1, s2⟩; go_simp; all_goals (with_reducible rfl)
  (try simp only [Act.put, List.setIfInBounds_toArray, List.set_cons_zero, List.set_cons_succ])
  refine takeL (i := 2) (v := ?_) rfl (by kernel_rfl) (by kernel_rfl) (by kernel_rfl) (fun _ _ _ h => h) (Or.inl ⟨by rfl, ?_⟩) (unhide HH) ?_
  rotate_left 1
  · intro W1 ⟨s1, s2⟩; go_simp; all_goals (with_reducible rfl)
  (try simp only [Act.put, List.setIfInBounds_toArray, List.set_cons_zero, List.set_cons_succ])
  refine takeL (i := 5) (v := ?_) rfl (by kernel_rfl) (by kernel_rfl) (by kernel_rfl) (fun _ _ _ h => h) (Or.inl ⟨by rfl, ?_⟩) (unhide HH) ?_
  rotate_left 1
  · intro W1 ⟨s1, s2⟩; go_simp; all_goals (with_reducible rfl)
  (try simp only [Act.put, List.setIfInBounds_toArray, List.set_cons_zero, List.set_cons_succ])
  refine takeL (i := 6) (v := ?_) rfl (by kernel_rfl) (by kernel_rfl) (by kernel_rfl) (fun _ _ _ h => h) (Or.inl ⟨by rfl, ?_⟩) (unhide HH) ?_
  rotate_left 1
  · intro W1 ⟨s1, s2⟩; go_simp; all_goals (with_reducible rfl)
  (try simp only [Act.put, List.setIfInBounds_toArray, List.set_cons_zero, List.set_cons_succ])
  refine wpAnyH_ready (rs := [3]) (by kernel_rfl) (by simp) ?_
  refine consL rfl (fun K hK => ?_) AllReadyH.nil
  go_simp
  refine (within7_any a.n 9 _ (by omega) (by omega)).mono ?_
  rintro e V1 ⟨he, hV⟩
  rw [unhide HZ] at he
  subst he
  replace hV := hV.symm
  subst hV
  go_wp2_with fail
  refine hK.out _ _ (unhide HH) (fun hHeld => ?_)
  clear hK K HH
  have HH := hide hHeld
  clear hHeld
  (try simp only [Act.put, List.setIfInBounds_toArray, List.set_cons_zero, List.set_cons_succ])
  refine takeL (i := 4) (v := ?_) rfl (by kernel_rfl) (by kernel_rfl) (by kernel_rfl) (fun _ _ _ h => h) (Or.inl ⟨by rfl, ?_⟩) (unhide HH) ?_
  rotate_left 1
  · intro W1 ⟨s1, s2⟩; go_simp; all_goals (with_reducible rfl)
  (try simp only [Act.put, List.setIfInBounds_toArray, List.set_cons_zero, List.set_cons_succ])
  refine wpAnyH_ready (rs := [7]) (by kernel_rfl) (by simp) ?_
  refine consL rfl (fun K hK => ?_) AllReadyH.nil
  go_simp
  refine (rstop_any (unhide HR) (z - 1) (by omega) _ _ _ a.gb a.x (unhide HW).ab (by have := (unhide HW).nb; omega)).mono ?_
  rintro e V1 ⟨⟨r, rfl⟩, ⟨L1, hL, hM⟩, hK1⟩
  have HR1 := hide hM
  have HL1 := hide hL
  have HN1 := hide ((unhide HN).kr hK1)
  have HW1 := hide ((unhide HW).kr hK1)
  clear hM hL hK1 HN HR HW
  go_wp2_with fail
  refine hK.out _ _ (⟨cell_blk (unhide HW1).bx rfl, cell_blk (unhide HW1).bx rfl⟩) (fun hHeld => ?_)
  clear hK K HH
  have HH := hide hHeld
  clear hHeld
  (try simp only [Act.put, List.setIfInBounds_toArray, List.set_cons_zero, List.set_cons_succ])
  refine wpAnyH_done (by kernel_rfl) ?_ _
  refine NoPanic.normal ?_
  exact unhide HQ _ _ _ _ _ _ _ _ _ ⟨L, L1, { s with left := (z - 1).toNat, mask := a.x }, rfl, unhide HL1, ⟨rfl, rfl, rfl⟩, by have h := unhide HN1; rw [unhide HZ] at h; exact h, unhide HR1, (unhide HW1).be⟩


end Go.Proofs.Ytnondiaefpdlpaa

namespace Go.Proofs.Ytnondiaefpdlpaa
open Go.RowKit Go.Shelf

set_option maxRecDepth 1000000 in
set_option maxHeartbeats 16000000 in
theorem do_k11 {Q : Exit → Act → World → Prop} {c0 c4 c5 c6 c10 c11 c12 c13 c14 c15 c16 c17 c18 c19 c20 c21 c22 c23 c24 c25 c26 c27 c28 c29 c30 c31 c32 c33 c34 c35 c36 c37 c38 c39 c40 c41 c42 c43 c44 c45 c46 c47 c48 c49 c50 c51 c52 c53 c54 c55 c56 c57 c58 c59 c60 c61 c62 c63 c64 c65 c66 c67 c68 c69 c70 c71 c72 c73 c74 c75 c76 c77 c78 c79 c80 c81 c82 c83 c84 c85 c86 c87 c88 c89 c90 c91 c92 c93 c94 c95 c96 c97 c98 c99 c100 c101 c102 c103 c104 c105 c106 c107 c108 c109 c110 c111 c112 c113 c114 c115 c116 c117 c118 c119 c120 c121 c122 c123 c124 c125 c126 c127 c128 c129 c130 c131 c132 c133 c134 c135 c136 c137 c138 c139 c140 c141 c142 c143 c144 c145 c146 c147 c148 c149 c150 c151 c152 c153 c154 c155 c156 c157 c158 c159 c160 c161 c162 c163 c164 c165 c166 c167 c168 c169 c170 c171 c172 c173 c174 c175 c176 c177 c178 c179 c180 c181 c182 c183 c184 c185 c186 c187 c188 c189 c190 c191 c192 c193 c194 c195 c196 c197 c198 c199 c200 c201 c202 c203 c204 : Value} {m : Nat} {w V0 : World} {L : La} {L' : Lr} {s : Nd} {a : AD} {box : Nat} {d b p : Int} (hN : NA m V0 L s) (hR : RA m V0 L' s) (hW : DoW m w V0 a box) (hP0 : 0 < s.P) (hk : a.k % 13 = 11) (hret : ∀ (vals : Array Value) (W' : World), vals[6]? = some (.bool true) → DoPost m w L.n L'.n s W' → Q .ret ⟨vals, []⟩ W')
    : Code.wp Try.prog doT Q ⟨List.toArray (c0 :: (.pointer (some ⟨L.n, 0, none⟩)) :: (.pointer (some ⟨L'.n, 0, none⟩)) :: (.pointer (some ⟨box, 0, none⟩)) :: c4 :: c5 :: c6 :: (.int .i64 d) :: (.int .i64 b) :: (.int .i64 p) :: c10 :: c11 :: c12 :: c13 :: c14 :: c15 :: c16 :: c17 :: c18 :: c19 :: c20 :: c21 :: c22 :: c23 :: c24 :: c25 :: c26 :: c27 :: c28 :: c29 :: c30 :: c31 :: c32 :: c33 :: c34 :: c35 :: c36 :: c37 :: c38 :: c39 :: c40 :: c41 :: c42 :: c43 :: c44 :: c45 :: c46 :: c47 :: c48 :: c49 :: c50 :: c51 :: c52 :: c53 :: c54 :: c55 :: c56 :: c57 :: c58 :: c59 :: c60 :: c61 :: c62 :: c63 :: c64 :: c65 :: c66 :: c67 :: c68 :: c69 :: c70 :: c71 :: c72 :: c73 :: c74 :: c75 :: c76 :: c77 :: c78 :: c79 :: c80 :: c81 :: c82 :: c83 :: c84 :: c85 :: c86 :: c87 :: c88 :: c89 :: c90 :: c91 :: c92 :: c93 :: c94 :: c95 :: c96 :: c97 :: c98 :: c99 :: c100 :: c101 :: c102 :: c103 :: c104 :: c105 :: c106 :: c107 :: c108 :: c109 :: c110 :: c111 :: c112 :: c113 :: c114 :: c115 :: c116 :: c117 :: c118 :: c119 :: c120 :: c121 :: c122 :: c123 :: c124 :: c125 :: c126 :: c127 :: c128 :: c129 :: c130 :: c131 :: c132 :: c133 :: c134 :: c135 :: c136 :: c137 :: c138 :: c139 :: c140 :: c141 :: c142 :: c143 :: c144 :: c145 :: c146 :: c147 :: c148 :: c149 :: c150 :: c151 :: c152 :: c153 :: c154 :: c155 :: c156 :: c157 :: c158 :: c159 :: c160 :: c161 :: c162 :: c163 :: c164 :: c165 :: c166 :: c167 :: c168 :: c169 :: c170 :: c171 :: c172 :: c173 :: c174 :: c175 :: c176 :: c177 :: c178 :: c179 :: c180 :: c181 :: c182 :: c183 :: c184 :: c185 :: c186 :: c187 :: c188 :: c189 :: c190 :: c191 :: c192 :: c193 :: c194 :: c195 :: c196 :: c197 :: c198 :: c199 :: c200 :: c201 :: c202 :: c203 :: c204 :: []), []⟩ V0 := by
  conv => arg 2; whnf
  have HQ := hide hret
  have b0 : V0.cell? ⟨box, 0, none⟩ = some (.int .i64 a.k) := cell_blk hW.bx rfl
  have HN := hide hN
  have HR := hide hR
  have HW := hide hW
  have HP := hide hP0
  clear hP0
  clear hN hR hW hret
  go_wp2_with fail
  refine (within7_any _ 13 _ (by omega) (by omega)).mono ?_
  rintro e V1 ⟨he, hV⟩
  rw [hk] at he
  subst he
  replace hV := hV.symm
  subst hV
  clear b0 hk
  go_wp2_with fail
  refine do_r29 (unhide HN) (unhide HR) (unhide HW) ?_
  intro u189 u190 u191 u192 u193 u194 u195 u196 L1 W1 hL hN1 hR1 hW1
  have HL1 := hide hL
  have HN1 := hide hN1
  have HR1 := hide hR1
  have HW1 := hide hW1
  clear hL hN1 hR1 hW1 HN HR HW
  go_wp2_with fail
  refine do_r30 (unhide HN1) (unhide HR1) (unhide HW1) ?_
  intro u197 u198 u199 u200 u201 u202 u203 u204 W2 hPo
  rw [unhide HL1] at hPo
  have HPo := hide hPo
  clear hPo HN1 HR1 HW1
  go_wp2_with fail
  exact unhide HQ _ _ rfl (unhide HPo)

set_option maxRecDepth 1000000 in
set_option maxHeartbeats 16000000 in
theorem do_k12 {Q : Exit → Act → World → Prop} {c0 c4 c5 c6 c10 c11 c12 c13 c14 c15 c16 c17 c18 c19 c20 c21 c22 c23 c24 c25 c26 c27 c28 c29 c30 c31 c32 c33 c34 c35 c36 c37 c38 c39 c40 c41 c42 c43 c44 c45 c46 c47 c48 c49 c50 c51 c52 c53 c54 c55 c56 c57 c58 c59 c60 c61 c62 c63 c64 c65 c66 c67 c68 c69 c70 c71 c72 c73 c74 c75 c76 c77 c78 c79 c80 c81 c82 c83 c84 c85 c86 c87 c88 c89 c90 c91 c92 c93 c94 c95 c96 c97 c98 c99 c100 c101 c102 c103 c104 c105 c106 c107 c108 c109 c110 c111 c112 c113 c114 c115 c116 c117 c118 c119 c120 c121 c122 c123 c124 c125 c126 c127 c128 c129 c130 c131 c132 c133 c134 c135 c136 c137 c138 c139 c140 c141 c142 c143 c144 c145 c146 c147 c148 c149 c150 c151 c152 c153 c154 c155 c156 c157 c158 c159 c160 c161 c162 c163 c164 c165 c166 c167 c168 c169 c170 c171 c172 c173 c174 c175 c176 c177 c178 c179 c180 c181 c182 c183 c184 c185 c186 c187 c188 c189 c190 c191 c192 c193 c194 c195 c196 c197 c198 c199 c200 c201 c202 c203 c204 : Value} {m : Nat} {w V0 : World} {L : La} {L' : Lr} {s : Nd} {a : AD} {box : Nat} {d b p : Int} (hN : NA m V0 L s) (hR : RA m V0 L' s) (hW : DoW m w V0 a box)  (hk : a.k % 13 = 12) (hret : ∀ (vals : Array Value) (W' : World), vals[6]? = some (.bool true) → DoPost m w L.n L'.n s W' → Q .ret ⟨vals, []⟩ W')
    : Code.wp Try.prog doT Q ⟨List.toArray (c0 :: (.pointer (some ⟨L.n, 0, none⟩)) :: (.pointer (some ⟨L'.n, 0, none⟩)) :: (.pointer (some ⟨box, 0, none⟩)) :: c4 :: c5 :: c6 :: (.int .i64 d) :: (.int .i64 b) :: (.int .i64 p) :: c10 :: c11 :: c12 :: c13 :: c14 :: c15 :: c16 :: c17 :: c18 :: c19 :: c20 :: c21 :: c22 :: c23 :: c24 :: c25 :: c26 :: c27 :: c28 :: c29 :: c30 :: c31 :: c32 :: c33 :: c34 :: c35 :: c36 :: c37 :: c38 :: c39 :: c40 :: c41 :: c42 :: c43 :: c44 :: c45 :: c46 :: c47 :: c48 :: c49 :: c50 :: c51 :: c52 :: c53 :: c54 :: c55 :: c56 :: c57 :: c58 :: c59 :: c60 :: c61 :: c62 :: c63 :: c64 :: c65 :: c66 :: c67 :: c68 :: c69 :: c70 :: c71 :: c72 :: c73 :: c74 :: c75 :: c76 :: c77 :: c78 :: c79 :: c80 :: c81 :: c82 :: c83 :: c84 :: c85 :: c86 :: c87 :: c88 :: c89 :: c90 :: c91 :: c92 :: c93 :: c94 :: c95 :: c96 :: c97 :: c98 :: c99 :: c100 :: c101 :: c102 :: c103 :: c104 :: c105 :: c106 :: c107 :: c108 :: c109 :: c110 :: c111 :: c112 :: c113 :: c114 :: c115 :: c116 :: c117 :: c118 :: c119 :: c120 :: c121 :: c122 :: c123 :: c124 :: c125 :: c126 :: c127 :: c128 :: c129 :: c130 :: c131 :: c132 :: c133 :: c134 :: c135 :: c136 :: c137 :: c138 :: c139 :: c140 :: c141 :: c142 :: c143 :: c144 :: c145 :: c146 :: c147 :: c148 :: c149 :: c150 :: c151 :: c152 :: c153 :: c154 :: c155 :: c156 :: c157 :: c158 :: c159 :: c160 :: c161 :: c162 :: c163 :: c164 :: c165 :: c166 :: c167 :: c168 :: c169 :: c170 :: c171 :: c172 :: c173 :: c174 :: c175 :: c176 :: c177 :: c178 :: c179 :: c180 :: c181 :: c182 :: c183 :: c184 :: c185 :: c186 :: c187 :: c188 :: c189 :: c190 :: c191 :: c192 :: c193 :: c194 :: c195 :: c196 :: c197 :: c198 :: c199 :: c200 :: c201 :: c202 :: c203 :: c204 :: []), []⟩ V0 := by
  conv => arg 2; whnf
  have HQ := hide hret
  have b0 : V0.cell? ⟨box, 0, none⟩ = some (.int .i64 a.k) := cell_blk hW.bx rfl
  have HN := hide hN
  have HR := hide hR
  have HW := hide hW
  clear hN hR hW hret
  go_wp2_with fail
  refine (within7_any _ 13 _ (by omega) (by omega)).mono ?_
  rintro e V1 ⟨he, hV⟩
  rw [hk] at he
  subst he
  replace hV := hV.symm
  subst hV
  clear b0 hk
  go_wp2_with fail
  refine (power_any (unhide HN)).mono ?_
  rintro e V1 ⟨⟨r, rfl⟩, ⟨L1, hL1, hM⟩, hK1⟩
  have HN1 := hide hM
  have HL1 := hide hL1
  have HR1 := hide ((unhide HR).kn hK1)
  have HW1 := hide ((unhide HW).kn hK1)
  clear hM hL1 hK1 HN HR HW
  go_wp2_with fail
  refine (rpower_any (unhide HR1)).mono ?_
  rintro e V2 ⟨⟨r, rfl⟩, hM, hK1⟩
  have HR2 := hide hM
  have HN2 := hide ((unhide HN1).kr hK1)
  have HW2 := hide ((unhide HW1).kr hK1)
  clear hM hK1 HN1 HR1 HW1
  go_wp2_with fail
  exact unhide HQ _ _ rfl ⟨L1, L', { s with dead := false, left := 0 }, unhide HL1, rfl, ⟨rfl, rfl, rfl⟩, unhide HN2, unhide HR2, (unhide HW2).be⟩


end Go.Proofs.Ytnondiaefpdlpaa
