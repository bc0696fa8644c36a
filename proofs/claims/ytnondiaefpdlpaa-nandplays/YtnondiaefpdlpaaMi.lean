/-
  (Act).Do: programming bytes of sixty.
  (Act).Do: by what is to be done.
  (Act).Do: by what is to be done.
-/
import Derived.Test.YtnondiaefpdlpaaMn
namespace Go.Proofs.Ytnondiaefpdlpaa
open Go.RowKit Go.Shelf

set_option maxRecDepth 1000000 in
set_option maxHeartbeats 16000000 in
theorem do_r16 {Q : Exit → Act → World → Prop} {c0 c4 c5 c6 c10 c11 c12 c13 c14 c15 c16 c17 c18 c19 c20 c21 c22 c23 c24 c25 c26 c27 c28 c29 c30 c31 c32 c33 c34 c35 c36 c37 c38 c39 c40 c41 c42 c43 c44 c45 c46 c47 c48 c49 c50 c51 c52 c53 c54 c55 c56 c57 c58 c59 c60 c61 c62 c63 c64 c65 c66 c67 c68 c69 c70 c71 c72 c73 c74 c75 c76 c77 c78 c79 c80 c81 c82 c83 c84 c85 c86 c87 c88 c89 c90 c91 c92 c93 c94 c95 c96 c97 c98 c99 c100 c101 c102 c103 c104 c105 c106 c107 c108 c109 c110 c111 c112 c113 c114 c115 c116 c117 c118 c119 c120 c121 c122 c123 c124 c125 c126 c127 c128 c129 c130 c131 c132 c133 c134 c135 c136 c137 c138 c139 c140 c141 c142 c143 c144 c145 c146 c147 c148 c149 c150 c151 c152 c153 c154 c155 c156 c157 c158 c159 c160 c161 c162 c163 c164 c165 c166 c167 c168 c169 c170 c171 c172 c173 c174 c175 c176 c177 c178 c179 c180 c181 c182 c183 c184 c185 c186 c187 c188 c189 c190 c191 c192 c193 c194 c195 c196 c197 c198 c199 c200 c201 c202 c203 c204 : Value} {m : Nat} {w V0 : World} {L : La} {L' : Lr} {s : Nd} {a : AD} {box : Nat} {d b p : Int} (hN : NA m V0 L s) (hR : RA m V0 L' s) (hW : DoW m w V0 a box)  (hret : ∀ (vals : Array Value) (W' : World), vals[6]? = some (.bool true) → DoPost m w L.n L'.n s W' → Q .normal ⟨vals, []⟩ W')
    : Code.wp Try.prog do16 Q ⟨List.toArray (c0 :: (.pointer (some ⟨L.n, 0, none⟩)) :: (.pointer (some ⟨L'.n, 0, none⟩)) :: (.pointer (some ⟨box, 0, none⟩)) :: c4 :: c5 :: c6 :: (.int .i64 d) :: (.int .i64 b) :: (.int .i64 p) :: c10 :: c11 :: c12 :: c13 :: c14 :: c15 :: c16 :: c17 :: c18 :: c19 :: c20 :: c21 :: c22 :: c23 :: c24 :: c25 :: c26 :: c27 :: c28 :: c29 :: c30 :: c31 :: c32 :: c33 :: c34 :: c35 :: c36 :: c37 :: c38 :: c39 :: c40 :: c41 :: c42 :: c43 :: c44 :: c45 :: c46 :: c47 :: c48 :: c49 :: c50 :: c51 :: c52 :: c53 :: c54 :: c55 :: c56 :: c57 :: c58 :: c59 :: c60 :: c61 :: c62 :: c63 :: c64 :: c65 :: c66 :: c67 :: c68 :: c69 :: c70 :: c71 :: c72 :: c73 :: c74 :: c75 :: c76 :: c77 :: c78 :: c79 :: c80 :: c81 :: c82 :: c83 :: c84 :: c85 :: c86 :: c87 :: c88 :: c89 :: c90 :: c91 :: c92 :: c93 :: c94 :: c95 :: c96 :: c97 :: c98 :: c99 :: c100 :: c101 :: c102 :: c103 :: c104 :: c105 :: c106 :: c107 :: c108 :: c109 :: c110 :: c111 :: c112 :: c113 :: c114 :: c115 :: c116 :: c117 :: c118 :: c119 :: c120 :: c121 :: c122 :: c123 :: c124 :: c125 :: c126 :: c127 :: c128 :: c129 :: c130 :: c131 :: c132 :: c133 :: c134 :: c135 :: c136 :: c137 :: c138 :: c139 :: c140 :: c141 :: c142 :: c143 :: c144 :: c145 :: c146 :: c147 :: c148 :: c149 :: c150 :: c151 :: c152 :: c153 :: c154 :: c155 :: c156 :: c157 :: c158 :: c159 :: c160 :: c161 :: c162 :: c163 :: c164 :: c165 :: c166 :: c167 :: c168 :: c169 :: c170 :: c171 :: c172 :: c173 :: c174 :: c175 :: c176 :: c177 :: c178 :: c179 :: c180 :: c181 :: c182 :: c183 :: c184 :: c185 :: c186 :: c187 :: c188 :: c189 :: c190 :: c191 :: c192 :: c193 :: c194 :: c195 :: c196 :: c197 :: c198 :: c199 :: c200 :: c201 :: c202 :: c203 :: c204 :: []), []⟩ V0 := by
  conv => arg 2; whnf
  have HQ := hide hret
  have HN : Hid (NA m V0.drew L s) := hN.below ((Below.refl _ _).drew)
  have HR : Hid (RA m V0.drew L' s) := hR.below ((Below.refl _ _).drew)
  have HW : Hid (DoW m w V0.drew a box) := hW.drew
  clear hN hR hW hret
  refine wp_region_noPanic ?_
  refine wp_region_held_drew (S := fun W => W.cell? ⟨box, 5, none⟩ = some (.slice a.bo a.bn a.bc)) (by kernel_rfl) ?_ (fun hHeld => ?_)
  · exact cell_blk (unhide HW).bx rfl
  have HH := hide hHeld
  clear hHeld
  generalize V0.drew = V at HN HR HW HH ⊢
  refine takeL (i := 0) (v := ?_) rfl (by kernel_rfl) (by kernel_rfl) (by kernel_rfl) (fun _ _ _ h => h) (Or.inl ⟨by rfl, ?_⟩) (unhide HH) ?_
  rotate_left 1
  · intro W1 s1; go_simp; all_goals (with_reducible rfl)
  (try simp only [Act.put, List.setIfInBounds_toArray, List.set_cons_zero, List.set_cons_succ])
  refine takeL (i := 1) (v := ?_) rfl (by kernel_rfl) (by kernel_rfl) (by kernel_rfl) (fun _ _ _ h => h) (Or.inl ⟨by rfl, ?_⟩) (unhide HH) ?_
  rotate_left 1
  · intro W1 s1; go_simp; all_goals (with_reducible rfl)
  (try simp only [Act.put, List.setIfInBounds_toArray, List.set_cons_zero, List.set_cons_succ])
  refine takeL (i := 2) (v := ?_) rfl (by kernel_rfl) (by kernel_rfl) (by kernel_rfl) (fun _ _ _ h => h) (Or.inl ⟨by rfl, ?_⟩) (unhide HH) ?_
  rotate_left 1
  · intro W1 s1; go_simp; all_goals (with_reducible rfl)
  (try simp only [Act.put, List.setIfInBounds_toArray, List.set_cons_zero, List.set_cons_succ])
  refine takeL (i := 3) (v := ?_) rfl (by kernel_rfl) (by kernel_rfl) (by kernel_rfl) (fun _ _ _ h => h) (Or.inl ⟨by rfl, ?_⟩) (unhide HH) ?_
  rotate_left 1
  · intro W1 s1; go_simp; all_goals (with_reducible rfl)
  (try simp only [Act.put, List.setIfInBounds_toArray, List.set_cons_zero, List.set_cons_succ])
  refine takeL (i := 4) (v := ?_) rfl (by kernel_rfl) (by kernel_rfl) (by kernel_rfl) (fun _ _ _ h => h) (Or.inl ⟨by rfl, ?_⟩) (unhide HH) ?_
  rotate_left 1
  · intro W1 s1; go_simp; all_goals (with_reducible rfl)
  (try simp only [Act.put, List.setIfInBounds_toArray, List.set_cons_zero, List.set_cons_succ])
  refine takeL (i := 5) (v := ?_) rfl (by kernel_rfl) (by kernel_rfl) (by kernel_rfl) (fun _ _ _ h => h) (Or.inl ⟨by rfl, ?_⟩) (unhide HH) ?_
  rotate_left 1
  · intro W1 s1; go_simp; all_goals (with_reducible rfl)
  (try simp only [Act.put, List.setIfInBounds_toArray, List.set_cons_zero, List.set_cons_succ])
  refine takeL (i := 8) (v := ?_) rfl (by kernel_rfl) (by kernel_rfl) (by kernel_rfl) (fun _ _ _ h => h) (Or.inl ⟨by rfl, ?_⟩) (unhide HH) ?_
  rotate_left 1
  · intro W1 s1; go_simp; all_goals (with_reducible rfl)
  (try simp only [Act.put, List.setIfInBounds_toArray, List.set_cons_zero, List.set_cons_succ])
  refine takeL (i := 9) (v := ?_) rfl (by kernel_rfl) (by kernel_rfl) (by kernel_rfl) (fun _ _ _ h => h) (Or.inl ⟨by rfl, ?_⟩) (unhide HH) ?_
  rotate_left 1
  · intro W1 s1; go_simp; all_goals (with_reducible rfl)
  (try simp only [Act.put, List.setIfInBounds_toArray, List.set_cons_zero, List.set_cons_succ])
  refine takeL (i := 10) (v := ?_) rfl (by kernel_rfl) (by kernel_rfl) (by kernel_rfl) (fun _ _ _ h => h) (Or.inl ⟨by rfl, ?_⟩) (unhide HH) ?_
  rotate_left 1
  · intro W1 s1; go_simp; all_goals (with_reducible rfl)
  (try simp only [Act.put, List.setIfInBounds_toArray, List.set_cons_zero, List.set_cons_succ])
  refine takeL (i := 11) (v := ?_) rfl (by kernel_rfl) (by kernel_rfl) (by kernel_rfl) (fun _ _ _ h => h) (Or.inl ⟨by rfl, ?_⟩) (unhide HH) ?_
  rotate_left 1
  · intro W1 s1; go_simp; all_goals (with_reducible rfl)
  (try simp only [Act.put, List.setIfInBounds_toArray, List.set_cons_zero, List.set_cons_succ])
  refine takeL (i := 12) (v := ?_) rfl (by kernel_rfl) (by kernel_rfl) (by kernel_rfl) (fun _ _ _ h => h) (Or.inl ⟨by rfl, ?_⟩) (unhide HH) ?_
  rotate_left 1
  · intro W1 s1; go_simp; all_goals (with_reducible rfl)
  (try simp only [Act.put, List.setIfInBounds_toArray, List.set_cons_zero, List.set_cons_succ])
  refine takeL (i := 13) (v := ?_) rfl (by kernel_rfl) (by kernel_rfl) (by kernel_rfl) (fun _ _ _ h => h) (Or.inl ⟨by rfl, ?_⟩) (unhide HH) ?_
  rotate_left 1
  · intro W1 s1; go_simp; all_goals (with_reducible rfl)
  (try simp only [Act.put, List.setIfInBounds_toArray, List.set_cons_zero, List.set_cons_succ])
  refine wpAnyH_ready (rs := [6]) (by kernel_rfl) (by simp) ?_
  refine consL rfl (fun K hK => ?_) AllReadyH.nil
  go_simp
  refine (bytes7_any _ _ a.x _ (unhide HW).ab).mono ?_
  rintro e V1 ⟨v1, rfl, hF, hk⟩
  obtain ⟨g1, hA, hS⟩ := hF.safe (m := m) (by60_bs (unhide HW).ab.bs)
  have HN1 := hide ((unhide HN).below hk)
  have HR1 := hide ((unhide HR).below hk)
  have HW1 := hide ((unhide HW).below hk (unhide HN).n_lt)
  have HA1 := hide hA
  have HS1 := hide hS
  obtain ⟨vo1, vc1, rfl⟩ : ∃ o c, v1 = .slice o 60 c := by
    obtain ⟨o, c, h⟩ := hF.shape
    exact ⟨o, c, by rw [h, by60_len]⟩
  clear hF hk hA hS HN HR HW
  go_wp2_with fail
  refine hK.out _ _ (cell_blk (unhide HW1).bx rfl) (fun hHeld => ?_)
  clear hK K HH
  have HH := hide hHeld
  clear hHeld
  (try simp only [Act.put, List.setIfInBounds_toArray, List.set_cons_zero, List.set_cons_succ])
  refine wpAnyH_ready (rs := [7]) (by kernel_rfl) (by simp) ?_
  refine consL rfl (fun K hK => ?_) AllReadyH.nil
  go_simp
  refine (prog_u (unhide HN1) d b p _ 60 _ g1 (by60 a.x) (unhide HA1) (unhide HS1)).mono ?_
  rintro e V2 ⟨rfl, ⟨L2, hL, hM⟩, hK1⟩
  have HN2 := hide hM
  have HL2 := hide hL
  have HR2 := hide ((unhide HR1).kn hK1)
  have HW2 := hide ((unhide HW1).kn hK1)
  clear hM hL hK1 HN1 HR1 HW1
  go_wp2_with fail
  refine hK.out _ _ (cell_blk (unhide HW2).bx rfl) (fun hHeld => ?_)
  clear hK K HH
  have HH := hide hHeld
  clear hHeld
  (try simp only [Act.put, List.setIfInBounds_toArray, List.set_cons_zero, List.set_cons_succ])
  refine wpAnyH_ready (rs := [14]) (by kernel_rfl) (by simp) ?_
  refine consL rfl (fun K hK => ?_) AllReadyH.nil
  go_simp
  refine (bytes7_any _ _ a.x _ (unhide HW2).ab).mono ?_
  rintro e V3 ⟨v3, rfl, hF, hk⟩
  obtain ⟨g3, hA, hS⟩ := hF.safe (m := m) (by60_bs (unhide HW2).ab.bs)
  have HN3 := hide ((unhide HN2).below hk)
  have HR3 := hide ((unhide HR2).below hk)
  have HW3 := hide ((unhide HW2).below hk (unhide HN2).n_lt)
  have HA3 := hide hA
  have HS3 := hide hS
  obtain ⟨vo3, vc3, rfl⟩ : ∃ o c, v3 = .slice o 60 c := by
    obtain ⟨o, c, h⟩ := hF.shape
    exact ⟨o, c, by rw [h, by60_len]⟩
  clear hF hk hA hS HN2 HR2 HW2
  go_wp2_with fail
  refine hK.out _ _ (cell_blk (unhide HW3).bx rfl) (fun hHeld => ?_)
  clear hK K HH
  have HH := hide hHeld
  clear hHeld
  (try simp only [Act.put, List.setIfInBounds_toArray, List.set_cons_zero, List.set_cons_succ])
  refine wpAnyH_ready (rs := [15]) (by kernel_rfl) (by simp) ?_
  refine consL rfl (fun K hK => ?_) AllReadyH.nil
  go_simp
  refine (rprog_u (unhide HR3) d b p _ 60 _ g3 (by60 a.x) (unhide HA3) (unhide HS3)).mono ?_
  rintro e V4 ⟨rfl, ⟨L4, hL, hM⟩, hK1⟩
  have HR4 := hide hM
  have HL4 := hide hL
  have HN4 := hide ((unhide HN3).kr hK1)
  have HW4 := hide ((unhide HW3).kr hK1)
  clear hM hL hK1 HN3 HR3 HW3
  go_wp2_with fail
  refine hK.out _ _ (cell_blk (unhide HW4).bx rfl) (fun hHeld => ?_)
  clear hK K HH
  have HH := hide hHeld
  clear hHeld
  (try simp only [Act.put, List.setIfInBounds_toArray, List.set_cons_zero, List.set_cons_succ])
  refine takeL (i := 16) (v := ?_) rfl (by kernel_rfl) (by kernel_rfl) (by kernel_rfl) (fun _ _ _ h => h) (Or.inl ⟨by rfl, ?_⟩) (unhide HH) ?_
  rotate_left 1
  · intro W1 s1; go_simp; all_goals (with_reducible rfl)
  (try simp only [Act.put, List.setIfInBounds_toArray, List.set_cons_zero, List.set_cons_succ])
  refine takeL (i := 17) (v := ?_) rfl (by kernel_rfl) (by kernel_rfl) (by kernel_rfl) (fun _ _ _ h => h) (Or.inl ⟨by rfl, ?_⟩) (unhide HH) ?_
  rotate_left 1
  · intro W1 s1; go_simp; all_goals (with_reducible rfl)
  (try simp only [Act.put, List.setIfInBounds_toArray, List.set_cons_zero, List.set_cons_succ])
  refine wpAnyH_done (by kernel_rfl) ?_ _
  refine NoPanic.normal ?_
  exact unhide HQ _ _ rfl ⟨L2, L4, _, unhide HL2, unhide HL4, geo_p s d b p (by60 a.x), unhide HN4, unhide HR4, (unhide HW4).be⟩


end Go.Proofs.Ytnondiaefpdlpaa

namespace Go.Proofs.Ytnondiaefpdlpaa
open Go.RowKit Go.Shelf

set_option maxRecDepth 1000000 in
set_option maxHeartbeats 16000000 in
theorem do_k0 {Q : Exit → Act → World → Prop} {c0 c4 c5 c6 c10 c11 c12 c13 c14 c15 c16 c17 c18 c19 c20 c21 c22 c23 c24 c25 c26 c27 c28 c29 c30 c31 c32 c33 c34 c35 c36 c37 c38 c39 c40 c41 c42 c43 c44 c45 c46 c47 c48 c49 c50 c51 c52 c53 c54 c55 c56 c57 c58 c59 c60 c61 c62 c63 c64 c65 c66 c67 c68 c69 c70 c71 c72 c73 c74 c75 c76 c77 c78 c79 c80 c81 c82 c83 c84 c85 c86 c87 c88 c89 c90 c91 c92 c93 c94 c95 c96 c97 c98 c99 c100 c101 c102 c103 c104 c105 c106 c107 c108 c109 c110 c111 c112 c113 c114 c115 c116 c117 c118 c119 c120 c121 c122 c123 c124 c125 c126 c127 c128 c129 c130 c131 c132 c133 c134 c135 c136 c137 c138 c139 c140 c141 c142 c143 c144 c145 c146 c147 c148 c149 c150 c151 c152 c153 c154 c155 c156 c157 c158 c159 c160 c161 c162 c163 c164 c165 c166 c167 c168 c169 c170 c171 c172 c173 c174 c175 c176 c177 c178 c179 c180 c181 c182 c183 c184 c185 c186 c187 c188 c189 c190 c191 c192 c193 c194 c195 c196 c197 c198 c199 c200 c201 c202 c203 c204 : Value} {m : Nat} {w V0 : World} {L : La} {L' : Lr} {s : Nd} {a : AD} {box : Nat} {d b p : Int} (hN : NA m V0 L s) (hR : RA m V0 L' s) (hW : DoW m w V0 a box) (hd0 : 0 ≤ d)  (hk : a.k % 13 = 0) (hret : ∀ (vals : Array Value) (W' : World), vals[6]? = some (.bool true) → DoPost m w L.n L'.n s W' → Q .ret ⟨vals, []⟩ W')
    : Code.wp Try.prog doT Q ⟨List.toArray (c0 :: (.pointer (some ⟨L.n, 0, none⟩)) :: (.pointer (some ⟨L'.n, 0, none⟩)) :: (.pointer (some ⟨box, 0, none⟩)) :: c4 :: c5 :: c6 :: (.int .i64 d) :: (.int .i64 b) :: (.int .i64 p) :: c10 :: c11 :: c12 :: c13 :: c14 :: c15 :: c16 :: c17 :: c18 :: c19 :: c20 :: c21 :: c22 :: c23 :: c24 :: c25 :: c26 :: c27 :: c28 :: c29 :: c30 :: c31 :: c32 :: c33 :: c34 :: c35 :: c36 :: c37 :: c38 :: c39 :: c40 :: c41 :: c42 :: c43 :: c44 :: c45 :: c46 :: c47 :: c48 :: c49 :: c50 :: c51 :: c52 :: c53 :: c54 :: c55 :: c56 :: c57 :: c58 :: c59 :: c60 :: c61 :: c62 :: c63 :: c64 :: c65 :: c66 :: c67 :: c68 :: c69 :: c70 :: c71 :: c72 :: c73 :: c74 :: c75 :: c76 :: c77 :: c78 :: c79 :: c80 :: c81 :: c82 :: c83 :: c84 :: c85 :: c86 :: c87 :: c88 :: c89 :: c90 :: c91 :: c92 :: c93 :: c94 :: c95 :: c96 :: c97 :: c98 :: c99 :: c100 :: c101 :: c102 :: c103 :: c104 :: c105 :: c106 :: c107 :: c108 :: c109 :: c110 :: c111 :: c112 :: c113 :: c114 :: c115 :: c116 :: c117 :: c118 :: c119 :: c120 :: c121 :: c122 :: c123 :: c124 :: c125 :: c126 :: c127 :: c128 :: c129 :: c130 :: c131 :: c132 :: c133 :: c134 :: c135 :: c136 :: c137 :: c138 :: c139 :: c140 :: c141 :: c142 :: c143 :: c144 :: c145 :: c146 :: c147 :: c148 :: c149 :: c150 :: c151 :: c152 :: c153 :: c154 :: c155 :: c156 :: c157 :: c158 :: c159 :: c160 :: c161 :: c162 :: c163 :: c164 :: c165 :: c166 :: c167 :: c168 :: c169 :: c170 :: c171 :: c172 :: c173 :: c174 :: c175 :: c176 :: c177 :: c178 :: c179 :: c180 :: c181 :: c182 :: c183 :: c184 :: c185 :: c186 :: c187 :: c188 :: c189 :: c190 :: c191 :: c192 :: c193 :: c194 :: c195 :: c196 :: c197 :: c198 :: c199 :: c200 :: c201 :: c202 :: c203 :: c204 :: []), []⟩ V0 := by
  conv => arg 2; whnf
  have HQ := hide hret
  have b0 : V0.cell? ⟨box, 0, none⟩ = some (.int .i64 a.k) := cell_blk hW.bx rfl
  have HN := hide hN
  have HR := hide hR
  have HW := hide hW
  clear hN hR hW hret
  go_wp2_with fail
  refine (within7_any _ 13 _ (by omega) (by omega)).mono ?_
  rintro e V1 ⟨he, hV⟩
  rw [hk] at he
  subst he
  replace hV := hV.symm
  subst hV
  clear b0 hk
  have c0 : V0.cell? ⟨L'.n, 0, none⟩ = some (.int .i64 (s.D : Int)) := (unhide HR).tc 0 rfl
  have c1 : V0.cell? ⟨L'.n, 1, none⟩ = some (.int .i64 (s.B : Int)) := (unhide HR).tc 1 rfl
  by_cases h1 : d < (s.D : Int)
  · by_cases h2 : 0 ≤ b
    · by_cases h3 : b < (s.B : Int)
      · obtain ⟨dn, rfl⟩ := Int.eq_ofNat_of_zero_le hd0
        obtain ⟨bn, rfl⟩ := Int.eq_ofNat_of_zero_le h2
        have hdn : dn < s.D := by omega
        have hbn : bn < s.B := by omega
        have c3 : V0.cell? ⟨L'.n, 3, none⟩ = some (.slice (some ⟨L'.gb, 0, none⟩) s.D L'.xb) := (unhide HR).tc 3 rfl
        have r1 : V0.cell? ⟨L'.gb, dn, none⟩ = some (.slice (some ⟨L'.bs dn, 0, none⟩) s.B (L'.cb dn)) := (unhide HR).rb.cell hdn
        have r2 : V0.cell? ⟨L'.bs dn, bn * 4 + 1, none⟩ = some (.int .i64 (s.next dn bn : Nat)) := (unhide HR).bc hdn hbn (by omega)
        go_wp2_with fail
        clear c0 c1 c3 r1 r2
        refine do_r16 (unhide HN) (unhide HR) (unhide HW) ?_
        intro vals W' hv hPo
        go_wp2_with fail
        exact unhide HQ vals W' hv hPo
      · have h3' : (s.B : Int) ≤ b := by omega
        go_wp2_with fail
        clear c0 c1
        refine do_r16 (unhide HN) (unhide HR) (unhide HW) ?_
        intro vals W' hv hPo
        go_wp2_with fail
        exact unhide HQ vals W' hv hPo
    · have h2' : b < 0 := by omega
      go_wp2_with fail
      clear c0 c1
      refine do_r16 (unhide HN) (unhide HR) (unhide HW) ?_
      intro vals W' hv hPo
      go_wp2_with fail
      exact unhide HQ vals W' hv hPo
  · have h1' : (s.D : Int) ≤ d := by omega
    go_wp2_with fail
    clear c0 c1
    refine do_r16 (unhide HN) (unhide HR) (unhide HW) ?_
    intro vals W' hv hPo
    go_wp2_with fail
    exact unhide HQ vals W' hv hPo

set_option maxRecDepth 1000000 in
set_option maxHeartbeats 16000000 in
theorem do_k1 {Q : Exit → Act → World → Prop} {c0 c4 c5 c6 c10 c11 c12 c13 c14 c15 c16 c17 c18 c19 c20 c21 c22 c23 c24 c25 c26 c27 c28 c29 c30 c31 c32 c33 c34 c35 c36 c37 c38 c39 c40 c41 c42 c43 c44 c45 c46 c47 c48 c49 c50 c51 c52 c53 c54 c55 c56 c57 c58 c59 c60 c61 c62 c63 c64 c65 c66 c67 c68 c69 c70 c71 c72 c73 c74 c75 c76 c77 c78 c79 c80 c81 c82 c83 c84 c85 c86 c87 c88 c89 c90 c91 c92 c93 c94 c95 c96 c97 c98 c99 c100 c101 c102 c103 c104 c105 c106 c107 c108 c109 c110 c111 c112 c113 c114 c115 c116 c117 c118 c119 c120 c121 c122 c123 c124 c125 c126 c127 c128 c129 c130 c131 c132 c133 c134 c135 c136 c137 c138 c139 c140 c141 c142 c143 c144 c145 c146 c147 c148 c149 c150 c151 c152 c153 c154 c155 c156 c157 c158 c159 c160 c161 c162 c163 c164 c165 c166 c167 c168 c169 c170 c171 c172 c173 c174 c175 c176 c177 c178 c179 c180 c181 c182 c183 c184 c185 c186 c187 c188 c189 c190 c191 c192 c193 c194 c195 c196 c197 c198 c199 c200 c201 c202 c203 c204 : Value} {m : Nat} {w V0 : World} {L : La} {L' : Lr} {s : Nd} {a : AD} {box : Nat} {d b p : Int} (hN : NA m V0 L s) (hR : RA m V0 L' s) (hW : DoW m w V0 a box) (hd0 : 0 ≤ d)  (hk : a.k % 13 = 1) (hret : ∀ (vals : Array Value) (W' : World), vals[6]? = some (.bool true) → DoPost m w L.n L'.n s W' → Q .ret ⟨vals, []⟩ W')
    : Code.wp Try.prog doT Q ⟨List.toArray (c0 :: (.pointer (some ⟨L.n, 0, none⟩)) :: (.pointer (some ⟨L'.n, 0, none⟩)) :: (.pointer (some ⟨box, 0, none⟩)) :: c4 :: c5 :: c6 :: (.int .i64 d) :: (.int .i64 b) :: (.int .i64 p) :: c10 :: c11 :: c12 :: c13 :: c14 :: c15 :: c16 :: c17 :: c18 :: c19 :: c20 :: c21 :: c22 :: c23 :: c24 :: c25 :: c26 :: c27 :: c28 :: c29 :: c30 :: c31 :: c32 :: c33 :: c34 :: c35 :: c36 :: c37 :: c38 :: c39 :: c40 :: c41 :: c42 :: c43 :: c44 :: c45 :: c46 :: c47 :: c48 :: c49 :: c50 :: c51 :: c52 :: c53 :: c54 :: c55 :: c56 :: c57 :: c58 :: c59 :: c60 :: c61 :: c62 :: c63 :: c64 :: c65 :: c66 :: c67 :: c68 :: c69 :: c70 :: c71 :: c72 :: c73 :: c74 :: c75 :: c76 :: c77 :: c78 :: c79 :: c80 :: c81 :: c82 :: c83 :: c84 :: c85 :: c86 :: c87 :: c88 :: c89 :: c90 :: c91 :: c92 :: c93 :: c94 :: c95 :: c96 :: c97 :: c98 :: c99 :: c100 :: c101 :: c102 :: c103 :: c104 :: c105 :: c106 :: c107 :: c108 :: c109 :: c110 :: c111 :: c112 :: c113 :: c114 :: c115 :: c116 :: c117 :: c118 :: c119 :: c120 :: c121 :: c122 :: c123 :: c124 :: c125 :: c126 :: c127 :: c128 :: c129 :: c130 :: c131 :: c132 :: c133 :: c134 :: c135 :: c136 :: c137 :: c138 :: c139 :: c140 :: c141 :: c142 :: c143 :: c144 :: c145 :: c146 :: c147 :: c148 :: c149 :: c150 :: c151 :: c152 :: c153 :: c154 :: c155 :: c156 :: c157 :: c158 :: c159 :: c160 :: c161 :: c162 :: c163 :: c164 :: c165 :: c166 :: c167 :: c168 :: c169 :: c170 :: c171 :: c172 :: c173 :: c174 :: c175 :: c176 :: c177 :: c178 :: c179 :: c180 :: c181 :: c182 :: c183 :: c184 :: c185 :: c186 :: c187 :: c188 :: c189 :: c190 :: c191 :: c192 :: c193 :: c194 :: c195 :: c196 :: c197 :: c198 :: c199 :: c200 :: c201 :: c202 :: c203 :: c204 :: []), []⟩ V0 := by
  conv => arg 2; whnf
  have HQ := hide hret
  have b0 : V0.cell? ⟨box, 0, none⟩ = some (.int .i64 a.k) := cell_blk hW.bx rfl
  have HN := hide hN
  have HR := hide hR
  have HW := hide hW
  clear hN hR hW hret
  go_wp2_with fail
  refine (within7_any _ 13 _ (by omega) (by omega)).mono ?_
  rintro e V1 ⟨he, hV⟩
  rw [hk] at he
  subst he
  replace hV := hV.symm
  subst hV
  clear b0 hk
  have c0 : V0.cell? ⟨L'.n, 0, none⟩ = some (.int .i64 (s.D : Int)) := (unhide HR).tc 0 rfl
  have c1 : V0.cell? ⟨L'.n, 1, none⟩ = some (.int .i64 (s.B : Int)) := (unhide HR).tc 1 rfl
  by_cases h1 : d < (s.D : Int)
  · by_cases h2 : 0 ≤ b
    · by_cases h3 : b < (s.B : Int)
      · obtain ⟨dn, rfl⟩ := Int.eq_ofNat_of_zero_le hd0
        obtain ⟨bn, rfl⟩ := Int.eq_ofNat_of_zero_le h2
        have hdn : dn < s.D := by omega
        have hbn : bn < s.B := by omega
        have c3 : V0.cell? ⟨L'.n, 3, none⟩ = some (.slice (some ⟨L'.gb, 0, none⟩) s.D L'.xb) := (unhide HR).tc 3 rfl
        have r1 : V0.cell? ⟨L'.gb, dn, none⟩ = some (.slice (some ⟨L'.bs dn, 0, none⟩) s.B (L'.cb dn)) := (unhide HR).rb.cell hdn
        have r2 : V0.cell? ⟨L'.bs dn, bn * 4 + 1, none⟩ = some (.int .i64 (s.next dn bn : Nat)) := (unhide HR).bc hdn hbn (by omega)
        go_wp2_with fail
        clear c0 c1 c3 r1 r2
        refine do_r16 (unhide HN) (unhide HR) (unhide HW) ?_
        intro vals W' hv hPo
        go_wp2_with fail
        exact unhide HQ vals W' hv hPo
      · have h3' : (s.B : Int) ≤ b := by omega
        go_wp2_with fail
        clear c0 c1
        refine do_r16 (unhide HN) (unhide HR) (unhide HW) ?_
        intro vals W' hv hPo
        go_wp2_with fail
        exact unhide HQ vals W' hv hPo
    · have h2' : b < 0 := by omega
      go_wp2_with fail
      clear c0 c1
      refine do_r16 (unhide HN) (unhide HR) (unhide HW) ?_
      intro vals W' hv hPo
      go_wp2_with fail
      exact unhide HQ vals W' hv hPo
  · have h1' : (s.D : Int) ≤ d := by omega
    go_wp2_with fail
    clear c0 c1
    refine do_r16 (unhide HN) (unhide HR) (unhide HW) ?_
    intro vals W' hv hPo
    go_wp2_with fail
    exact unhide HQ vals W' hv hPo

set_option maxRecDepth 1000000 in
set_option maxHeartbeats 16000000 in
theorem do_k2 {Q : Exit → Act → World → Prop} {c0 c4 c5 c6 c10 c11 c12 c13 c14 c15 c16 c17 c18 c19 c20 c21 c22 c23 c24 c25 c26 c27 c28 c29 c30 c31 c32 c33 c34 c35 c36 c37 c38 c39 c40 c41 c42 c43 c44 c45 c46 c47 c48 c49 c50 c51 c52 c53 c54 c55 c56 c57 c58 c59 c60 c61 c62 c63 c64 c65 c66 c67 c68 c69 c70 c71 c72 c73 c74 c75 c76 c77 c78 c79 c80 c81 c82 c83 c84 c85 c86 c87 c88 c89 c90 c91 c92 c93 c94 c95 c96 c97 c98 c99 c100 c101 c102 c103 c104 c105 c106 c107 c108 c109 c110 c111 c112 c113 c114 c115 c116 c117 c118 c119 c120 c121 c122 c123 c124 c125 c126 c127 c128 c129 c130 c131 c132 c133 c134 c135 c136 c137 c138 c139 c140 c141 c142 c143 c144 c145 c146 c147 c148 c149 c150 c151 c152 c153 c154 c155 c156 c157 c158 c159 c160 c161 c162 c163 c164 c165 c166 c167 c168 c169 c170 c171 c172 c173 c174 c175 c176 c177 c178 c179 c180 c181 c182 c183 c184 c185 c186 c187 c188 c189 c190 c191 c192 c193 c194 c195 c196 c197 c198 c199 c200 c201 c202 c203 c204 : Value} {m : Nat} {w V0 : World} {L : La} {L' : Lr} {s : Nd} {a : AD} {box : Nat} {d b p : Int} (hN : NA m V0 L s) (hR : RA m V0 L' s) (hW : DoW m w V0 a box) (hd0 : 0 ≤ d)  (hk : a.k % 13 = 2) (hret : ∀ (vals : Array Value) (W' : World), vals[6]? = some (.bool true) → DoPost m w L.n L'.n s W' → Q .ret ⟨vals, []⟩ W')
    : Code.wp Try.prog doT Q ⟨List.toArray (c0 :: (.pointer (some ⟨L.n, 0, none⟩)) :: (.pointer (some ⟨L'.n, 0, none⟩)) :: (.pointer (some ⟨box, 0, none⟩)) :: c4 :: c5 :: c6 :: (.int .i64 d) :: (.int .i64 b) :: (.int .i64 p) :: c10 :: c11 :: c12 :: c13 :: c14 :: c15 :: c16 :: c17 :: c18 :: c19 :: c20 :: c21 :: c22 :: c23 :: c24 :: c25 :: c26 :: c27 :: c28 :: c29 :: c30 :: c31 :: c32 :: c33 :: c34 :: c35 :: c36 :: c37 :: c38 :: c39 :: c40 :: c41 :: c42 :: c43 :: c44 :: c45 :: c46 :: c47 :: c48 :: c49 :: c50 :: c51 :: c52 :: c53 :: c54 :: c55 :: c56 :: c57 :: c58 :: c59 :: c60 :: c61 :: c62 :: c63 :: c64 :: c65 :: c66 :: c67 :: c68 :: c69 :: c70 :: c71 :: c72 :: c73 :: c74 :: c75 :: c76 :: c77 :: c78 :: c79 :: c80 :: c81 :: c82 :: c83 :: c84 :: c85 :: c86 :: c87 :: c88 :: c89 :: c90 :: c91 :: c92 :: c93 :: c94 :: c95 :: c96 :: c97 :: c98 :: c99 :: c100 :: c101 :: c102 :: c103 :: c104 :: c105 :: c106 :: c107 :: c108 :: c109 :: c110 :: c111 :: c112 :: c113 :: c114 :: c115 :: c116 :: c117 :: c118 :: c119 :: c120 :: c121 :: c122 :: c123 :: c124 :: c125 :: c126 :: c127 :: c128 :: c129 :: c130 :: c131 :: c132 :: c133 :: c134 :: c135 :: c136 :: c137 :: c138 :: c139 :: c140 :: c141 :: c142 :: c143 :: c144 :: c145 :: c146 :: c147 :: c148 :: c149 :: c150 :: c151 :: c152 :: c153 :: c154 :: c155 :: c156 :: c157 :: c158 :: c159 :: c160 :: c161 :: c162 :: c163 :: c164 :: c165 :: c166 :: c167 :: c168 :: c169 :: c170 :: c171 :: c172 :: c173 :: c174 :: c175 :: c176 :: c177 :: c178 :: c179 :: c180 :: c181 :: c182 :: c183 :: c184 :: c185 :: c186 :: c187 :: c188 :: c189 :: c190 :: c191 :: c192 :: c193 :: c194 :: c195 :: c196 :: c197 :: c198 :: c199 :: c200 :: c201 :: c202 :: c203 :: c204 :: []), []⟩ V0 := by
  conv => arg 2; whnf
  have HQ := hide hret
  have b0 : V0.cell? ⟨box, 0, none⟩ = some (.int .i64 a.k) := cell_blk hW.bx rfl
  have HN := hide hN
  have HR := hide hR
  have HW := hide hW
  clear hN hR hW hret
  go_wp2_with fail
  refine (within7_any _ 13 _ (by omega) (by omega)).mono ?_
  rintro e V1 ⟨he, hV⟩
  rw [hk] at he
  subst he
  replace hV := hV.symm
  subst hV
  clear b0 hk
  have c0 : V0.cell? ⟨L'.n, 0, none⟩ = some (.int .i64 (s.D : Int)) := (unhide HR).tc 0 rfl
  have c1 : V0.cell? ⟨L'.n, 1, none⟩ = some (.int .i64 (s.B : Int)) := (unhide HR).tc 1 rfl
  by_cases h1 : d < (s.D : Int)
  · by_cases h2 : 0 ≤ b
    · by_cases h3 : b < (s.B : Int)
      · obtain ⟨dn, rfl⟩ := Int.eq_ofNat_of_zero_le hd0
        obtain ⟨bn, rfl⟩ := Int.eq_ofNat_of_zero_le h2
        have hdn : dn < s.D := by omega
        have hbn : bn < s.B := by omega
        have c3 : V0.cell? ⟨L'.n, 3, none⟩ = some (.slice (some ⟨L'.gb, 0, none⟩) s.D L'.xb) := (unhide HR).tc 3 rfl
        have r1 : V0.cell? ⟨L'.gb, dn, none⟩ = some (.slice (some ⟨L'.bs dn, 0, none⟩) s.B (L'.cb dn)) := (unhide HR).rb.cell hdn
        have r2 : V0.cell? ⟨L'.bs dn, bn * 4 + 1, none⟩ = some (.int .i64 (s.next dn bn : Nat)) := (unhide HR).bc hdn hbn (by omega)
        go_wp2_with fail
        clear c0 c1 c3 r1 r2
        refine do_r16 (unhide HN) (unhide HR) (unhide HW) ?_
        intro vals W' hv hPo
        go_wp2_with fail
        exact unhide HQ vals W' hv hPo
      · have h3' : (s.B : Int) ≤ b := by omega
        go_wp2_with fail
        clear c0 c1
        refine do_r16 (unhide HN) (unhide HR) (unhide HW) ?_
        intro vals W' hv hPo
        go_wp2_with fail
        exact unhide HQ vals W' hv hPo
    · have h2' : b < 0 := by omega
      go_wp2_with fail
      clear c0 c1
      refine do_r16 (unhide HN) (unhide HR) (unhide HW) ?_
      intro vals W' hv hPo
      go_wp2_with fail
      exact unhide HQ vals W' hv hPo
  · have h1' : (s.D : Int) ≤ d := by omega
    go_wp2_with fail
    clear c0 c1
    refine do_r16 (unhide HN) (unhide HR) (unhide HW) ?_
    intro vals W' hv hPo
    go_wp2_with fail
    exact unhide HQ vals W' hv hPo


end Go.Proofs.Ytnondiaefpdlpaa

namespace Go.Proofs.Ytnondiaefpdlpaa
open Go.RowKit Go.Shelf

set_option maxRecDepth 1000000 in
set_option maxHeartbeats 16000000 in
theorem do_k3 {Q : Exit → Act → World → Prop} {c0 c4 c5 c6 c10 c11 c12 c13 c14 c15 c16 c17 c18 c19 c20 c21 c22 c23 c24 c25 c26 c27 c28 c29 c30 c31 c32 c33 c34 c35 c36 c37 c38 c39 c40 c41 c42 c43 c44 c45 c46 c47 c48 c49 c50 c51 c52 c53 c54 c55 c56 c57 c58 c59 c60 c61 c62 c63 c64 c65 c66 c67 c68 c69 c70 c71 c72 c73 c74 c75 c76 c77 c78 c79 c80 c81 c82 c83 c84 c85 c86 c87 c88 c89 c90 c91 c92 c93 c94 c95 c96 c97 c98 c99 c100 c101 c102 c103 c104 c105 c106 c107 c108 c109 c110 c111 c112 c113 c114 c115 c116 c117 c118 c119 c120 c121 c122 c123 c124 c125 c126 c127 c128 c129 c130 c131 c132 c133 c134 c135 c136 c137 c138 c139 c140 c141 c142 c143 c144 c145 c146 c147 c148 c149 c150 c151 c152 c153 c154 c155 c156 c157 c158 c159 c160 c161 c162 c163 c164 c165 c166 c167 c168 c169 c170 c171 c172 c173 c174 c175 c176 c177 c178 c179 c180 c181 c182 c183 c184 c185 c186 c187 c188 c189 c190 c191 c192 c193 c194 c195 c196 c197 c198 c199 c200 c201 c202 c203 c204 : Value} {m : Nat} {w V0 : World} {L : La} {L' : Lr} {s : Nd} {a : AD} {box : Nat} {d b p : Int} (hN : NA m V0 L s) (hR : RA m V0 L' s) (hW : DoW m w V0 a box) (hd0 : 0 ≤ d)  (hk : a.k % 13 = 3) (hret : ∀ (vals : Array Value) (W' : World), vals[6]? = some (.bool true) → DoPost m w L.n L'.n s W' → Q .ret ⟨vals, []⟩ W')
    : Code.wp Try.prog doT Q ⟨List.toArray (c0 :: (.pointer (some ⟨L.n, 0, none⟩)) :: (.pointer (some ⟨L'.n, 0, none⟩)) :: (.pointer (some ⟨box, 0, none⟩)) :: c4 :: c5 :: c6 :: (.int .i64 d) :: (.int .i64 b) :: (.int .i64 p) :: c10 :: c11 :: c12 :: c13 :: c14 :: c15 :: c16 :: c17 :: c18 :: c19 :: c20 :: c21 :: c22 :: c23 :: c24 :: c25 :: c26 :: c27 :: c28 :: c29 :: c30 :: c31 :: c32 :: c33 :: c34 :: c35 :: c36 :: c37 :: c38 :: c39 :: c40 :: c41 :: c42 :: c43 :: c44 :: c45 :: c46 :: c47 :: c48 :: c49 :: c50 :: c51 :: c52 :: c53 :: c54 :: c55 :: c56 :: c57 :: c58 :: c59 :: c60 :: c61 :: c62 :: c63 :: c64 :: c65 :: c66 :: c67 :: c68 :: c69 :: c70 :: c71 :: c72 :: c73 :: c74 :: c75 :: c76 :: c77 :: c78 :: c79 :: c80 :: c81 :: c82 :: c83 :: c84 :: c85 :: c86 :: c87 :: c88 :: c89 :: c90 :: c91 :: c92 :: c93 :: c94 :: c95 :: c96 :: c97 :: c98 :: c99 :: c100 :: c101 :: c102 :: c103 :: c104 :: c105 :: c106 :: c107 :: c108 :: c109 :: c110 :: c111 :: c112 :: c113 :: c114 :: c115 :: c116 :: c117 :: c118 :: c119 :: c120 :: c121 :: c122 :: c123 :: c124 :: c125 :: c126 :: c127 :: c128 :: c129 :: c130 :: c131 :: c132 :: c133 :: c134 :: c135 :: c136 :: c137 :: c138 :: c139 :: c140 :: c141 :: c142 :: c143 :: c144 :: c145 :: c146 :: c147 :: c148 :: c149 :: c150 :: c151 :: c152 :: c153 :: c154 :: c155 :: c156 :: c157 :: c158 :: c159 :: c160 :: c161 :: c162 :: c163 :: c164 :: c165 :: c166 :: c167 :: c168 :: c169 :: c170 :: c171 :: c172 :: c173 :: c174 :: c175 :: c176 :: c177 :: c178 :: c179 :: c180 :: c181 :: c182 :: c183 :: c184 :: c185 :: c186 :: c187 :: c188 :: c189 :: c190 :: c191 :: c192 :: c193 :: c194 :: c195 :: c196 :: c197 :: c198 :: c199 :: c200 :: c201 :: c202 :: c203 :: c204 :: []), []⟩ V0 := by
  conv => arg 2; whnf
  have HQ := hide hret
  have b0 : V0.cell? ⟨box, 0, none⟩ = some (.int .i64 a.k) := cell_blk hW.bx rfl
  have HN := hide hN
  have HR := hide hR
  have HW := hide hW
  clear hN hR hW hret
  go_wp2_with fail
  refine (within7_any _ 13 _ (by omega) (by omega)).mono ?_
  rintro e V1 ⟨he, hV⟩
  rw [hk] at he
  subst he
  replace hV := hV.symm
  subst hV
  clear b0 hk
  have c0 : V0.cell? ⟨L'.n, 0, none⟩ = some (.int .i64 (s.D : Int)) := (unhide HR).tc 0 rfl
  have c1 : V0.cell? ⟨L'.n, 1, none⟩ = some (.int .i64 (s.B : Int)) := (unhide HR).tc 1 rfl
  by_cases h1 : d < (s.D : Int)
  · by_cases h2 : 0 ≤ b
    · by_cases h3 : b < (s.B : Int)
      · obtain ⟨dn, rfl⟩ := Int.eq_ofNat_of_zero_le hd0
        obtain ⟨bn, rfl⟩ := Int.eq_ofNat_of_zero_le h2
        have hdn : dn < s.D := by omega
        have hbn : bn < s.B := by omega
        have c3 : V0.cell? ⟨L'.n, 3, none⟩ = some (.slice (some ⟨L'.gb, 0, none⟩) s.D L'.xb) := (unhide HR).tc 3 rfl
        have r1 : V0.cell? ⟨L'.gb, dn, none⟩ = some (.slice (some ⟨L'.bs dn, 0, none⟩) s.B (L'.cb dn)) := (unhide HR).rb.cell hdn
        have r2 : V0.cell? ⟨L'.bs dn, bn * 4 + 1, none⟩ = some (.int .i64 (s.next dn bn : Nat)) := (unhide HR).bc hdn hbn (by omega)
        go_wp2_with fail
        clear c0 c1 c3 r1 r2
        refine do_r16 (unhide HN) (unhide HR) (unhide HW) ?_
        intro vals W' hv hPo
        go_wp2_with fail
        exact unhide HQ vals W' hv hPo
      · have h3' : (s.B : Int) ≤ b := by omega
        go_wp2_with fail
        clear c0 c1
        refine do_r16 (unhide HN) (unhide HR) (unhide HW) ?_
        intro vals W' hv hPo
        go_wp2_with fail
        exact unhide HQ vals W' hv hPo
    · have h2' : b < 0 := by omega
      go_wp2_with fail
      clear c0 c1
      refine do_r16 (unhide HN) (unhide HR) (unhide HW) ?_
      intro vals W' hv hPo
      go_wp2_with fail
      exact unhide HQ vals W' hv hPo
  · have h1' : (s.D : Int) ≤ d := by omega
    go_wp2_with fail
    clear c0 c1
    refine do_r16 (unhide HN) (unhide HR) (unhide HW) ?_
    intro vals W' hv hPo
    go_wp2_with fail
    exact unhide HQ vals W' hv hPo

set_option maxRecDepth 1000000 in
set_option maxHeartbeats 16000000 in
theorem do_k4 {Q : Exit → Act → World → Prop} {c0 c4 c5 c6 c10 c11 c12 c13 c14 c15 c16 c17 c18 c19 c20 c21 c22 c23 c24 c25 c26 c27 c28 c29 c30 c31 c32 c33 c34 c35 c36 c37 c38 c39 c40 c41 c42 c43 c44 c45 c46 c47 c48 c49 c50 c51 c52 c53 c54 c55 c56 c57 c58 c59 c60 c61 c62 c63 c64 c65 c66 c67 c68 c69 c70 c71 c72 c73 c74 c75 c76 c77 c78 c79 c80 c81 c82 c83 c84 c85 c86 c87 c88 c89 c90 c91 c92 c93 c94 c95 c96 c97 c98 c99 c100 c101 c102 c103 c104 c105 c106 c107 c108 c109 c110 c111 c112 c113 c114 c115 c116 c117 c118 c119 c120 c121 c122 c123 c124 c125 c126 c127 c128 c129 c130 c131 c132 c133 c134 c135 c136 c137 c138 c139 c140 c141 c142 c143 c144 c145 c146 c147 c148 c149 c150 c151 c152 c153 c154 c155 c156 c157 c158 c159 c160 c161 c162 c163 c164 c165 c166 c167 c168 c169 c170 c171 c172 c173 c174 c175 c176 c177 c178 c179 c180 c181 c182 c183 c184 c185 c186 c187 c188 c189 c190 c191 c192 c193 c194 c195 c196 c197 c198 c199 c200 c201 c202 c203 c204 : Value} {m : Nat} {w V0 : World} {L : La} {L' : Lr} {s : Nd} {a : AD} {box : Nat} {d b p : Int} (hN : NA m V0 L s) (hR : RA m V0 L' s) (hW : DoW m w V0 a box) (hd0 : 0 ≤ d)  (hk : a.k % 13 = 4) (hret : ∀ (vals : Array Value) (W' : World), vals[6]? = some (.bool true) → DoPost m w L.n L'.n s W' → Q .ret ⟨vals, []⟩ W')
    : Code.wp Try.prog doT Q ⟨List.toArray (c0 :: (.pointer (some ⟨L.n, 0, none⟩)) :: (.pointer (some ⟨L'.n, 0, none⟩)) :: (.pointer (some ⟨box, 0, none⟩)) :: c4 :: c5 :: c6 :: (.int .i64 d) :: (.int .i64 b) :: (.int .i64 p) :: c10 :: c11 :: c12 :: c13 :: c14 :: c15 :: c16 :: c17 :: c18 :: c19 :: c20 :: c21 :: c22 :: c23 :: c24 :: c25 :: c26 :: c27 :: c28 :: c29 :: c30 :: c31 :: c32 :: c33 :: c34 :: c35 :: c36 :: c37 :: c38 :: c39 :: c40 :: c41 :: c42 :: c43 :: c44 :: c45 :: c46 :: c47 :: c48 :: c49 :: c50 :: c51 :: c52 :: c53 :: c54 :: c55 :: c56 :: c57 :: c58 :: c59 :: c60 :: c61 :: c62 :: c63 :: c64 :: c65 :: c66 :: c67 :: c68 :: c69 :: c70 :: c71 :: c72 :: c73 :: c74 :: c75 :: c76 :: c77 :: c78 :: c79 :: c80 :: c81 :: c82 :: c83 :: c84 :: c85 :: c86 :: c87 :: c88 :: c89 :: c90 :: c91 :: c92 :: c93 :: c94 :: c95 :: c96 :: c97 :: c98 :: c99 :: c100 :: c101 :: c102 :: c103 :: c104 :: c105 :: c106 :: c107 :: c108 :: c109 :: c110 :: c111 :: c112 :: c113 :: c114 :: c115 :: c116 :: c117 :: c118 :: c119 :: c120 :: c121 :: c122 :: c123 :: c124 :: c125 :: c126 :: c127 :: c128 :: c129 :: c130 :: c131 :: c132 :: c133 :: c134 :: c135 :: c136 :: c137 :: c138 :: c139 :: c140 :: c141 :: c142 :: c143 :: c144 :: c145 :: c146 :: c147 :: c148 :: c149 :: c150 :: c151 :: c152 :: c153 :: c154 :: c155 :: c156 :: c157 :: c158 :: c159 :: c160 :: c161 :: c162 :: c163 :: c164 :: c165 :: c166 :: c167 :: c168 :: c169 :: c170 :: c171 :: c172 :: c173 :: c174 :: c175 :: c176 :: c177 :: c178 :: c179 :: c180 :: c181 :: c182 :: c183 :: c184 :: c185 :: c186 :: c187 :: c188 :: c189 :: c190 :: c191 :: c192 :: c193 :: c194 :: c195 :: c196 :: c197 :: c198 :: c199 :: c200 :: c201 :: c202 :: c203 :: c204 :: []), []⟩ V0 := by
  conv => arg 2; whnf
  have HQ := hide hret
  have b0 : V0.cell? ⟨box, 0, none⟩ = some (.int .i64 a.k) := cell_blk hW.bx rfl
  have HN := hide hN
  have HR := hide hR
  have HW := hide hW
  clear hN hR hW hret
  go_wp2_with fail
  refine (within7_any _ 13 _ (by omega) (by omega)).mono ?_
  rintro e V1 ⟨he, hV⟩
  rw [hk] at he
  subst he
  replace hV := hV.symm
  subst hV
  clear b0 hk
  have c0 : V0.cell? ⟨L'.n, 0, none⟩ = some (.int .i64 (s.D : Int)) := (unhide HR).tc 0 rfl
  have c1 : V0.cell? ⟨L'.n, 1, none⟩ = some (.int .i64 (s.B : Int)) := (unhide HR).tc 1 rfl
  by_cases h1 : d < (s.D : Int)
  · by_cases h2 : 0 ≤ b
    · by_cases h3 : b < (s.B : Int)
      · obtain ⟨dn, rfl⟩ := Int.eq_ofNat_of_zero_le hd0
        obtain ⟨bn, rfl⟩ := Int.eq_ofNat_of_zero_le h2
        have hdn : dn < s.D := by omega
        have hbn : bn < s.B := by omega
        have c3 : V0.cell? ⟨L'.n, 3, none⟩ = some (.slice (some ⟨L'.gb, 0, none⟩) s.D L'.xb) := (unhide HR).tc 3 rfl
        have r1 : V0.cell? ⟨L'.gb, dn, none⟩ = some (.slice (some ⟨L'.bs dn, 0, none⟩) s.B (L'.cb dn)) := (unhide HR).rb.cell hdn
        have r2 : V0.cell? ⟨L'.bs dn, bn * 4 + 1, none⟩ = some (.int .i64 (s.next dn bn : Nat)) := (unhide HR).bc hdn hbn (by omega)
        go_wp2_with fail
        clear c0 c1 c3 r1 r2
        refine do_r16 (unhide HN) (unhide HR) (unhide HW) ?_
        intro vals W' hv hPo
        go_wp2_with fail
        exact unhide HQ vals W' hv hPo
      · have h3' : (s.B : Int) ≤ b := by omega
        go_wp2_with fail
        clear c0 c1
        refine do_r16 (unhide HN) (unhide HR) (unhide HW) ?_
        intro vals W' hv hPo
        go_wp2_with fail
        exact unhide HQ vals W' hv hPo
    · have h2' : b < 0 := by omega
      go_wp2_with fail
      clear c0 c1
      refine do_r16 (unhide HN) (unhide HR) (unhide HW) ?_
      intro vals W' hv hPo
      go_wp2_with fail
      exact unhide HQ vals W' hv hPo
  · have h1' : (s.D : Int) ≤ d := by omega
    go_wp2_with fail
    clear c0 c1
    refine do_r16 (unhide HN) (unhide HR) (unhide HW) ?_
    intro vals W' hv hPo
    go_wp2_with fail
    exact unhide HQ vals W' hv hPo

set_option maxRecDepth 1000000 in
set_option maxHeartbeats 16000000 in
theorem do_k5 {Q : Exit → Act → World → Prop} {c0 c4 c5 c6 c10 c11 c12 c13 c14 c15 c16 c17 c18 c19 c20 c21 c22 c23 c24 c25 c26 c27 c28 c29 c30 c31 c32 c33 c34 c35 c36 c37 c38 c39 c40 c41 c42 c43 c44 c45 c46 c47 c48 c49 c50 c51 c52 c53 c54 c55 c56 c57 c58 c59 c60 c61 c62 c63 c64 c65 c66 c67 c68 c69 c70 c71 c72 c73 c74 c75 c76 c77 c78 c79 c80 c81 c82 c83 c84 c85 c86 c87 c88 c89 c90 c91 c92 c93 c94 c95 c96 c97 c98 c99 c100 c101 c102 c103 c104 c105 c106 c107 c108 c109 c110 c111 c112 c113 c114 c115 c116 c117 c118 c119 c120 c121 c122 c123 c124 c125 c126 c127 c128 c129 c130 c131 c132 c133 c134 c135 c136 c137 c138 c139 c140 c141 c142 c143 c144 c145 c146 c147 c148 c149 c150 c151 c152 c153 c154 c155 c156 c157 c158 c159 c160 c161 c162 c163 c164 c165 c166 c167 c168 c169 c170 c171 c172 c173 c174 c175 c176 c177 c178 c179 c180 c181 c182 c183 c184 c185 c186 c187 c188 c189 c190 c191 c192 c193 c194 c195 c196 c197 c198 c199 c200 c201 c202 c203 c204 : Value} {m : Nat} {w V0 : World} {L : La} {L' : Lr} {s : Nd} {a : AD} {box : Nat} {d b p : Int} (hN : NA m V0 L s) (hR : RA m V0 L' s) (hW : DoW m w V0 a box) (hd0 : 0 ≤ d)  (hk : a.k % 13 = 5) (hret : ∀ (vals : Array Value) (W' : World), vals[6]? = some (.bool true) → DoPost m w L.n L'.n s W' → Q .ret ⟨vals, []⟩ W')
    : Code.wp Try.prog doT Q ⟨List.toArray (c0 :: (.pointer (some ⟨L.n, 0, none⟩)) :: (.pointer (some ⟨L'.n, 0, none⟩)) :: (.pointer (some ⟨box, 0, none⟩)) :: c4 :: c5 :: c6 :: (.int .i64 d) :: (.int .i64 b) :: (.int .i64 p) :: c10 :: c11 :: c12 :: c13 :: c14 :: c15 :: c16 :: c17 :: c18 :: c19 :: c20 :: c21 :: c22 :: c23 :: c24 :: c25 :: c26 :: c27 :: c28 :: c29 :: c30 :: c31 :: c32 :: c33 :: c34 :: c35 :: c36 :: c37 :: c38 :: c39 :: c40 :: c41 :: c42 :: c43 :: c44 :: c45 :: c46 :: c47 :: c48 :: c49 :: c50 :: c51 :: c52 :: c53 :: c54 :: c55 :: c56 :: c57 :: c58 :: c59 :: c60 :: c61 :: c62 :: c63 :: c64 :: c65 :: c66 :: c67 :: c68 :: c69 :: c70 :: c71 :: c72 :: c73 :: c74 :: c75 :: c76 :: c77 :: c78 :: c79 :: c80 :: c81 :: c82 :: c83 :: c84 :: c85 :: c86 :: c87 :: c88 :: c89 :: c90 :: c91 :: c92 :: c93 :: c94 :: c95 :: c96 :: c97 :: c98 :: c99 :: c100 :: c101 :: c102 :: c103 :: c104 :: c105 :: c106 :: c107 :: c108 :: c109 :: c110 :: c111 :: c112 :: c113 :: c114 :: c115 :: c116 :: c117 :: c118 :: c119 :: c120 :: c121 :: c122 :: c123 :: c124 :: c125 :: c126 :: c127 :: c128 :: c129 :: c130 :: c131 :: c132 :: c133 :: c134 :: c135 :: c136 :: c137 :: c138 :: c139 :: c140 :: c141 :: c142 :: c143 :: c144 :: c145 :: c146 :: c147 :: c148 :: c149 :: c150 :: c151 :: c152 :: c153 :: c154 :: c155 :: c156 :: c157 :: c158 :: c159 :: c160 :: c161 :: c162 :: c163 :: c164 :: c165 :: c166 :: c167 :: c168 :: c169 :: c170 :: c171 :: c172 :: c173 :: c174 :: c175 :: c176 :: c177 :: c178 :: c179 :: c180 :: c181 :: c182 :: c183 :: c184 :: c185 :: c186 :: c187 :: c188 :: c189 :: c190 :: c191 :: c192 :: c193 :: c194 :: c195 :: c196 :: c197 :: c198 :: c199 :: c200 :: c201 :: c202 :: c203 :: c204 :: []), []⟩ V0 := by
  conv => arg 2; whnf
  have HQ := hide hret
  have b0 : V0.cell? ⟨box, 0, none⟩ = some (.int .i64 a.k) := cell_blk hW.bx rfl
  have HN := hide hN
  have HR := hide hR
  have HW := hide hW
  clear hN hR hW hret
  go_wp2_with fail
  refine (within7_any _ 13 _ (by omega) (by omega)).mono ?_
  rintro e V1 ⟨he, hV⟩
  rw [hk] at he
  subst he
  replace hV := hV.symm
  subst hV
  clear b0 hk
  have c0 : V0.cell? ⟨L'.n, 0, none⟩ = some (.int .i64 (s.D : Int)) := (unhide HR).tc 0 rfl
  have c1 : V0.cell? ⟨L'.n, 1, none⟩ = some (.int .i64 (s.B : Int)) := (unhide HR).tc 1 rfl
  by_cases h1 : d < (s.D : Int)
  · by_cases h2 : 0 ≤ b
    · by_cases h3 : b < (s.B : Int)
      · obtain ⟨dn, rfl⟩ := Int.eq_ofNat_of_zero_le hd0
        obtain ⟨bn, rfl⟩ := Int.eq_ofNat_of_zero_le h2
        have hdn : dn < s.D := by omega
        have hbn : bn < s.B := by omega
        have c3 : V0.cell? ⟨L'.n, 3, none⟩ = some (.slice (some ⟨L'.gb, 0, none⟩) s.D L'.xb) := (unhide HR).tc 3 rfl
        have r1 : V0.cell? ⟨L'.gb, dn, none⟩ = some (.slice (some ⟨L'.bs dn, 0, none⟩) s.B (L'.cb dn)) := (unhide HR).rb.cell hdn
        have r2 : V0.cell? ⟨L'.bs dn, bn * 4 + 1, none⟩ = some (.int .i64 (s.next dn bn : Nat)) := (unhide HR).bc hdn hbn (by omega)
        go_wp2_with fail
        clear c0 c1 c3 r1 r2
        refine do_r16 (unhide HN) (unhide HR) (unhide HW) ?_
        intro vals W' hv hPo
        go_wp2_with fail
        exact unhide HQ vals W' hv hPo
      · have h3' : (s.B : Int) ≤ b := by omega
        go_wp2_with fail
        clear c0 c1
        refine do_r16 (unhide HN) (unhide HR) (unhide HW) ?_
        intro vals W' hv hPo
        go_wp2_with fail
        exact unhide HQ vals W' hv hPo
    · have h2' : b < 0 := by omega
      go_wp2_with fail
      clear c0 c1
      refine do_r16 (unhide HN) (unhide HR) (unhide HW) ?_
      intro vals W' hv hPo
      go_wp2_with fail
      exact unhide HQ vals W' hv hPo
  · have h1' : (s.D : Int) ≤ d := by omega
    go_wp2_with fail
    clear c0 c1
    refine do_r16 (unhide HN) (unhide HR) (unhide HW) ?_
    intro vals W' hv hPo
    go_wp2_with fail
    exact unhide HQ vals W' hv hPo


end Go.Proofs.Ytnondiaefpdlpaa
