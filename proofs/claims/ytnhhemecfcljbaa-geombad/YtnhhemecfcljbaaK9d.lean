/-
  geom.Sectors and ramekinref9's; the laws' own known; a geometry in a cell.
-/
import Derived.Test.YtnhhemecfcljbaaK9c
namespace Go.Proofs.Ytnhhemecfcljbaa
open Go.RowKit Go.Shelf

/-- At block g lies a geometry. -/
structure GeoAt (w : World) (g : Nat) (D B P : Int) : Prop where
  blk : w.heap[g]? = some (.cells #[.int .i64 D, .int .i64 B, .int .i64 P] 23 (0, 0))
theorem GeoAt.below {w w' : World} {g : Nat} {D B P : Int} (h : GeoAt w g D B P) (k : Below w.heap.size w w') : GeoAt w' g D B P := ⟨(k.block g (lt_of_block h.blk)).trans h.blk⟩
theorem GeoAt.lt {w : World} {g : Nat} {D B P : Int} (h : GeoAt w g D B P) : g < w.heap.size := lt_of_block h.blk
theorem GeoAt.c0 {w : World} {g : Nat} {D B P : Int} (h : GeoAt w g D B P) : w.cell? ⟨g, 0, none⟩ = some (.int .i64 D) := cell_blk h.blk rfl
theorem GeoAt.c1 {w : World} {g : Nat} {D B P : Int} (h : GeoAt w g D B P) : w.cell? ⟨g, 1, none⟩ = some (.int .i64 B) := cell_blk h.blk rfl
theorem GeoAt.c2 {w : World} {g : Nat} {D B P : Int} (h : GeoAt w g D B P) : w.cell? ⟨g, 2, none⟩ = some (.int .i64 P) := cell_blk h.blk rfl
theorem GeoAt.load {w : World} {g : Nat} {D B P : Int} (h : GeoAt w g D B P) : (loadVar 23 ⟨g, 0, none⟩).run Try.prog w = .ok (.agg #[.int .i64 D, .int .i64 B, .int .i64 P]) w := load_three h.blk
theorem GeoAt.new (w : World) (D B P : Int) : ∃ W, w.alloc (.cells #[.int .i64 D, .int .i64 B, .int .i64 P] 23) = W ∧ GeoAt W w.heap.size D B P ∧ Below w.heap.size w W := ⟨_, rfl, ⟨World.alloc_heap_new w _⟩, (Below.refl _ _).alloc (Nat.le_refl _) _⟩
theorem run_load_agg9 {P : Program} {o : Oper} {a : Act} {W : World} {ty : TypeId} {x : Operand} {ad : Addr} {v : Value} (ho : o.op = .load ty x) (hx : a.eval x = .pointer (some ad)) (hl : (loadVar ty ad).run P W = .ok v W) : (execOp a.eval o).run P W = .ok (.value v) W := by
  unfold execOp
  simp only [ho, hx, Instr.loadAt, Instr.sureAddr, Sem.run_bind, Sem.run_pure, Result.andThen_ok, hl]

/-- How many sectors a host has. -/
def sec9 (D B P s : Int) : Int := if okG D B P ∧ 7 ≤ s ∧ s ≤ B then (s - 4) * (P - 2) * (D - 2) / 4 else 0

theorem sec9_fit {D B P s : Int} (h : okG D B P) (h7 : 7 ≤ s) (hB : s ≤ B) : ∃ a b d p q r : Int, s - 4 = a ∧ P - 2 = b ∧ D - 2 = d ∧ a * b = p ∧ p * d = q ∧ q.tdiv 4 = r ∧ sec9 D B P s = r ∧ (3 ≤ a ∧ a ≤ 8) ∧ (2 ≤ b ∧ b ≤ 6) ∧ (4 ≤ d ∧ d ≤ 6) ∧ (0 ≤ p ∧ p ≤ 48) ∧ (0 ≤ q ∧ q ≤ 288) ∧ 0 ≤ r ∧ r ≤ 72 := by
  obtain ⟨⟨h1, h2⟩, ⟨h3, h4⟩, h5, h6⟩ := h
  have ha : 3 ≤ s - 4 ∧ s - 4 ≤ 8 := ⟨by omega, by omega⟩
  have hb : 2 ≤ P - 2 ∧ P - 2 ≤ 6 := ⟨by omega, by omega⟩
  have hd : 4 ≤ D - 2 ∧ D - 2 ≤ 6 := ⟨by omega, by omega⟩
  have hp : 0 ≤ (s - 4) * (P - 2) ∧ (s - 4) * (P - 2) ≤ 48 := ⟨Int.mul_nonneg (by omega) (by omega), by have := Int.mul_le_mul ha.2 hb.2 (by omega) (by omega); omega⟩
  have hq : 0 ≤ (s - 4) * (P - 2) * (D - 2) ∧ (s - 4) * (P - 2) * (D - 2) ≤ 288 := ⟨Int.mul_nonneg hp.1 (by omega), by have := Int.mul_le_mul hp.2 hd.2 (by omega) (by omega); omega⟩
  have e : ((s - 4) * (P - 2) * (D - 2)).tdiv 4 = (s - 4) * (P - 2) * (D - 2) / 4 := Int.tdiv_eq_ediv_of_nonneg hq.1
  exact ⟨_, _, _, _, _, _, rfl, rfl, rfl, rfl, rfl, rfl, by rw [sec9, if_pos ⟨⟨⟨h1, h2⟩, ⟨h3, h4⟩, h5, h6⟩, h7, hB⟩, e], ha, hb, hd, hp, hq, by rw [e]; omega, by rw [e]; omega⟩

set_option maxRecDepth 100000 in
set_option maxHeartbeats 4000000 in
theorem gsectors_any (D B P s : Int) (w : World) : Calls Try.prog 17 #[.agg #[.int .i64 D, .int .i64 B, .int .i64 P], .int .i64 s] w fun e w' => e = .returned (.int .i64 (sec9 D B P s)) ∧ Below w.heap.size w w' := by
  obtain ⟨W, hW, hG, hb⟩ := GeoAt.new w D B P
  have HB := hide hb
  have HG := hide hG
  have c0 := hG.c0
  have c1 := hG.c1
  have c2 := hG.c2
  clear hb hG
  by_cases hok : okG D B P
  · have HO := hide (chk9_ok hok)
    by_cases h7 : s < 7
    · have HE : Hid (sec9 D B P s = 0) := by show _ = _; rw [sec9, if_neg (by omega)]
      clear hok
      go_enter Try.func17, Try.ntmps17
      go_wp2_with fail
      clear c0 c1 c2
      refine (gcheck_any D B P _).mono ?_
      rintro e w2 ⟨rfl, hk⟩
      rw [unhide HO]
      have HK := hide ((unhide HB).trans (hk.mono (unhide HB).size))
      clear hk
      go_wp2_with fail
      go_ret
      exact ⟨by rw [unhide HE]; rfl, unhide HK⟩
    · by_cases hsB : B < s
      · have HE : Hid (sec9 D B P s = 0) := by show _ = _; rw [sec9, if_neg (by omega)]
        clear hok
        go_enter Try.func17, Try.ntmps17
        go_wp2_with fail
        clear c0 c1 c2
        refine (gcheck_any D B P _).mono ?_
        rintro e w2 ⟨rfl, hk⟩
        rw [unhide HO]
        have c1 := ((unhide HG).below hk).c1
        have HK := hide ((unhide HB).trans (hk.mono (unhide HB).size))
        clear hk
        go_wp2_with fail
        go_ret
        exact ⟨by rw [unhide HE]; rfl, unhide HK⟩
      · obtain ⟨a, b, d, p, q, r, e1, e2, e3, e4, e5, e6, e7, ⟨a1, a2⟩, ⟨b1, b2⟩, ⟨d1, d2⟩, ⟨p1, p2⟩, ⟨q1, q2⟩, r1, r2⟩ := sec9_fit (s := s) hok (by omega) (by omega)
        have HSL : Hid (slo9 D B P = d) := by show _ = _; rw [slo9, if_pos hok, e3]
        have E1 := hide e1
        have E2 := hide e2
        have E4 := hide e4
        have E5 := hide e5
        have E6 := hide e6
        have E7 := hide e7
        clear e1 e2 e3 e4 e5 e6 e7
        have HD := hide hok
        clear hok
        go_enter Try.func17, Try.ntmps17
        go_wp2_with fail
        clear c0 c1 c2
        refine (gcheck_any D B P _).mono ?_
        rintro e w2 ⟨rfl, hk⟩
        rw [unhide HO]
        have c1 := ((unhide HG).below hk).c1
        replace HG := hide ((unhide HG).below hk)
        have HT := hide ((unhide HB).trans (hk.mono (unhide HB).size))
        clear hk HB
        go_wp2_with fail
        clear c1
        replace HT := hide ((unhide HT).drew)
        replace HG := hide ((unhide HG).below (Below.refl _ _).drew)
        refine wp_region_noPanic ?_
        refine wp_region_held_drew (S := fun W => Below w2.drew.heap.size w2.drew W) (by kernel_rfl) (Below.refl _ _) (fun hHeld => ?_)
        have HH := hide hHeld
        clear hHeld
        generalize w2.drew = w3 at HT HG HH ⊢
        refine takeL (i := 0) (v := ?_) rfl (by kernel_rfl) (by kernel_rfl) (by kernel_rfl) (fun _ _ _ h => h) (Or.inl ⟨by rfl, ?_⟩) (unhide HH) ?_
        rotate_left 1
        · intro W hSW; go_simp; all_goals (with_reducible rfl)
        (try simp only [Act.put, List.setIfInBounds_toArray, List.set_cons_zero, List.set_cons_succ])
        refine takeL (i := 1) (v := .int .i64 a) rfl (by kernel_rfl) (by kernel_rfl) (by kernel_rfl) (fun _ _ _ h => h) (Or.inl ⟨by rfl, ?_⟩) (unhide HH) ?_
        · intro W hSW; go_simp; rw [unhide E1, IntWalk.i64_in a ⟨by omega, by omega⟩]
        (try simp only [Act.put, List.setIfInBounds_toArray, List.set_cons_zero, List.set_cons_succ])
        refine takeL (i := 2) (v := ?_) rfl (by kernel_rfl) (by kernel_rfl) (by kernel_rfl) (fun _ _ _ h => h) (Or.inl ⟨by rfl, ?_⟩) (unhide HH) ?_
        rotate_left 1
        · intro W hSW; go_simp; all_goals (with_reducible rfl)
        (try simp only [Act.put, List.setIfInBounds_toArray, List.set_cons_zero, List.set_cons_succ])
        refine takeL (i := 3) (v := ?_) rfl (by kernel_rfl) (by kernel_rfl) (by kernel_rfl) (fun _ _ _ h => h) (Or.inl ⟨by rfl, ?_⟩) (unhide HH) ?_
        rotate_left 1
        · intro W1 hSW; have hcl := ((unhide HG).below hSW).c2; clear hSW; go_simp; all_goals (with_reducible rfl)
        (try simp only [Act.put, List.setIfInBounds_toArray, List.set_cons_zero, List.set_cons_succ])
        refine takeL (i := 4) (v := .int .i64 b) rfl (by kernel_rfl) (by kernel_rfl) (by kernel_rfl) (fun _ _ _ h => h) (Or.inl ⟨by rfl, ?_⟩) (unhide HH) ?_
        · intro W hSW; go_simp; rw [unhide E2, IntWalk.i64_in b ⟨by omega, by omega⟩]
        (try simp only [Act.put, List.setIfInBounds_toArray, List.set_cons_zero, List.set_cons_succ])
        refine takeL (i := 5) (v := .int .i64 p) rfl (by kernel_rfl) (by kernel_rfl) (by kernel_rfl) (fun _ _ _ h => h) (Or.inl ⟨by rfl, ?_⟩) (unhide HH) ?_
        · intro W hSW; go_simp; rw [unhide E4, IntWalk.i64_in p ⟨by omega, by omega⟩]
        (try simp only [Act.put, List.setIfInBounds_toArray, List.set_cons_zero, List.set_cons_succ])
        refine takeL (i := 6) (v := .agg #[.int .i64 D, .int .i64 B, .int .i64 P]) rfl (by kernel_rfl) (by kernel_rfl) (by kernel_rfl) (fun _ _ _ h => h) (Or.inl ⟨by rfl, fun W1 hSW => run_load_agg9 rfl rfl ((unhide HG).below hSW).load⟩) (unhide HH) ?_
        (try simp only [Act.put, List.setIfInBounds_toArray, List.set_cons_zero, List.set_cons_succ])
        refine wpAnyH_ready (rs := [7]) (by kernel_rfl) (by simp) ?_
        refine consL rfl (fun K hK => ?_) AllReadyH.nil
        go_simp
        refine (gslots_any D B P _).mono ?_
        rintro e w4 ⟨rfl, hk⟩
        rw [unhide HSL]
        replace HT := hide ((unhide HT).trans (hk.mono (unhide HT).size))
        go_wp2_with fail
        refine hK.out _ _ hk (fun hHeld => ?_)
        clear hK K HH hk
        have HH := hide hHeld
        clear hHeld
        (try simp only [Act.put, List.setIfInBounds_toArray, List.set_cons_zero, List.set_cons_succ])
        refine takeL (i := 8) (v := .int .i64 q) rfl (by kernel_rfl) (by kernel_rfl) (by kernel_rfl) (fun _ _ _ h => h) (Or.inl ⟨by rfl, ?_⟩) (unhide HH) ?_
        · intro W hSW; go_simp; rw [unhide E5, IntWalk.i64_in q ⟨by omega, by omega⟩]
        (try simp only [Act.put, List.setIfInBounds_toArray, List.set_cons_zero, List.set_cons_succ])
        refine takeL (i := 9) (v := .int .i64 r) rfl (by kernel_rfl) (by kernel_rfl) (by kernel_rfl) (fun _ _ _ h => h) (Or.inl ⟨by rfl, ?_⟩) (unhide HH) ?_
        · intro W hSW; go_simp; rw [unhide E6, IntWalk.i64_in r ⟨by omega, by omega⟩]
        (try simp only [Act.put, List.setIfInBounds_toArray, List.set_cons_zero, List.set_cons_succ])
        refine takeL (i := 10) (v := ?_) rfl (by kernel_rfl) (by kernel_rfl) (by kernel_rfl) (fun _ _ _ h => h) (Or.inl ⟨by rfl, ?_⟩) (unhide HH) ?_
        rotate_left 1
        · intro W hSW; go_simp; all_goals (with_reducible rfl)
        (try simp only [Act.put, List.setIfInBounds_toArray, List.set_cons_zero, List.set_cons_succ])
        refine wpAnyH_done (by kernel_rfl) ?_ _
        refine NoPanic.normal ?_
        go_wp2
        go_ret
        exact ⟨by rw [unhide E7]; rfl, unhide HT⟩
  · have HO := hide (chk9_not hok)
    have HE : Hid (sec9 D B P s = 0) := by show _ = _; rw [sec9, if_neg (fun h => hok h.1)]
    clear hok
    go_enter Try.func17, Try.ntmps17
    go_wp2_with fail
    clear c0 c1 c2
    refine (gcheck_any D B P _).mono ?_
    rintro e w2 ⟨rfl, hk⟩
    rw [unhide HO]
    have HK := hide ((unhide HB).trans (hk.mono (unhide HB).size))
    clear hk
    go_wp2_with fail
    go_ret
    exact ⟨by rw [unhide HE]; rfl, unhide HK⟩

set_option maxRecDepth 100000 in
set_option maxHeartbeats 4000000 in
theorem rsectors_any (D B P s : Int) (w : World) : Calls Try.prog 18 #[.agg #[.int .i64 D, .int .i64 B, .int .i64 P], .int .i64 s] w fun e w' => e = .returned (.int .i64 (sec9 D B P s)) ∧ Below w.heap.size w w' := by
  obtain ⟨W, hW, hG, hb⟩ := GeoAt.new w D B P
  have HB := hide hb
  have HG := hide hG
  have c0 := hG.c0
  have c1 := hG.c1
  have c2 := hG.c2
  clear hb hG
  by_cases hok : okG D B P
  · have HO := hide (chk9_ok hok)
    by_cases h7 : s < 7
    · have HE : Hid (sec9 D B P s = 0) := by show _ = _; rw [sec9, if_neg (by omega)]
      clear hok
      go_enter Try.func18, Try.ntmps18
      go_wp2_with fail
      clear c0 c1 c2
      refine (rcheck9_any D B P _).mono ?_
      rintro e w2 ⟨rfl, hk⟩
      rw [unhide HO]
      have HK := hide ((unhide HB).trans (hk.mono (unhide HB).size))
      clear hk
      go_wp2_with fail
      go_ret
      exact ⟨by rw [unhide HE]; rfl, unhide HK⟩
    · by_cases hsB : B < s
      · have HE : Hid (sec9 D B P s = 0) := by show _ = _; rw [sec9, if_neg (by omega)]
        clear hok
        go_enter Try.func18, Try.ntmps18
        go_wp2_with fail
        clear c0 c1 c2
        refine (rcheck9_any D B P _).mono ?_
        rintro e w2 ⟨rfl, hk⟩
        rw [unhide HO]
        have c1 := ((unhide HG).below hk).c1
        have HK := hide ((unhide HB).trans (hk.mono (unhide HB).size))
        clear hk
        go_wp2_with fail
        go_ret
        exact ⟨by rw [unhide HE]; rfl, unhide HK⟩
      · obtain ⟨a, b, d, p, q, r, e1, e2, e3, e4, e5, e6, e7, ⟨a1, a2⟩, ⟨b1, b2⟩, ⟨d1, d2⟩, ⟨p1, p2⟩, ⟨q1, q2⟩, r1, r2⟩ := sec9_fit (s := s) hok (by omega) (by omega)
        have E1 : IntKind.i64.wrap (s - 4) = a := by rw [e1]; exact IntWalk.i64_in a ⟨by omega, by omega⟩
        have E2 : IntKind.i64.wrap (P - 2) = b := by rw [e2]; exact IntWalk.i64_in b ⟨by omega, by omega⟩
        have E3 : IntKind.i64.wrap (D - 2) = d := by rw [e3]; exact IntWalk.i64_in d ⟨by omega, by omega⟩
        have E4 : IntKind.i64.wrap (a * b) = p := by rw [e4]; exact IntWalk.i64_in p ⟨by omega, by omega⟩
        have E5 : IntKind.i64.wrap (p * d) = q := by rw [e5]; exact IntWalk.i64_in q ⟨by omega, by omega⟩
        have E6 := hide e6
        have E7 := hide e7
        clear e6 e7 hok
        go_enter Try.func18, Try.ntmps18
        go_wp2_with fail
        clear c0 c1 c2
        refine (rcheck9_any D B P _).mono ?_
        rintro e w2 ⟨rfl, hk⟩
        rw [unhide HO]
        have c0 := ((unhide HG).below hk).c0
        have c1 := ((unhide HG).below hk).c1
        have c2 := ((unhide HG).below hk).c2
        have HK := hide ((unhide HB).trans (hk.mono (unhide HB).size))
        clear hk
        go_wp2_with fail
        go_ret
        exact ⟨by rw [unhide E7, ← unhide E6, Int.tdiv_eq_ediv_of_nonneg q1]; rfl, unhide HK⟩
  · have HO := hide (chk9_not hok)
    have HE : Hid (sec9 D B P s = 0) := by show _ = _; rw [sec9, if_neg (fun h => hok h.1)]
    clear hok
    go_enter Try.func18, Try.ntmps18
    go_wp2_with fail
    clear c0 c1 c2
    refine (rcheck9_any D B P _).mono ?_
    rintro e w2 ⟨rfl, hk⟩
    rw [unhide HO]
    have HK := hide ((unhide HB).trans (hk.mono (unhide HB).size))
    clear hk
    go_wp2_with fail
    go_ret
    exact ⟨by rw [unhide HE]; rfl, unhide HK⟩

end Go.Proofs.Ytnhhemecfcljbaa
