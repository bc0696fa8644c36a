/-
  Which blocks are bad: Spoil.
-/
import Derived.Test.YtnondiaefpdlpaaMn
import Derived.Test.YtnondiaefpdlpaaU7d
namespace Go.Proofs.Ytnondiaefpdlpaa
open Go.RowKit Go.Shelf
/-- Which blocks are bad, of raw numbers: those of the first k dies. -/
def spo (B : Nat) (zs : List Int) (k : Nat) : List (Int × Int) := (List.range k).flatMap fun j => if zs.getD j 0 % (2 * (B : Int)) < (B : Int) then [((j : Int), zs.getD j 0 % (2 * (B : Int)))] else []
theorem spo_succ (B : Nat) (zs : List Int) (k : Nat) : spo B zs (k + 1) = spo B zs k ++ (if zs.getD k 0 % (2 * (B : Int)) < (B : Int) then [((k : Int), zs.getD k 0 % (2 * (B : Int)))] else []) := by
  unfold spo
  rw [List.range_succ, List.flatMap_append]
  simp
theorem spo_ok {D B : Nat} {zs : List Int} {k : Nat} (hk : k ≤ D) (hB : 0 < B) : okB D B (spo B zs k) := by
  intro p hp
  obtain ⟨j, hj, hp⟩ := List.mem_flatMap.1 hp
  have := List.mem_range.1 hj
  split at hp
  · rename_i h
    simp at hp
    subst hp
    exact ⟨⟨by simp, by simp; omega⟩, Int.emod_nonneg _ (by omega), h⟩
  · cases hp
theorem spo_len (B : Nat) (zs : List Int) (k : Nat) : (spo B zs k).length ≤ k := by
  induction k with
  | zero => simp [spo]
  | succ k ih =>
    rw [spo_succ, List.length_append]
    split
    · simp; omega
    · simp; omega

theorem infoTA : (Try.prog.info? 55).map (fun i => (i.zero, i.size, i.bytes)) = some (some (.agg #[.int .i64 0, .int .i64 0]), 2, 16) := by kernel_rfl
/-- Places that are being made. -/
def OwnP (base : Nat) (w : World) (v : Value) (l : List (Int × Int)) : Prop := w.ownsRow base 55 2 v l.length (l.flatMap fun p => [.int .i64 p.1, .int .i64 p.2])
theorem OwnP.nil (base : Nat) (w : World) : OwnP base w (.slice none 0 0) [] := World.ownsRow_nil _ _ _ _
theorem OwnP.below {base : Nat} {w w' : World} {v : Value} {l : List (Int × Int)} (h : OwnP base w v l) (k : Below w.heap.size w w') : OwnP base w' v l := by
  refine ⟨h.1, ?_⟩
  rcases h.2 with h' | ⟨g, cap, cur, h1, h2, h3, h4⟩
  · exact .inl h'
  · exact .inr ⟨g, cap, cur, h1, h2, (k.block g (lt_of_block h3)).trans h3, h4⟩
theorem OwnP.row {base : Nat} {w : World} {v : Value} {l : List (Int × Int)} (h : OwnP base w v l) (k : Nat) (hk : v.ownBlock = some k) : base ≤ k := by
  rcases h.2 with ⟨h1, _⟩ | ⟨g, cap, cur, h1, h2, _⟩
  · rw [h1] at hk; cases hk
  · rw [h1] at hk; cases hk; exact h2
theorem OwnP.shape {base : Nat} {w : World} {v : Value} {l : List (Int × Int)} (h : OwnP base w v l) : ∃ a c, v = .slice a l.length c := by
  rcases h.2 with ⟨h, h0⟩ | ⟨g, cap, cur, h1, _⟩
  · exact ⟨_, _, by rw [h, h0]⟩
  · exact ⟨_, _, h1⟩
theorem two_get (l : List (Int × Int)) {i : Nat} (hi : i < l.length) : (l.flatMap fun p => [Value.int .i64 p.1, Value.int .i64 p.2])[i * 2]? = some (.int .i64 (l.getD i (0, 0)).1) ∧ (l.flatMap fun p => [Value.int .i64 p.1, Value.int .i64 p.2])[i * 2 + 1]? = some (.int .i64 (l.getD i (0, 0)).2) := by
  induction l generalizing i with
  | nil => simp at hi
  | cons p l ih =>
    cases i with
    | zero => exact ⟨rfl, rfl⟩
    | succ i =>
      have := ih (i := i) (by simp at hi; omega)
      rw [List.flatMap_cons, show (i + 1) * 2 = i * 2 + 1 + 1 from by omega]
      exact this
theorem OwnP.parg {base : Nat} {w : World} {v : Value} {l : List (Int × Int)} (h : OwnP base w v l) : ∃ g, PArg w v g l := by
  rcases h.2 with ⟨h', h0⟩ | ⟨g, cap, cur, h1, h2, h3, h4, h5, h6, h7⟩
  · have : l = [] := List.eq_nil_of_length_eq_zero h0
    subst this
    rw [h']
    exact ⟨0, PArg.nil w⟩
  · refine ⟨g, some ⟨g, 0, none⟩, cap, h1, h4, h5, fun _ => ⟨0, rfl, fun i hi => ?_⟩⟩
    have e1 : (cur.toList.take (l.length * 2))[i * 2]? = some (.int .i64 (l.getD i (0, 0)).1) := by rw [h7]; exact (two_get l hi).1
    have e2 : (cur.toList.take (l.length * 2))[i * 2 + 1]? = some (.int .i64 (l.getD i (0, 0)).2) := by rw [h7]; exact (two_get l hi).2
    rw [List.getElem?_take, if_pos (by omega), Array.getElem?_toList] at e1 e2
    rw [Nat.zero_add]
    exact ⟨cell_blk h3 e1, cell_blk h3 e2⟩
theorem wpList_append_run {ops : Array Oper} {rest : List Oper} {o : Oper} {a : Act} {Q : Exit → Act → World → Prop} (hgd : o.guard = none) (w : World) (d s : Operand) (t t' : TypeId)
    (ho : o.op = .call { callee := .builtin .append, args := #[d, s], argTypes := #[t, t'] }) (v u : Value) (hd : a.eval d = v) (hs : a.eval s = u) {v' : Value} {w' : World}
    (hr : (Builtin.append_ #[t, t'] o.type #[v, u]).run Try.prog w = .ok v' w') (h : wpList Try.prog ops Q rest (a.put o.dst v') w') : wpList Try.prog ops Q (o :: rest) a w :=
  wpList_plain hgd fun _ hK => wp_append_run w d s t t' ho v u hd hs hr (hK _ _ h)
set_option maxRecDepth 100000 in
theorem run_append_two (w : World) (base : Nat) (ty : TypeId) (v : Value) (l : List (Int × Int)) (hown : OwnP base w v l) (g : Nat) (p : Int × Int) (hc0 : w.cell? ⟨g, 0, none⟩ = some (.int .i64 p.1)) (hc1 : w.cell? ⟨g, 1, none⟩ = some (.int .i64 p.2)) (hb : l.length ≤ 1000) (hbase : base ≤ w.heap.size) :
    ∃ v' w', (Builtin.append_ #[33, 33] ty #[v, .slice (some ⟨g, 0, none⟩) 1 1]).run Try.prog w = .ok v' w' ∧ OwnP base w' v' (l ++ [p]) ∧ w.grownBy w' v.ownBlock := by
  obtain ⟨i0, hi0, hz0, hz1, hz2⟩ := info_parts infoTA
  obtain ⟨v', w', h1, h2, h3, _⟩ := run_append_own (P := Try.prog) w base 33 ty 55 i0 (.agg #[.int .i64 0, .int .i64 0]) 2 16 Try.underlying33 hi0 hz0 hz1 hz2 rfl (by decide) v _ _ hown ⟨g, 0, none⟩ 1 1 [.int .i64 p.1, .int .i64 p.2] (by simp) (by
    intro j u hu
    rw [Addr.add_lit, Nat.zero_add]
    match j, hu with
    | 0, hu => simp at hu; rw [← hu]; exact hc0
    | 1, hu => simp at hu; rw [← hu]; exact hc1
    | j + 2, hu => simp at hu) (by
    intro u hu
    simp at hu
    rcases hu with rfl | rfl
    · rfl
    · rfl) (by unfold maxLen; omega) (by omega) hbase
  refine ⟨v', w', h1, ?_, h3⟩
  unfold OwnP
  rw [List.length_append, List.flatMap_append]
  exact h2

set_option maxRecDepth 100000 in
set_option maxHeartbeats 8000000 in
theorem spoil_any (D B P : Nat) (ao : Option Addr) (n c gz : Nat) (zs : List Int) (w : World) (hD : D ≤ 8) (hB : B ≤ 12) (hB0 : 0 < B) (hZ : ZArg w (.slice ao n c) gz zs) :
    Calls Try.prog 13 #[.agg #[.int .i64 (D : Int), .int .i64 (B : Int), .int .i64 (P : Int)], .slice ao n c] w fun e w' => ∃ v, e = .returned v ∧ OwnP w.heap.size w' v (spo B zs (min n D)) ∧ Below w.heap.size w w' := by
  have hal : Below w.heap.size w (w.alloc (.cells #[.int .i64 (D : Int), .int .i64 (B : Int), .int .i64 (P : Int)] 23)) := (Below.refl _ _).alloc (Nat.le_refl _) _
  have hnn := World.alloc_heap_new w (.cells #[.int .i64 (D : Int), .int .i64 (B : Int), .int .i64 (P : Int)] 23)
  have HT := hide hal
  have HG := hide hnn
  have HZ := hide hZ
  have HZL := hide hZ.nil_imp.1
  have hn1 : (n : Int) ≤ 9223372036854775807 := by
    obtain ⟨⟨ao', c', h1, h2, h3, _⟩, _⟩ := hZ
    cases h1
    unfold maxLen at h3
    omega
  have HO : Hid (OwnP w.heap.size (w.alloc (.cells #[.int .i64 (D : Int), .int .i64 (B : Int), .int .i64 (P : Int)] 23)) (.slice none 0 0) (spo B zs 0)) := OwnP.nil _ _
  have hD8 : (D : Int) ≤ 8 := by omega
  have hB12 : (B : Int) ≤ 12 := by omega
  clear hal hnn hZ
  go_enter Try.func13, Try.ntmps13
  go_wp2_with fail
  generalize w.alloc (.cells #[.int .i64 (D : Int), .int .i64 (B : Int), .int .i64 (P : Int)] 23) = W0 at HT HG HO ⊢
  go_loopw [5, 6, 7] (fun q5 q6 _ wr => ∃ (i : Nat) (vo : Value), vo = q5 ∧ q6 = .int .i64 i ∧ i ≤ min n D ∧ Hid (OwnP w.heap.size wr vo (spo B zs i)) ∧ Hid (wr.heap[w.heap.size]? = some (.cells #[.int .i64 (D : Int), .int .i64 (B : Int), .int .i64 (P : Int)] 23 (0, 0))) ∧ Hid (Below w.heap.size w wr)) (fun _ q6 _ _ => min n D - (intOf q6).toNat)
  case atStart => exact ⟨0, _, rfl, rfl, by omega, HO, HG, HT⟩
  case round =>
    clear HO HG HT
    obtain ⟨i, vo, rfl, rfl, hi, HO, HG, HT⟩ := hrel
    have b0 : wr.cell? ⟨w.heap.size, 0, none⟩ = some (.int .i64 (D : Int)) := cell_blk (unhide HG) rfl
    by_cases hin : i < n
    · have hi1 : (i : Int) < (n : Int) := by omega
      by_cases hiD : i < D
      · have hi2 : (i : Int) < (D : Int) := by omega
        have hzl : i < zs.length := by rw [unhide HZL]; exact hin
        obtain ⟨oz, hoz, hcz⟩ := irow_some' (unhide HZ).nil_imp.2.2 (by omega)
        subst hoz
        have hgz := (unhide HZ).lt7 (fun e => by rw [e] at hzl; simp at hzl)
        have hz := (unhide HT).cell hgz |>.trans (hcz i hzl)
        have HZC : Hid (wr.drew.cell? ⟨gz, oz + i, none⟩ = some (.int .i64 (zs.getD i 0))) := hz
        have HBC : Hid (wr.drew.cell? ⟨w.heap.size, 1, none⟩ = some (.int .i64 (B : Int))) := cell_blk (w := wr.drew) (unhide HG) rfl
        replace HG : Hid (wr.drew.heap[w.heap.size]? = some (.cells #[.int .i64 (D : Int), .int .i64 (B : Int), .int .i64 (P : Int)] 23 (0, 0))) := unhide HG
        replace HT := hide (unhide HT).drew
        replace HO : Hid (OwnP w.heap.size wr.drew vo (spo B zs i)) := (unhide HO).below ((Below.refl _ _).drew)
        obtain ⟨z, hzz⟩ : ∃ z, zs.getD i 0 = z := ⟨_, rfl⟩
        have HS := hide (spo_succ B zs i)
        rw [hzz] at HZC HS
        have HSL := hide (spo_len B zs i)
        clear hz hcz hgz hzl
        go_wp2_with fail
        clear b0
        have hw2 : IntKind.i64.wrap (2 * (B : Int)) = 2 * (B : Int) := IntWalk.i64_in _ ⟨by omega, by omega⟩
        refine wp_region_noPanic ?_
        refine wp_region_held_drew (S := fun W => W.cell? ⟨gz, oz + i, none⟩ = some (.int .i64 z) ∧ W.cell? ⟨w.heap.size, 1, none⟩ = some (.int .i64 (B : Int))) (by kernel_rfl) ?_ (fun hHeld => ?_)
        · exact ⟨unhide HZC, unhide HBC⟩
        have HH := hide hHeld
        clear hHeld
        clear hzz
        have hsz : w.heap.size < wr.drew.heap.size := lt_of_block (unhide HG)
        generalize wr.drew = W2 at HZC HBC HG HT HO HH hsz ⊢
        refine takeL (i := 0) (v := ?_) rfl (by kernel_rfl) (by kernel_rfl) (by kernel_rfl) (fun _ _ _ h => h) (Or.inl ⟨by rfl, ?_⟩) (unhide HH) ?_
        rotate_left 1
        · intro W ⟨s1, s2⟩; go_simp; all_goals (with_reducible rfl)
        (try simp only [Act.put, List.setIfInBounds_toArray, List.set_cons_zero, List.set_cons_succ])
        refine takeL (i := 1) (v := ?_) rfl (by kernel_rfl) (by kernel_rfl) (by kernel_rfl) (fun _ _ _ h => h) (Or.inl ⟨by rfl, ?_⟩) (unhide HH) ?_
        rotate_left 1
        · intro W ⟨s1, s2⟩; go_simp; all_goals (with_reducible rfl)
        (try simp only [Act.put, List.setIfInBounds_toArray, List.set_cons_zero, List.set_cons_succ])
        refine takeL (i := 2) (v := ?_) rfl (by kernel_rfl) (by kernel_rfl) (by kernel_rfl) (fun _ _ _ h => h) (Or.inl ⟨by rfl, ?_⟩) (unhide HH) ?_
        rotate_left 1
        · intro W ⟨s1, s2⟩; go_simp; all_goals (with_reducible rfl)
        (try simp only [Act.put, List.setIfInBounds_toArray, List.set_cons_zero, List.set_cons_succ])
        refine takeL (i := 3) (v := ?_) rfl (by kernel_rfl) (by kernel_rfl) (by kernel_rfl) (fun _ _ _ h => h) (Or.inl ⟨by rfl, ?_⟩) (unhide HH) ?_
        rotate_left 1
        · intro W ⟨s1, s2⟩; go_simp; all_goals (with_reducible rfl)
        (try simp only [Act.put, List.setIfInBounds_toArray, List.set_cons_zero, List.set_cons_succ])
        refine takeL (i := 4) (v := ?_) rfl (by kernel_rfl) (by kernel_rfl) (by kernel_rfl) (fun _ _ _ h => h) (Or.inl ⟨by rfl, ?_⟩) (unhide HH) ?_
        rotate_left 1
        · intro W ⟨s1, s2⟩; go_simp; all_goals (with_reducible rfl)
        (try simp only [Act.put, List.setIfInBounds_toArray, List.set_cons_zero, List.set_cons_succ])
        refine takeL (i := 5) (v := ?_) rfl (by kernel_rfl) (by kernel_rfl) (by kernel_rfl) (fun _ _ _ h => h) (Or.inl ⟨by rfl, ?_⟩) (unhide HH) ?_
        rotate_left 1
        · intro W ⟨s1, s2⟩; go_simp; all_goals (with_reducible rfl)
        (try simp only [Act.put, List.setIfInBounds_toArray, List.set_cons_zero, List.set_cons_succ])
        refine takeL (i := 6) (v := ?_) rfl (by kernel_rfl) (by kernel_rfl) (by kernel_rfl) (fun _ _ _ h => h) (Or.inl ⟨by rfl, ?_⟩) (unhide HH) ?_
        rotate_left 1
        · intro W ⟨s1, s2⟩; go_simp; all_goals (with_reducible rfl)
        (try simp only [Act.put, List.setIfInBounds_toArray, List.set_cons_zero, List.set_cons_succ])
        refine wpAnyH_ready (rs := [7]) (by kernel_rfl) (by simp) ?_
        refine consL rfl (fun K hK => ?_) AllReadyH.nil
        go_simp
        refine (within7_any _ (2 * (B : Int)) _ (by omega) (by omega)).mono ?_
        rintro e W3 ⟨rfl, hW⟩
        replace hW := hW.symm
        subst hW
        go_wp2_with fail
        refine hK.out _ _ (unhide HH) (fun hHeld => ?_)
        clear hK K HH
        have HH := hide hHeld
        clear hHeld
        (try simp only [Act.put, List.setIfInBounds_toArray, List.set_cons_zero, List.set_cons_succ])
        refine takeL (i := 8) (v := ?_) rfl (by kernel_rfl) (by kernel_rfl) (by kernel_rfl) (fun _ _ _ h => h) (Or.inl ⟨by rfl, ?_⟩) (unhide HH) ?_
        rotate_left 1
        · intro W ⟨s1, s2⟩; go_simp; all_goals (with_reducible rfl)
        (try simp only [Act.put, List.setIfInBounds_toArray, List.set_cons_zero, List.set_cons_succ])
        refine wpAnyH_done (by kernel_rfl) ?_ _
        refine NoPanic.normal ?_
        have hk0 := Int.emod_nonneg z (show (2 * (B : Int)) ≠ 0 by omega)
        generalize z % (2 * (B : Int)) = k at HS hk0 ⊢
        have b1 : W2.cell? ⟨w.heap.size, 1, none⟩ = some (.int .i64 (B : Int)) := unhide HBC
        obtain ⟨vo1, vc1, hvo⟩ := (unhide HO).shape
        by_cases hkB : k < (B : Int)
        · rw [if_pos hkB] at HS
          have hal : Below W2.heap.size W2 (W2.alloc (.cells #[.int .i64 (i : Int), .int .i64 k] 55)) := (Below.refl _ _).alloc (Nat.le_refl _) _
          have hnn := World.alloc_heap_new W2 (.cells #[.int .i64 (i : Int), .int .i64 k] 55)
          obtain ⟨v4, W4, hr4, hO4, hg4⟩ := run_append_two _ w.heap.size 33 vo (spo B zs i) ((unhide HO).below hal) W2.heap.size ((i : Int), k) (cell_blk hnn rfl) (cell_blk hnn rfl) (by have := unhide HSL; omega) (by have := hal.size; omega)
          rw [← unhide HS] at hO4
          have hb4 : Below w.heap.size W2 W4 := below_grown (hal.mono (by omega)) hg4 (by have := hal.size; omega) (fun k hk => (unhide HO).row k hk)
          have HO4 := hide hO4
          have HT4 := hide ((unhide HT).trans hb4)
          have HG4 : Hid (W4.heap[w.heap.size]? = some (.cells #[.int .i64 (D : Int), .int .i64 (B : Int), .int .i64 (P : Int)] 23 (0, 0))) := by
            have h1 := hg4.block w.heap.size (by have := hal.size; omega) (fun e => by
              rcases (unhide HO).2 with ⟨h1, _⟩ | ⟨g, cap, cur, h1, h2, h3, _⟩
              · rw [h1] at e; cases e
              · rw [h1] at e
                have e2 : g = w.heap.size := Option.some.inj e.symm
                rw [e2, unhide HG] at h3
                cases h3)
            exact h1.trans ((hal.block _ hsz).trans (unhide HG))
          subst hvo
          have hr5 : ∀ (s0 : Value), s0 = .slice vo1 (spo B zs i).length vc1 → (Builtin.append_ #[33, 33] 33 #[s0, .slice (some ⟨W2.heap.size, 0, none⟩) 1 1]).run Try.prog (W2.alloc (.cells #[.int .i64 (i : Int), .int .i64 k] 55)) = .ok v4 W4 := fun s0 e => by rw [e]; exact hr4
          have hr6 := hr5 _ rfl
          obtain ⟨o4, c4, hv4⟩ := hO4.shape
          subst hv4
          have HR6 := hide hr6
          clear hr4 hr5 hr6 hO4 hg4 hb4 hal hnn HO HZC HBC HT HG HH
          go_wp2_with (at_builtin; refine wpList_append_run rfl _ _ _ _ _ rfl _ _ rfl rfl (unhide HR6) ?_)
          go_roundw
          case rel => exact ⟨i + 1, _, rfl, by go_num, by omega, HO4, HG4, HT4⟩
          case measure => simp [intOf]; omega
        · rw [if_neg hkB, List.append_nil] at HS
          have HO4 : Hid (OwnP w.heap.size W2 vo (spo B zs (i + 1))) := by rw [unhide HS]; exact HO
          clear HZC HBC HH HO
          have hkB' : (B : Int) ≤ k := by omega
          go_wp2_with fail
          go_roundw
          case rel => exact ⟨i + 1, _, rfl, by go_num, by omega, HO4, HG, HT⟩
          case measure => simp [intOf]; omega
      · have hi2 : (D : Int) ≤ (i : Int) := by omega
        go_wp2_with fail
        go_returns
        refine ⟨_, rfl, ?_, unhide HT⟩
        rw [show min n D = i from by omega]
        exact unhide HO
    · have hi1 : (n : Int) ≤ (i : Int) := by omega
      go_wp2_with fail
      go_returns
      refine ⟨_, rfl, ?_, unhide HT⟩
      rw [show min n D = i from by omega]
      exact unhide HO

end Go.Proofs.Ytnondiaefpdlpaa
