/-
  The laws' own within, Pages, known (ramekinlaw11).
-/
import Derived.Test.YtjdikhelabibnabGreatR11k
namespace Go.Proofs.YtjdikhelabibnabGreat
open Go Go.RowKit Go.Shelf

theorem within11_any (a n : Int) (w : World) (hn : 0 < n) (hn2 : n < 100000) :
    Calls Tryz.prog 6 #[.int .i64 a, .int .i64 n] w fun e w' => e = .returned (.int .i64 (a % n)) ∧ w' = w := by
  obtain ⟨h1, h2, h3, h4⟩ := tmod_emod a n hn
  have H1 := hide h1
  have H2 := hide h2
  clear h1 h2
  go_enter Tryz.func6, Tryz.ntmps6
  go_wp2
  · have h5 : a.tmod n < 0 := by assumption
    go_ret
    exact ⟨by rw [← unhide H1 h5]; rfl, rfl⟩
  · have h5 : 0 ≤ a.tmod n := by assumption
    go_ret
    exact ⟨by rw [← unhide H2 h5]; rfl, rfl⟩

theorem wpList_build_pv11 {ops : Array Oper} {rest : List Oper} {o : Oper} {a : Act} {w : World} {Q : Exit → Act → World → Prop} (hgd : o.guard = none) (x : Operand) (ho : o.op = .buildSlice 30 1 #[(0, x)])
    (p : PV) (hx : a.eval x = .agg #[.int .i64 p.st, p.b])
    (h : wpList Tryz.prog ops Q rest (a.put o.dst (.slice (some ⟨w.heap.size, 0, none⟩) 1 1)) (w.alloc (.cells #[.int .i64 p.st, p.b] 35))) : wpList Tryz.prog ops Q (o :: rest) a w := by
  refine wpList_plain hgd fun K hK => ?_
  unfold Oper.wp execOp
  have hp : (#[(0, x)] : Array (Nat × Operand)).map (fun (i, x) => (i, a.eval x)) = #[(0, .agg #[.int .i64 p.st, p.b])] := by simp [hx]
  simp only [ho, Sem.run_bind, hp, run_build_pv p w, Result.andThen_ok]
  exact hK _ _ h
/-- A page that is lost. -/
def lostP : PV := ⟨1, none, 0, 0, []⟩
/-- Rows as good pages; of those that are lost bad ones. -/
def pagesL (A : Nat → Option Addr) (C gf : Nat → Nat) (l : List (List Nat)) (k : Nat) (lost : List Nat) : List PV := (List.range k).map (fun i => if i ∈ lost then lostP else ⟨2, A i, C i, gf i, l.getD i []⟩)
theorem pagesL_len (A : Nat → Option Addr) (C gf : Nat → Nat) (l : List (List Nat)) (k : Nat) (lost : List Nat) : (pagesL A C gf l k lost).length = k := by simp [pagesL]
theorem pagesL_get {A : Nat → Option Addr} {C gf : Nat → Nat} {l : List (List Nat)} {k : Nat} {lost : List Nat} {i : Nat} (hi : i < k) : (pagesL A C gf l k lost).getD i zPV = if i ∈ lost then lostP else ⟨2, A i, C i, gf i, l.getD i []⟩ := by
  rw [pagesL, List.getD_eq_getElem?_getD, List.getElem?_map, List.getElem?_range hi]; rfl
theorem pagesL_snoc (A : Nat → Option Addr) (C gf : Nat → Nat) (l : List (List Nat)) (k : Nat) : pagesL A C gf l (k + 1) [] = pagesL A C gf l k [] ++ [⟨2, A k, C k, gf k, l.getD k []⟩] := by
  rw [pagesL, List.range_succ, List.map_append]; rfl
/-- Pages in a block of the call's own. -/
structure PgBlk (base : Nat) (w : World) (v : Value) (G : Nat) (P : List PV) : Prop where
  blk : RowM w G 35 2 P.length (fun i => (P.getD i zPV).cs)
  ex : ∃ c, v = .slice (some ⟨G, 0, none⟩) P.length c ∧ P.length ≤ c ∧ c ≤ maxLen
  le : base ≤ G
  ok : ∀ p ∈ P, p.Ok w
theorem PgBlk.arg {base : Nat} {w : World} {v : Value} {G : Nat} {P : List PV} (h : PgBlk base w v G P) : PgArg w v G P := by
  obtain ⟨c, h1, h2, h3⟩ := h.ex
  exact ⟨⟨_, c, h1, h2, h3, (fun e => by cases e), fun _ => ⟨0, rfl, fun i hi => by rw [Nat.zero_add]; exact h.blk.range hi⟩⟩, h.ok⟩
theorem PgBlk.below {base : Nat} {w w' : World} {v : Value} {G : Nat} {P : List PV} (h : PgBlk base w v G P) (k : Below w.heap.size w w') : PgBlk base w' v G P := ⟨h.blk.below k h.blk.lt, h.ex, h.le, fun p hp => (h.ok p hp).below k⟩
theorem PgBlk.mono {base b' : Nat} {w : World} {v : Value} {G : Nat} {P : List PV} (h : PgBlk base w v G P) (hb : b' ≤ base) : PgBlk b' w v G P := ⟨h.blk, h.ex, by have := h.le; omega, h.ok⟩

theorem pagesL_take {A : Nat → Option Addr} {C gf : Nat → Nat} {l : List (List Nat)} {N : Nat} {lost : List Nat} {j i : Nat} (hj : j < lost.length) (hi : i < N) : ((pagesL A C gf l N (lost.take (j + 1))).getD i zPV).cs = if i = cf lost j then lostP.cs else ((pagesL A C gf l N (lost.take j)).getD i zPV).cs := by
  rw [pagesL_get hi, pagesL_get hi]
  have hm : i ∈ lost.take (j + 1) ↔ i ∈ lost.take j ∨ i = cf lost j := by rw [take_mem hj]; exact or_congr Iff.rfl eq_comm
  by_cases e : i = cf lost j
  · rw [if_pos e, if_pos (hm.2 (.inr e))]
  · rw [if_neg e]
    by_cases e2 : i ∈ lost.take j
    · rw [if_pos e2, if_pos (hm.2 (.inl e2))]
    · rw [if_neg e2, if_neg (fun h => (hm.1 h).elim e2 e)]
set_option maxRecDepth 100000 in
set_option maxHeartbeats 8000000 in
theorem pgs11_any (ao : Option Addr) (N c G : Nat) (A : Nat → Option Addr) (C : Nat → Nat) (l : List (List Nat)) (zo : Option Addr) (Lz zc gz : Nat) (lost : List Nat) (hlz : lost.length = Lz) (hl : l.length = N) (h0 : 0 < N) (h8 : N ≤ 100) (hlost : ∀ i ∈ lost, i < N) (w : World) (hA : RArg w (.slice ao N c) G A C l) (hZ : ZArg w (.slice zo Lz zc) gz (ints lost)) :
    Calls Tryz.prog 9 #[.slice ao N c, .slice zo Lz zc] w fun e w' => ∃ gf v Gp, e = .returned v ∧ PgBlk w.heap.size w' v Gp (pagesL A C gf l N lost) ∧ (∀ i, i < N → Arg w (.slice (A i) (l.getD i []).length (C i)) (gf i) (l.getD i [])) ∧ Below w.heap.size w w' := by
  obtain ⟨gf, hgf⟩ : ∃ gf : Nat → Nat, ∀ i, i < N → Arg w (.slice (A i) (l.getD i []).length (C i)) (gf i) (l.getD i []) :=
    ⟨fun i => if h : i < N then Classical.choose (hA.rows i (by rw [hl]; exact h)) else 0, fun i hi => by simp only [dif_pos hi]; exact Classical.choose_spec (hA.rows i (by rw [hl]; exact hi))⟩
  have HGF := hide hgf
  have HV := hide (rarg_vrow hA hl)
  have HZ := hide hZ
  have HLS := hide hlost
  have HLZ := hide hlz
  have hzm : (Lz : Int) ≤ 9223372036854775807 := by
    obtain ⟨_, _, h1, h2, h3, -⟩ := hZ.ex
    have := congrArg (fun v : Value => match v with | .slice _ n _ => n | _ => 0) h1
    simp only [ints_len] at this
    rw [ints_len] at h2
    unfold maxLen at h3
    omega
  clear hgf hA hl hZ hlost hlz
  go_enter Tryz.func9, Tryz.ntmps9
  go_wp2_with fail
  go_loopw [5, 6] (fun v i wr => ∃ (k : Nat), k ≤ N ∧ i = .int .i64 k ∧ OwnG w.heap.size wr v (pagesL A C gf l k []) ∧ Below w.heap.size w wr) (fun _ i _ => N - (intOf i).toNat)
  case atStart => exact ⟨0, by omega, rfl, OwnG.nil _ _, Below.refl _ _⟩
  case round =>
    obtain ⟨k, hk, rfl, hO, hB⟩ := hrel
    obtain ⟨va, vc, hv, -⟩ := hO.1.shape
    rw [pagesL_len] at hv
    subst hv
    have HO := hide hO
    have HB := hide hB
    clear hO hB
    by_cases hlt : k < N
    · have hi1 : (k : Int) < (N : Int) := by omega
      obtain ⟨o, hao, hcl⟩ := (unhide HV).at h0
      subst hao
      have hc := ((unhide HB).cell (block_lt_of_cell (hcl k hlt))).trans (hcl k hlt)
      clear hcl
      obtain ⟨p, hp⟩ : ∃ p : PV, p = ⟨2, A k, C k, gf k, l.getD k []⟩ := ⟨_, rfl⟩
      have hpb : p.b = .slice (A k) (l.getD k []).length (C k) := by rw [hp]; rfl
      have hps : p.st = 2 := by rw [hp]
      have hal := (Below.refl wr.heap.size wr).alloc (Nat.le_refl _) (.cells #[.int .i64 p.st, p.b] 35)
      have hrg : (wr.alloc (.cells #[.int .i64 p.st, p.b] 35)).rangeAt wr.heap.size 0 p.cs := fun j v hv => cell_blk (World.alloc_heap_new wr _) (by rw [Nat.zero_add]; simpa [PV.cs] using hv)
      obtain ⟨v9, w9, hr9, ho9, hg9⟩ := run_append_pv (wr.alloc (.cells #[.int .i64 p.st, p.b] 35)) w.heap.size 30 (.slice va k vc) (pagesL A C gf l k []) ((unhide HO).below hal) wr.heap.size 0 p hrg (by rw [pagesL_len]; omega) (by have := (unhide HB).size; have := hal.size; omega)
      have hB9 : Below w.heap.size w w9 := ((unhide HB).trans (hal.mono (unhide HB).size)).trans ⟨hg9.os, hg9.tape, hg9.output, hg9.size, fun q hq => hg9.block q (by have := (unhide HB).size; have := hal.size; omega) (fun e => by have := ((unhide HO).below hal).1.ownBlock e.symm; omega)⟩
      have HO9 : Hid (OwnG w.heap.size w9 v9 (pagesL A C gf l (k + 1) [])) := by
        rw [pagesL_snoc, ← hp]
        refine ⟨ho9, fun q hq => ?_⟩
        have hq' : q ∈ pagesL A C gf l (k + 1) [] := by rw [pagesL_snoc, ← hp]; exact hq
        obtain ⟨i, hi, he⟩ := mem_getD11 (z := zPV) hq'
        rw [pagesL_len] at hi
        rw [pagesL_get hi, if_neg (by simp)] at he
        rw [← he]
        exact (unhide HGF i (by omega)).below hB9
      have HRA := hide hr9
      have HB9 := hide hB9
      have HPE : Hid ((.agg #[.int .i64 2, .slice (A k) (l.getD k []).length (C k)] : Value) = .agg #[.int .i64 p.st, p.b]) := by show _ = _; rw [hps, hpb]
      clear hr9 ho9 hg9 hB9 hrg hal hp hpb hps
      go_wp2_with (first | (refine wpList_build_pv11 rfl _ rfl p (unhide HPE) ?_) | (at_builtin; refine wpList_append_run rfl _ _ _ _ _ rfl _ _ rfl rfl (unhide HRA) ?_))
      go_roundw
      case rel => exact ⟨k + 1, by omega, by go_num, unhide HO9, unhide HB9⟩
      case measure => simp [intOf]; omega
    · have : k = N := by omega
      subst this
      obtain ⟨g, cg, hv, hge, hcc, hcm, hrow⟩ := (unhide HO).1.row (by rw [pagesL_len]; exact h0)
      rw [pagesL_len] at hv hcc hrow
      cases hv
      have HRW := hide hrow
      have hgB := hrow.lt
      clear hrow
      go_wp2_with fail
      go_loopw [7] (fun i wq => ∃ (j : Nat), j ≤ Lz ∧ i = .int .i64 j ∧ Below w.heap.size w wq ∧ RowM wq g 35 2 k (fun i => ((pagesL A C gf l k (lost.take j)).getD i zPV).cs)) (fun i _ => Lz - (intOf i).toNat)
      case atStart => exact ⟨0, by omega, rfl, unhide HB, by rw [List.take_zero]; exact unhide HRW⟩
      case round =>
        obtain ⟨j, hj, rfl, hB2, hR2⟩ := hrel
        have HB2 := hide hB2
        have HR2 := hide hR2
        clear hB2 hR2
        by_cases hlt2 : j < Lz
        · have hj1 : (j : Int) < (Lz : Int) := by omega
          have hjl : j < lost.length := by rw [unhide HLZ]; exact hlt2
          obtain ⟨oz, hzo, hcz⟩ := irow_some' (zarg_row ((unhide HZ).below (unhide HB2))) (by rw [ints_len]; omega)
          have hcj := hcz j (by rw [ints_len]; exact hjl)
          rw [ints_getD] at hcj
          subst hzo
          clear hcz
          have hcl : cf lost j < k := unhide HLS _ (by rw [← cf_getD]; exact getD_mem11 hjl)
          have hcl1 : ((cf lost j : Nat) : Int) < (k : Int) := by omega
          have hth := (unhide HR2).there hcl
          have HR3 := hide ((unhide HR2).put hcl lostP.cs rfl)
          have HB3 := hide (below10_setCells g lostP.cs (cf lost j * 2) _ (unhide HB2) hge)
          have HTH := hide hth
          clear hth
          go_wp2_with (refine wpList_store_mid rfl 35 _ _ rfl g (cf lost j * 2) lostP.cs.toArray rfl rfl (unhide HTH) sizeTP (all_oneCell_toArray lostP.cs_one) ?_)
          go_roundw
          case rel => exact ⟨j + 1, by omega, by go_num, unhide HB3, (unhide HR3).congr (fun i hi => pagesL_take hjl hi)⟩
          case measure => simp [intOf]; omega
        · have : j = Lz := by omega
          subst this
          have HFIN : Hid (PgBlk w.heap.size wr (.slice (some ⟨g, 0, none⟩) k vc) g (pagesL A C gf l k lost)) := by
            have hr := unhide HR2
            rw [List.take_of_length_le (by rw [unhide HLZ]; exact Nat.le_refl _)] at hr
            refine ⟨by rw [pagesL_len]; exact hr, ⟨vc, by rw [pagesL_len], by rw [pagesL_len]; exact hcc, hcm⟩, hge, fun q hq => ?_⟩
            obtain ⟨i, hi, he⟩ := mem_getD11 (z := zPV) hq
            rw [pagesL_len] at hi
            rw [pagesL_get hi] at he
            rw [← he]
            split
            · exact ⟨⟨none, 0, rfl, by simp [lostP], by simp, fun _ => rfl, .inl rfl⟩, Bs.nil⟩
            · exact (unhide HGF i hi).below (unhide HB2)
          go_wp2
          go_ret
          exact ⟨gf, _, g, rfl, unhide HFIN, unhide HGF, unhide HB2⟩

end Go.Proofs.YtjdikhelabibnabGreat
