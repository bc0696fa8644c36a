/-
  geom.ranks with its iterator; slices.AppendSeq, Collect of rows.
-/
import Derived.Test.YtnhhemecfcljbaaK9h
import Derived.Test.YtnhhemecfcljbaaK9t
namespace Go.Proofs.Ytnhhemecfcljbaa
open Go.RowKit Go.Shelf
attribute [local go_sem] Oper.semAt_some

theorem one_at9' {w : World} {g : Nat} {u : Value} (h : w.cell? ⟨g, 0, none⟩ = some u) : ∀ j v, [u][j]? = some v → w.cell? ((⟨g, 0, none⟩ : Addr).add j) = some v := by
  intro j v hv
  obtain ⟨hj, hv⟩ := List.getElem?_eq_some_iff.1 hv
  have : j = 0 := by simpa using hj
  subst this
  rw [Addr.add_lit]
  simp at hv
  rw [← hv]
  exact h
theorem SeqT.below9 {α : Type} {P : Program} {g : Nat} {lb : Array Value} {encs : α → Array Value} {T : Nat → Option Obj → Prop} {D : Nat} {S : Nat → List α → World → Prop} {N : Nat} {w w' : World} (h : SeqT P g lb encs T D S N w) (k : Below w.heap.size w w') : SeqT P g lb encs T D S N w' :=
  fun l J W hW hJ hY h0 n => h l J W (k.trans (hW.mono k.size)) hJ hY h0 n
/-- A slice, told by its parts. -/
abbrev Sl9 := Option Addr × Nat × Nat
def sv9 (x : Sl9) : Value := .slice x.1 x.2.1 x.2.2
def dft9 : Sl9 := (none, 0, 0)
theorem snoc_lt9 {pre : List Sl9} {x : Sl9} {i : Nat} (h : i < pre.length) : (pre ++ [x]).getD i dft9 = pre.getD i dft9 := by
  rw [List.getD_eq_getElem?_getD, List.getElem?_append_left h, ← List.getD_eq_getElem?_getD]
theorem snoc_eq9 {pre : List Sl9} {x : Sl9} : (pre ++ [x]).getD pre.length dft9 = x := by
  rw [List.getD_eq_getElem?_getD, List.getElem?_append_right (Nat.le_refl _), Nat.sub_self]
  rfl

/-- What was told of the slices that have come. -/
def Rks9 (n : Nat) (R : Nat → List Nat) (b : Nat) (xs : List Sl9) (W : World) : Prop := xs.length = n ∧ ∀ i, i < n → OwnI b W (sv9 (xs.getD i dft9)) (R i)
theorem Rks9.keep {n : Nat} {R : Nat → List Nat} {b : Nat} {xs : List Sl9} {A B : World} (h : Rks9 n R b xs A) (k : ∀ k, b ≤ k → k < A.heap.size → B.heap[k]? = A.heap[k]?) : Rks9 n R b xs B := ⟨h.1, fun i hi => (h.2 i hi).keep (fun g h1 h2 => k g h1 h2)⟩
/-- Cells of ints, and what was there, are kept. -/
def KpI (m k : Nat) (o : Option Obj) : Prop := k < m ∨ ∃ cur, o = some (.cells cur 3 (0, 0))

set_option maxHeartbeats 1000000 in
theorem ranks_any (v : Value) (w : World) (hv : ∃ ao n c, v = .slice ao n c) : Calls Try.prog 23 #[v] w fun e w' =>
    e = .returned (.func (.func 28) #[] #[.pointer (some ⟨w.heap.size, 0, none⟩)]) ∧ w'.cell? ⟨w.heap.size, 0, none⟩ = some v ∧ w'.heap.size = w.heap.size + 1 ∧ Below w.heap.size w w' := by
  obtain ⟨ao, n, c, rfl⟩ := hv
  go_enter Try.func23, Try.ntmps23
  go_wp2
  go_ret
  exact ⟨rfl, (cell_new' w _ _).1, by simp, (Below.refl _ w).alloc (Nat.le_refl _) _⟩

set_option maxRecDepth 100000 in
set_option maxHeartbeats 8000000 in
theorem ranks_x (bl base : Nat) (v : Value) (ls : List (List Nat)) (N : Nat) (hN : N ≤ 1000) (hls : ls.length ≤ 1000) (hmin : ∀ l ∈ ls, N ≤ l.length) (hex : ∃ l ∈ ls, l.length ≤ N) (w : World)
    (hcap : w.cell? ⟨bl, 0, none⟩ = some v) (hA : OwnRI base w v ls) :
    SeqT Try.prog 28 #[.pointer (some ⟨bl, 0, none⟩)] (fun x : Sl9 => #[.slice x.1 x.2.1 x.2.2]) (KpI w.heap.size) 0 (Rks9 N (rk9 ls)) N w := by
  intro l J W hW hJ hY h0 n
  have hb := block_lt_of_cell hcap
  dsimp only at hb
  have hsz := hW.size
  have hA0 := hide hA
  have HCAP := hide hcap
  obtain ⟨a, c, hv⟩ := hA.sl
  subst hv
  clear hA hcap
  have hlen : 0 < ls.length := by
    obtain ⟨l, hl, _⟩ := hex
    exact List.length_pos_of_mem hl
  have HI0 : Hid (∀ k, k < w.heap.size → W.heap[k]? = w.heap[k]?) := fun k hk => hW.block k hk
  show CallsIn Fence.wide n Try.prog 28 #[.func (.yield l) #[] #[], .pointer (some ⟨bl, 0, none⟩)] W _
  refine callsIn_of_wp Try.func28 rfl trivial ?_ rfl
  simp only [Try.ntmps28, List.size_toArray, List.length_cons, List.length_nil, Nat.reduceAdd, Nat.reduceSub, Array.replicate_succ, Array.replicate_zero, List.push_toArray, List.append_toArray, List.nil_append, List.cons_append]
  gi_wp2
  gi_loopw [3] (fun q wr => ∃ (pre : List Sl9) (i : Nat), q = .int .i64 i ∧ i ≤ N ∧ Hid (Rks9 i (rk9 ls) W.heap.size pre wr) ∧ Hid (J pre wr) ∧ W.heap.size ≤ wr.heap.size ∧ Hid (∀ k, k < w.heap.size → wr.heap[k]? = w.heap[k]?)) (fun q _ => N - (intOf q).toNat)
  case atStart => exact ⟨[], 0, rfl, by omega, ⟨rfl, fun i hi => by omega⟩, h0, Nat.le_refl _, HI0⟩
  case round =>
    obtain ⟨pre, i, rfl, hi, HR, HJ, hzW, HKB⟩ := hrel
    have hc1 : wr.cell? ⟨bl, 0, none⟩ = some (.slice a ls.length c) := (World.cell?_of_block (unhide HKB bl hb)).trans (unhide HCAP)
    have HA1 : Hid (OwnRI base wr (.slice a ls.length c) ls) := (unhide hA0).keep (fun g _ _ _ _ h1 => unhide HKB g (lt_of_block h1))
    gi_wp2
    refine ⟨trivial, fun h => absurd h (by simp [Fence.wide]), (callsIn_wide.2 (rank_any base _ ls i wr (unhide HA1) hls)).mono ?_⟩
    rintro e W2 ⟨u, rfl, hu, hk⟩
    have HKB2 : Hid (∀ k, k < w.heap.size → W2.heap[k]? = w.heap[k]?) := fun k h => (hk.block k (by omega)).trans (unhide HKB k h)
    have HJ2 : Hid (J pre W2) := hJ _ _ _ (unhide HJ) (Ka.of_below hk)
    have HR2 : Hid (Rks9 i (rk9 ls) W.heap.size pre W2) := (unhide HR).keep (fun g _ h2 => hk.block g h2)
    have hz2 : W.heap.size ≤ W2.heap.size := Nat.le_trans hzW hk.size
    by_cases hlt : i < N
    · have e : rkR ls i = rk9 ls i := if_pos (fun l hl => by have := hmin l hl; omega)
      rw [e] at hu
      obtain ⟨ua, uc, hv⟩ := hu.sl
      subst hv
      rw [rk9_len] at hu ⊢
      have HU : Hid (OwnI W.heap.size W2 (.slice ua ls.length uc) (rk9 ls i)) := hu.mono hzW
      have hlz : ((ls.length : Int) == 0) = false := by rw [beq_eq_false_iff_ne]; omega
      have hpl : pre.length < N := by have := (unhide HR).1; omega
      obtain ⟨fn, tmps, assign, body, hy1, hR⟩ := hY pre (ua, ls.length, uc) W2 (unhide HJ2) hpl hz2
      dsimp only at hy1
      clear hu hk e hc1
      gi_wp2
      refine ⟨fun h => absurd h (by simp [Fence.wide]), (round_any hR).mono ?_⟩
      rintro e W3 ⟨rfl, hJ3, hk3⟩
      have HJ3 := hide hJ3
      have HKB3 : Hid (∀ k, k < w.heap.size → W3.heap[k]? = w.heap[k]?) := fun k h => (hk3.block k (by omega) (.inr (.inl h))).trans (unhide HKB2 k h)
      have hki : ∀ (g : Nat) (cur : Array Value), W.heap.size ≤ g → W2.heap[g]? = some (.cells cur 3 (0, 0)) → W3.heap[g]? = W2.heap[g]? := fun g cur _ h => hk3.block g (lt_of_block h) (.inr (.inr ⟨cur, h⟩))
      have HR3 : Hid (Rks9 (i + 1) (rk9 ls) W.heap.size (pre ++ [(ua, ls.length, uc)]) W3) := by
        have hpi := (unhide HR2).1
        refine ⟨by rw [List.length_append, hpi]; rfl, fun k hk => ?_⟩
        by_cases ek : k = i
        · subst ek
          rw [← hpi, snoc_eq9, hpi]
          exact (unhide HU).keepT hki
        · rw [snoc_lt9 (by omega)]
          exact ((unhide HR2).2 k (by omega)).keepT hki
      have hz3 : W.heap.size ≤ W3.heap.size := Nat.le_trans hz2 hk3.size
      clear hJ3 hk3 hy1 hR hki HU
      gi_wp2
      go_roundw
      case rel => exact ⟨pre ++ [(ua, ls.length, uc)], i + 1, by go_num, by omega, HR3, HJ3, hz3, HKB3⟩
      case measure => simp [intOf]; omega
    · have hiN : i = N := by omega
      subst hiN
      have e : rkR ls i = [] := if_neg (fun h => by obtain ⟨l, hl, h2⟩ := hex; have := h l hl; omega)
      rw [e] at hu
      obtain ⟨ua, uc, hv⟩ := hu.sl
      subst hv
      clear hu e hc1
      gi_wp2
      refine ⟨fun _ h => (by cases h), ?_⟩
      gi_wp2
      refine bodyPost_ret (results_none rfl _ _ _) rfl ?_
      exact ⟨⟨_, rfl⟩, pre, unhide HR2, unhide HJ2⟩

theorem OwnC.congr {base : Nat} {w : World} {e : TypeId} {v : Value} {n : Nat} {f f' : Nat → Value} (h : OwnC base w e v n f) (hf : ∀ i, i < n → f i = f' i) : OwnC base w e v n f' := by
  unfold OwnC at h ⊢
  rwa [show (List.range n).map f' = (List.range n).map f from List.map_congr_left (fun i hi => (hf i (List.mem_range.1 hi)).symm)]

set_option maxRecDepth 100000 in
set_option maxHeartbeats 8000000 in
theorem appendSeq9_any (gf : Nat) (lb : Array Value) (D N : Nat) (R : Nat → List Nat) (hN : N ≤ 1000) (w : World) (hen : ∀ args W, (callFunc gf args).run Try.prog W = .ok (.enter gf args) W)
    (hseq : SeqT Try.prog gf lb (fun x : Sl9 => #[.slice x.1 x.2.1 x.2.2]) (KpI w.heap.size) D (Rks9 N R) N w) :
    Calls Try.prog 27 #[.slice none 0 0, .func (.func gf) #[] lb] w fun e w' => ∃ v, e = .returned v ∧ OwnRI w.heap.size w' v ((List.range N).map R) ∧ Below w.heap.size w w' := by
  refine (callsIn_wide (n := 3)).1 ?_
  refine callsIn_of_wp_marks Try.func27 rfl trivial ?_ rfl
  simp only [Try.ntmps27, List.size_toArray, List.length_cons, List.length_nil, Nat.reduceAdd, Nat.reduceSub, Array.replicate_succ, Array.replicate_zero, List.push_toArray, List.append_toArray, List.nil_append, List.cons_append]
  gi_wp2
  have HB1 := hide ((Below.refl _ w).alloc (Nat.le_refl _) (.cells #[.slice none 0 0] 31))
  have HC1 := hide (cell_new' w (.slice none 0 0) 31)
  have hbt1 := World.alloc_heap_new w (.cells #[.slice none 0 0] 31)
  have HZ1 : Hid ((w.alloc (.cells #[.slice none 0 0] 31)).heap.size = w.heap.size + 1) := World.size_alloc _ _
  obtain ⟨w1, hw1⟩ : ∃ w1, w.alloc (.cells #[.slice none 0 0] 31) = w1 := ⟨_, rfl⟩
  rw [hw1] at HB1 HC1 HZ1 hbt1 ⊢
  clear hw1
  have hz1a := Nat.le_of_eq (unhide HZ1)
  have hz1b := Nat.le_of_eq (unhide HZ1).symm
  obtain ⟨i0, hi0, hz0, hzz1, hz2⟩ := info_parts infoRL
  have HI := hide hi0
  have HBT : Hid (∃ cur, w1.heap[w.heap.size]? = some (.cells cur 31 (0, 0))) := ⟨_, hbt1⟩
  clear hi0 hbt1
  refine wpIn_range_t (gf := gf) (lb := lb) rfl hen (SeqT.below9 hseq (unhide HB1)) (fun k r hk => by rcases hk with h | ⟨cur, h⟩; omega; cases h) (fun b xs A B h k => h.keep k) (fun _ => rfl)
    (fun pre A => ∃ v, (A.cell? ⟨w.heap.size, 0, none⟩ = some v ∧ A.frozen? ⟨w.heap.size, 0, none⟩ = false) ∧ (∃ cur, A.heap[w.heap.size]? = some (.cells cur 31 (0, 0))) ∧ OwnC (w1.heap.size + 2 + D) A 25 v pre.length (fun i => sv9 (pre.getD i dft9)) ∧ Below w.heap.size w A ∧ w1.heap.size ≤ A.heap.size)
    (fun s A B h hb => by
      obtain ⟨v, ⟨h1, h2⟩, hbt, h3, h4, h5⟩ := h
      have hkb := hb.block w.heap.size (by omega) (by omega)
      exact ⟨v, ⟨(World.cell?_of_block hkb).trans h1, (World.frozen?_of_block (a := ⟨w.heap.size, 0, none⟩) hkb).trans h2⟩, by rw [hkb]; exact hbt, h3.keep (fun g cur h6 h7 => hb.block g (lt_of_block h7) (by omega)), h4.trans ((hb.below (by omega)).mono (by omega)), Nat.le_trans h5 hb.size⟩)
    ⟨.slice none 0 0, unhide HC1, unhide HBT, OwnC.nil _ _ _ _, unhide HB1, Nat.le_refl _⟩ ?round ?done
  case done =>
    rintro D1 xs A hD hD2 hxs ⟨v, ⟨hc, hf⟩, _, hO, hB, hzA⟩ hK
    have HO := hide hO
    have HB := hide hB
    have HX := hide hxs
    obtain ⟨vo, vc, hv⟩ := hO.shape
    subst hv
    clear hO hB hxs
    gi_wp2
    refine ⟨by simp, .inl ⟨_, _, rfl, run_takeDeferred hK, ?_⟩⟩
    refine ⟨_, results_tmp rfl _ _ _, _, rfl, ?_, (unhide HB).trans (below_put _ _ (by omega))⟩
    obtain ⟨hxl, hxr⟩ := unhide HX
    refine ⟨fun i => sv9 (xs.getD i dft9), ?_, fun i hi => ?_⟩
    · rw [List.length_map, List.length_range]
      have h := (unhide HO).keep (w' := A.putObj D1 (.deferred none)) (fun g cur h1 h2 => World.putObj_heap_other (by omega))
      rw [hxl] at h ⊢
      exact h.mono (by omega)
    · rw [List.length_map, List.length_range] at hi
      rw [List.getD_eq_getElem?_getD (l := (List.range N).map R), List.getElem?_map, List.getElem?_range hi]
      exact ((hxr i hi).keep (fun g h1 h2 => World.putObj_heap_other (by omega))).mono (by omega)
  case round =>
    rintro l pre x A ⟨v, ⟨hc, hf⟩, hbt, hO, hB, hzA⟩ hlen hs2A
    gi_wp2
    refine ⟨⟨Kt.refl _ _ _ _, v, ⟨hc, hf⟩, hbt, hO, hB, hzA⟩, ?_⟩
    clear hc hf hbt hO hB v
    rintro W₂ hsz2 - - ⟨v, ⟨hc, hf⟩, hbt, hO, hB, hz3⟩
    have hsz3 : w1.heap.size + 2 + D ≤ W₂.heap.size := by omega
    clear hsz2
    have HB := hide hB
    have HBT2 := hide hbt
    obtain ⟨vo, vc, hv⟩ := hO.shape
    subst hv
    have HO := hide hO
    have HAL := hide ((Below.refl _ W₂).alloc (Nat.le_refl _) (.cells #[.slice x.1 x.2.1 x.2.2] 25))
    have HO2 : Hid (OwnC (w1.heap.size + 2 + D) (W₂.alloc (.cells #[.slice x.1 x.2.1 x.2.2] 25)) 25 (.slice vo pre.length vc) pre.length (fun i => sv9 (pre.getD i dft9))) := hO.below (unhide HAL)
    have HC2 := hide (cell_new' W₂ (.slice x.1 x.2.1 x.2.2) 25).1
    clear hO hB hbt
    gi_wp2_with (gi_at_builtin; refine wpListIn_append_own _ rfl _ _ 31 rfl (w1.heap.size + 2 + D) 25 i0 (.slice none 0 0) 1 24 Try.underlying31 (unhide HI) hz0 hzz1 hz2 rfl (by decide) (.slice vo pre.length vc) pre.length _ rfl (unhide HO2) ⟨W₂.heap.size, 0, none⟩ 1 1 [.slice x.1 x.2.1 x.2.2] rfl (by simp) (one_at9' (unhide HC2)) (by simp [Value.oneCell']) (by unfold maxLen; omega) (by omega) (by simp; omega) ?_)
    intro v' w' ho hg _
    have hO3 : OwnC (w1.heap.size + 2 + D) w' 25 v' (pre.length + 1) (fun i => if i = pre.length then sv9 x else sv9 (pre.getD i dft9)) := by
      unfold OwnC
      rw [← range_put]
      exact ho
    have hO4 : OwnC (w1.heap.size + 2 + D) w' 25 v' (pre ++ [x]).length (fun i => sv9 ((pre ++ [x]).getD i dft9)) := by
      rw [List.length_append]
      refine hO3.congr (fun i hi => ?_)
      by_cases e : i = pre.length
      · rw [if_pos e, e, snoc_eq9]
      · rw [if_neg e, snoc_lt9 (by omega)]
    have hrow : ∀ k, (Value.slice vo pre.length vc).ownBlock = some k → w1.heap.size + 2 + D ≤ k ∧ ∃ cur, (W₂.alloc (.cells #[.slice x.1 x.2.1 x.2.2] 25)).heap[k]? = some (.cells cur 25 (0, 0)) := fun k e => (unhide HO2).ownBlock e
    have hbx : w'.heap[w.heap.size]? = W₂.heap[w.heap.size]? := (hg.block w.heap.size (by simp; omega) (fun e => by have := (hrow _ e.symm).1; omega)).trans ((unhide HAL).block _ (by omega))
    have hc' := (World.cell?_of_block (a := ⟨w.heap.size, 0, none⟩) hbx).trans hc
    have hf' := (World.frozen?_of_block (a := ⟨w.heap.size, 0, none⟩) hbx).trans hf
    have hbt' : ∃ cur, w'.heap[w.heap.size]? = some (.cells cur 31 (0, 0)) := by rw [hbx]; exact unhide HBT2
    have HO4 := hide hO4
    have hzs := hg.size
    rw [World.size_alloc] at hzs
    have HKY : Hid (Kt (KpI w.heap.size) w1.heap.size (w1.heap.size + 2 + D) W₂ w') := (Kt.of_below (unhide HAL)).trans (Kt.grown hg (fun k e h => by
      obtain ⟨h1, cur, h2⟩ := hrow k e
      rcases h with h | h | ⟨cur2, h⟩
      · omega
      · omega
      · rw [h2] at h; cases h))
    have HBW : Hid (Below w.heap.size w w') := ((unhide HB).trans ((unhide HAL).mono (by omega))).trans ⟨hg.os, hg.tape, hg.output, hg.size, fun k hk => hg.block k (by simp; omega) (fun e => by have := (hrow k e.symm).1; omega)⟩
    have HBT4 := hide hbt'
    obtain ⟨uo, uc, hv'⟩ := hO4.shape
    subst hv'
    clear hO3 hO4 hrow hbx ho hg hc hf hbt'
    gi_wp2
    obtain ⟨cur, hcur⟩ := unhide HBT4
    refine ⟨(unhide HKY).trans (Kt.set _ _ (by
      dsimp only
      rw [hcur]
      rintro (h | h | ⟨cur2, h⟩)
      · omega
      · omega
      · cases h)), _, ⟨World.cell?_setCell_same' _ _ _ (by rw [hc']; rfl), by rw [World.frozen?_setCell]; exact hf'⟩, ⟨_, heap_setCell_same _ _ _ _ _ _ hcur⟩, ?_, (unhide HBW).setCell (p := ⟨w.heap.size, 0, none⟩) (Nat.le_refl _) _, by simp [World.setCell]; omega⟩
    have h := (unhide HO4).keep (w' := w'.setCell ⟨w.heap.size, 0, none⟩ (.slice uo (pre.length + 1) uc)) (fun g cur h1 _ => Below.heap_setCell _ _ _ _ (by dsimp only; omega))
    rw [show (pre ++ [x]).length = pre.length + 1 from by simp] at h ⊢
    exact h

set_option maxHeartbeats 1000000 in
theorem collect9_any (gf : Nat) (lb : Array Value) (D N : Nat) (R : Nat → List Nat) (hN : N ≤ 1000) (w : World) (hen : ∀ args W, (callFunc gf args).run Try.prog W = .ok (.enter gf args) W)
    (hseq : SeqT Try.prog gf lb (fun x : Sl9 => #[.slice x.1 x.2.1 x.2.2]) (KpI w.heap.size) D (Rks9 N R) N w) :
    Calls Try.prog 22 #[.func (.func gf) #[] lb] w fun e w' => ∃ v, e = .returned v ∧ OwnRI w.heap.size w' v ((List.range N).map R) ∧ Below w.heap.size w w' := by
  go_enter Try.func22, Try.ntmps22
  go_wp2_with fail
  refine (appendSeq9_any gf lb D N R hN w hen hseq).mono ?_
  rintro e w' ⟨v, rfl, h2, h3⟩
  have HO := hide h2
  have HB := hide h3
  clear h2 h3
  go_wp2
  go_ret
  exact ⟨v, rfl, unhide HO, unhide HB⟩

end Go.Proofs.Ytnhhemecfcljbaa
