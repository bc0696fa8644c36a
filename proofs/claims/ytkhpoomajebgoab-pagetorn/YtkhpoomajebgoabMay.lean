/-
  page.joined: of two pieces, what is made of each, one behind the other.
  page.encoded, mended; Encode.
  page.Decode.
-/
import Derived.Test.YtkhpoomajebgoabMax
import Derived.RangeFuncBox
import Derived.OwnWalkIn
import Derived.Test.YtkhpoomajebgoabMao
import Derived.Test.YtkhpoomajebgoabMar
import Derived.Test.YtkhpoomajebgoabMav
import Derived.Test.YtkhpoomajebgoabMai
import Derived.Test.YtkhpoomajebgoabMah
namespace Go.Proofs.Ytkhpoomajebgoab
open Go.RowKit Go.Shelf
attribute [local go_sem] Oper.semAt_some

theorem boxed_own {β : Type} (B : Nat) (t : TypeId) (u : Value) : Own (fun (_ : β) W => Boxed W B t u) := fun _ X _ _ h hg hr => h.kept hg (fun e => by
  obtain ⟨o, ho, hc⟩ := hr B e.symm
  rw [show X.heap[B]? = _ from h] at ho
  cases ho
  cases hc)
theorem Arg.piece {w : World} {g o n c k m : Nat} {s : List Nat} (h : Arg w (.slice (some ⟨g, o, none⟩) n c) g s) (hk : k + m ≤ n) : Arg w (.slice (some ⟨g, o + k, none⟩) m m) g ((s.drop k).take m) := by
  obtain ⟨⟨ao, c', h1, h2, h3, h4, h5⟩, hb⟩ := h
  cases h1
  have hl : ((s.drop k).take m).length = m := by rw [List.length_take, List.length_drop]; omega
  refine ⟨⟨some ⟨g, o + k, none⟩, m, by rw [hl], by omega, by omega, (fun h => by cases h), row_sub (s := s) (k := k) (fun j hj => ?_) h5⟩, fun i => ?_⟩
  · rw [hl] at hj
    refine ⟨by omega, ?_⟩
    rw [← cf_getD, ← cf_getD, List.getD_eq_getElem?_getD, List.getD_eq_getElem?_getD, List.getElem?_take, if_pos hj, List.getElem?_drop]
  · rw [← cf_getD, List.getD_eq_getElem?_getD, List.getElem?_take]
    split
    · rw [List.getElem?_drop, ← List.getD_eq_getElem?_getD, cf_getD]; exact hb _
    · simp
theorem results_cells2 {P : Program} {fn : Func} {p q : Tmp} {t u : TypeId} (h : fn.results = #[.cell p t, .cell q u]) (tmps : Array Value) (w : World) (a b : Addr) (x y : Value) (hp : tmps.getD p undef = .pointer (some a)) (hq : tmps.getD q undef = .pointer (some b)) (hx : (loadVar t a).run P w = .ok x w) (hy : (loadVar u b).run P w = .ok y w) :
    (results fn tmps).run P w = .ok (.tuple #[x, y]) w := by
  rw [Array.getD_eq_getD_getElem?] at hp hq
  simp only [results, h]
  simp [Result.andThen, hp, hq, asAddr, hx, hy]
theorem load_sl (w : World) (ad : Addr) (x : Value) (hc : w.cell? ad = some x) : (loadVar 22 ad).run Try.prog w = .ok x w := by
  have hu := Try.underlying22
  simp [loadVar, isAgg, run_underlying hu, run_load, hc]
theorem load_bl (w : World) (ad : Addr) (x : Value) (hc : w.cell? ad = some x) : (loadVar 4 ad).run Try.prog w = .ok x w := by
  have hu := Try.underlying4
  simp [loadVar, isAgg, run_underlying hu, run_load, hc]

theorem owns_below {w w' : World} {base n size : Nat} {e : TypeId} {v : Value} {xs : List Value} (h : w.ownsRow base e size v n xs) (k : Below w.heap.size w w') : w'.ownsRow base e size v n xs :=
  h.kept (row := none) ⟨k.os, k.tape, k.output, k.size, fun j hj _ => k.block j hj⟩ (Classical.em _)
theorem Boxed.below {w w' : World} {B : Nat} {t : TypeId} {v : Value} (h : Boxed w B t v) (k : Below w.heap.size w w') : Boxed w' B t v := (k.block _ h.lt).trans h
theorem Boxed.app {W w1 : World} {n₀ B : Nat} {t e : TypeId} {v v' : Value} {k m : Nat} {xs ys : List Value}
    (hv : Boxed W B t v) (hte : t ≠ e) (hrow : W.ownsRow n₀ e 1 v k xs) (hn₀ : n₀ ≤ W.heap.size) (hown' : w1.ownsRow n₀ e 1 v' m ys) (hgrow : W.grownBy w1 v.ownBlock) :
    Boxed w1 B t v ∧ Boxed (w1.setCell ⟨B, 0, none⟩ v') B t v' ∧ (w1.setCell ⟨B, 0, none⟩ v').ownsRow n₀ e 1 v' m ys ∧ KeepsOthers W (w1.setCell ⟨B, 0, none⟩ v') ∧ W.heap.size ≤ (w1.setCell ⟨B, 0, none⟩ v').heap.size ∧
      (∀ k, k < n₀ → k ≠ B → (w1.setCell ⟨B, 0, none⟩ v').heap[k]? = W.heap[k]?) ∧ (∀ b, b ≤ n₀ → b ≤ B → Below b W (w1.setCell ⟨B, 0, none⟩ v')) := by
  have hv1 : Boxed w1 B t v := hv.kept hgrow (hv.not_row hte hrow)
  have hblk : ∀ k, k < n₀ → k ≠ B → (w1.setCell ⟨B, 0, none⟩ v').heap[k]? = W.heap[k]? := fun k hk hB => by
    refine (Below.heap_setCell _ _ _ _ (by simpa using hB)).trans (hgrow.block k (by omega) (fun e => ?_))
    have := (hrow.lt k e.symm).1
    omega
  refine ⟨hv1, hv1.set v', hown'.kept (grownBy_setCell' w1 B v') (.inr (hv1.not_row hte hown').symm), ?_, ?_, hblk, fun b hb hbB => ⟨hgrow.os, hgrow.tape, hgrow.output, ?_, fun k hk => hblk k (by omega) (by omega)⟩⟩
  · refine (KeepsOthers.of_grownBy hgrow fun j o ej hj => ?_).trans (KeepsOthers.setCell _ _ _)
    rcases hrow.2 with ⟨rfl, _⟩ | ⟨g, cap, cur, rfl, _, hgb, _⟩
    · simp [Value.ownBlock] at ej
    · obtain rfl : g = j := by simpa [Value.ownBlock] using ej
      rw [hgb] at hj; cases hj; rfl
  · simpa [World.setCell] using hgrow.size
  · simpa [World.setCell] using hgrow.size
theorem acc_le {out : Fin 2 → List Nat} {m : Nat} (h : ∀ x, (out x).length ≤ m) {pre : List (Fin 2)} {n : Nat} (hn : pre.length * m ≤ n) : (pre.flatMap out).length ≤ n := by
  refine Nat.le_trans ?_ hn
  clear hn
  induction pre with
  | nil => simp
  | cons x l ih =>
    rw [List.flatMap_cons, List.length_append, List.length_cons, Nat.add_mul]
    have := h x
    omega
theorem two_of {ys : List (Fin 2)} (h : ys.map Fin.val = [0, 1]) : ys = [0, 1] := by
  have hl : ys.length = 2 := by have := congrArg List.length h; simpa using this
  match ys, hl with
  | [a, b], _ =>
    simp at h
    simp [Fin.ext_iff, h]

set_option maxRecDepth 100000 in
set_option maxHeartbeats 8000000 in
theorem joined_enc (g o c : Nat) (s : List Nat) (hs : s.length = 48) (w : World) (hA : Arg w (.slice (some ⟨g, o, none⟩) 48 c) g s) (Pm : Fin 2 → Prop) (out : Fin 2 → List Nat) (hout : ∀ x, (out x).length = 28)
    (hmade : ∀ (x : Fin 2) (W : World), Arg W (.slice (some ⟨g, o + 24 * x.val, none⟩) 24 24) g ((s.drop (24 * x.val)).take 24) → Calls Try.prog 18 #[.slice (some ⟨g, o + 24 * x.val, none⟩) 24 24] W fun e W' => Below W.heap.size W W' ∧
      ((Pm x ∧ ∃ v q, e = .returned (.tuple #[v, .bool true]) ∧ Arg W' v q (out x)) ∨ (¬ Pm x ∧ e = .returned (.tuple #[.slice none 0 0, .bool false])))) :
    Calls Try.prog 14 #[.slice (some ⟨g, o, none⟩) 48 c, .int .i64 24, .func (.func 18) #[] #[]] w fun e W' => Below w.heap.size w W' ∧
      (((∀ x, Pm x) ∧ ∃ v, e = .returned (.tuple #[v, .bool true]) ∧ Fr w.heap.size W' v (out 0 ++ out 1)) ∨ ((∃ x, ¬ Pm x) ∧ e = .returned (.tuple #[.slice none 0 0, .bool false]))) := by
  have HA := hide hA
  have HMADE := hide hmade
  have HOUT := hide hout
  obtain ⟨⟨ao0, c0, hao, hc1, hcm, _, _⟩, hbs⟩ := hA
  rw [hs] at hao hc1
  cases hao
  clear hmade hout
  obtain ⟨i0, hi0, hz0, hzz1, hz2⟩ := info_parts infoE
  have HI0 := hide hi0
  clear hi0
  refine (callsIn_wide (n := 3)).1 ?_
  refine callsIn_of_wp_marks Try.func14 rfl trivial ?_ rfl
  simp only [Try.ntmps14, List.size_toArray, List.length_cons, List.length_nil, Nat.reduceAdd, Nat.reduceSub, Array.replicate_succ, Array.replicate_zero, List.push_toArray, List.append_toArray, List.nil_append, List.cons_append]
  gi_wp2
  obtain ⟨w1, hw1⟩ : ∃ w1, ((((w.alloc (.cells #[.func (.func 18) #[] #[]] 35)).alloc (.cells #[.slice none 0 0] 22)).alloc (.cells #[.bool false] 4)).alloc (.cells #[.slice none 0 0] 22)) = w1 := ⟨_, rfl⟩
  have b0 : Boxed w1 w.heap.size 35 (.func (.func 18) #[] #[]) := by rw [← hw1]; exact (((Boxed.new _ _ _).alloc _).alloc _).alloc _
  have b1 : Boxed w1 (w.heap.size + 1) 22 (.slice none 0 0) := by
    rw [← hw1]
    have h := ((Boxed.new (w.alloc (.cells #[.func (.func 18) #[] #[]] 35)) 22 (.slice none 0 0)).alloc (.cells #[.bool false] 4)).alloc (.cells #[.slice none 0 0] 22)
    rwa [World.size_alloc] at h
  have b2 : Boxed w1 (w.heap.size + 1 + 1) 4 (.bool false) := by
    rw [← hw1]
    have h := (Boxed.new ((w.alloc (.cells #[.func (.func 18) #[] #[]] 35)).alloc (.cells #[.slice none 0 0] 22)) 4 (.bool false)).alloc (.cells #[.slice none 0 0] 22)
    rwa [World.size_alloc, World.size_alloc] at h
  have b3 : Boxed w1 (w.heap.size + 1 + 1 + 1) 22 (.slice none 0 0) := by
    rw [← hw1]
    have h := Boxed.new (((w.alloc (.cells #[.func (.func 18) #[] #[]] 35)).alloc (.cells #[.slice none 0 0] 22)).alloc (.cells #[.bool false] 4)) 22 (.slice none 0 0)
    rwa [World.size_alloc, World.size_alloc, World.size_alloc] at h
  have hB1 : Below w.heap.size w w1 := by rw [← hw1]; exact ((((Below.refl _ w).alloc (Nat.le_refl _) _).alloc (by simp) _).alloc (by simp; omega) _).alloc (by simp; omega) _
  have hz1 : w1.heap.size = w.heap.size + 4 := by rw [← hw1]; simp
  rw [hw1]
  clear hw1
  refine ⟨trivial, (callsIn_wide.2 (chunk_any _ 24 (by omega) _ ⟨_, _, _, rfl⟩)).mono ?_⟩
  rintro e w2 ⟨rfl, k1, k2, hz2', hk2⟩
  have hz2 : w2.heap.size = w.heap.size + 6 := by omega
  have hw2 : Below w.heap.size w w2 := hB1.trans (hk2.mono (by omega))
  have B0 : Hid (Boxed w2 w.heap.size 35 (.func (.func 18) #[] #[])) := (hk2.block _ b0.lt).trans b0
  have B1 : Hid (Boxed w2 (w.heap.size + 1) 22 (.slice none 0 0)) := (hk2.block _ b1.lt).trans b1
  have B2 : Hid (Boxed w2 (w.heap.size + 1 + 1) 4 (.bool false)) := (hk2.block _ b2.lt).trans b2
  have B3 : Hid (Boxed w2 (w.heap.size + 1 + 1 + 1) 22 (.slice none 0 0)) := (hk2.block _ b3.lt).trans b3
  have HA2 := hide ((unhide HA).below hw2)
  have K1 := hide k1
  have K2 := hide k2
  have HW2 := hide hw2
  have HZ2 := hide hz2
  have HZ1 := hide hz1
  have hz2le : w.heap.size + 6 ≤ w2.heap.size := by omega
  clear b0 b1 b2 b3 hB1 hk2 k1 k2 hz2' hw2 hz1 hz2
  gi_wp2
  refine wpIn_rangeFunc_ownF rfl (by omega) (gf := 34) (lb := #[.pointer (some ⟨w1.heap.size, 0, none⟩), .pointer (some ⟨w1.heap.size + 1, 0, none⟩)]) rfl trivial (enters_of Try.func34 (by kernel_rfl) rfl)
    (chunk_stops [w.heap.size + 1 + 1 + 1] 2 w1.heap.size w2.heap.size 24 (by omega) g o c (by omega) hcm w2 (unhide K1) (unhide K2) (by rw [unhide HZ1]; omega) (by rw [unhide HZ1]; simp) (by rw [unhide HZ1]; simp))
    (fun h k => h.trans k) (kq_b (Nat.le_refl _)) (Below.refl _ _) (fun _ => rfl)
    (fun pre W => (∃ v, Boxed W (w.heap.size + 1 + 1 + 1) 22 v ∧ W.ownsRow (w.heap.size + 6) 5 1 v (pre.flatMap out).length ((ints (pre.flatMap out)).map (Value.int .u8)) ∧ True) ∧ ((Boxed W w.heap.size 35 (.func (.func 18) #[] #[]) ∧ Boxed W (w.heap.size + 1) 22 (.slice none 0 0) ∧ Boxed W (w.heap.size + 1 + 1) 4 (.bool false)) ∧ (∀ x ∈ pre, Pm x) ∧ w.heap.size + 6 ≤ W.heap.size) ∧ Below w.heap.size w W)
    (fun c pre W => (c = .ret ∧ (∃ x, ¬ Pm x) ∧ Boxed W (w.heap.size + 1) 22 (.slice none 0 0) ∧ Boxed W (w.heap.size + 1 + 1) 4 (.bool false)) ∧ Below w.heap.size w W)
    (OwnFrom.and (Own.from (holdsRow_own _ _ _ _ _ (fun (pre : List (Fin 2)) => (pre.flatMap out).length) (fun (pre : List (Fin 2)) => (ints (pre.flatMap out)).map (Value.int .u8)) (fun _ _ => True)) _) (OwnFrom.and (Own.from (fun s A B row hs hg hr => ⟨⟨boxed_own _ _ _ s A B row hs.1.1 hg hr, boxed_own _ _ _ s A B row hs.1.2.1 hg hr, boxed_own _ _ _ s A B row hs.1.2.2 hg hr⟩, hs.2.1, Nat.le_trans hs.2.2 hg.size⟩) _) (ownFrom_below (Nat.le_refl _) (by omega))))
    (fun c => OwnFrom.and (Own.from (fun s A B row hs hg hr => ⟨hs.1, hs.2.1, boxed_own _ _ _ s A B row hs.2.2.1 hg hr, boxed_own _ _ _ s A B row hs.2.2.2 hg hr⟩) _) (ownFrom_below (Nat.le_refl _) (by omega)))
    ⟨⟨_, unhide B3, World.ownsRow_nil _ _ _ _, trivial⟩, ⟨⟨unhide B0, unhide B1, unhide B2⟩, by simp, hz2le⟩, unhide HW2⟩
    (fun x => { tmps := #[.slice (some ⟨g, o, none⟩) 48 c, .int .i64 24, .func (.func 18) #[] #[], undef, undef, .pointer (some ⟨w.heap.size, 0, none⟩), .pointer (some ⟨w.heap.size + 1, 0, none⟩), .pointer (some ⟨w.heap.size + 1 + 1, 0, none⟩), .pointer (some ⟨w.heap.size + 1 + 1 + 1, 0, none⟩), .slice (some ⟨g, o + 24 * x.val, none⟩) 24 24, undef, undef, .slice (some ⟨g, o, none⟩) 48 c, .int .i64 24, .func (.func 34) #[] #[.pointer (some ⟨w1.heap.size, 0, none⟩), .pointer (some ⟨w1.heap.size + 1, 0, none⟩)], .slice (some ⟨g, o + 24 * x.val, none⟩) 24 24, undef, undef, undef, undef, undef, undef, undef, undef, undef, undef, undef, undef], defers := [] }) ?assign ?body ?done ?stop
  case assign =>
    intro l x W K hK
    gi_wp2
    exact hK
  case body =>
    rintro l pre x W ⟨⟨v, hbx, hrow, -⟩, ⟨⟨hb0, hb1, hb2⟩, hpm, hwz⟩, hB⟩ hlt
    have hx := x.isLt
    have HP := hide (((unhide HA).below hB).piece (k := 24 * x.val) (m := 24) (by omega))
    have HM := hide ((unhide HMADE) x W (unhide HP))
    have hc0 := hb0.cell
    have HBX := hide hbx
    have HROW := hide hrow
    have HB0 := hide hb0
    have HB1 := hide hb1
    have HB2 := hide hb2
    have HB := hide hB
    have HPM := hide hpm
    obtain ⟨po, hpo⟩ : ∃ po, o + 24 * x.val = po := ⟨_, rfl⟩
    rw [hpo] at HM
    rw [hpo]
    obtain ⟨k0, hk0⟩ : ∃ k0, (pre.flatMap out).length = k0 := ⟨_, rfl⟩
    have hk1000 : k0 ≤ 100 := by rw [← hk0]; exact acc_le (m := 28) (fun x => by rw [unhide HOUT x]; omega) (by omega)
    have HK0 := hide hk0
    rw [hk0] at HROW
    clear hk0
    clear hbx hrow hb0 hb1 hb2 hB hpm HP hpo
    gi_wp2
    refine ⟨trivial, (CallsIn.inRound l (callsIn_wide.2 (unhide HM))).mono ?_⟩
    rintro e W3 ⟨hk, (⟨hp, v3, q, rfl, hA3⟩ | ⟨hnp, rfl⟩)⟩
    · obtain ⟨ao3, c3, hv3, h31, h32, h33, h34⟩ := hA3.ex
      have hol := unhide HOUT x
      subst hv3
      have HA3 := hide hA3
      rw [hol] at HA3 h31 ⊢
      obtain ⟨o3, rfl⟩ := row_some h34 (by omega)
      have HC3 : Hid (∀ j u, ((ints (out x)).map (Value.int .u8))[j]? = some u → W3.cell? ((⟨q, o3, none⟩ : Addr).add j) = some u) := by
        intro j u hu
        obtain ⟨hj, hu⟩ := List.getElem?_eq_some_iff.1 hu
        simp only [List.length_map, ints_len] at hj
        rw [Addr.add_lit, row_cell h34 hj, ← hu, List.getElem_map, ← ints_getD, List.getD_eq_getElem?_getD, List.getElem?_eq_getElem (by rw [ints_len]; exact hj)]
        rfl
      have HBX3 := hide (Boxed.below (unhide HBX) hk)
      have HROW3 := hide (owns_below (unhide HROW) hk)
      have hc3 := Boxed.cell (unhide HBX3)
      have HK := hide hk
      have hzk := hk.size
      have HPX := hide hp
      have HOL : Hid (((ints (out x)).map (Value.int .u8)).length = 28 * 1) := by show _ = _; rw [List.length_map, ints_len, hol]
      clear hk hA3 hp h34 h33 h31 h32 hol hc0
      gi_wp2_with (gi_at_builtin; refine wpListIn_append_own _ rfl _ _ 22 rfl (w.heap.size + 6) 5 i0 (.int .u8 0) 1 1 Try.underlying22 (unhide HI0) hz0 hzz1 hz2 rfl (by decide) v k0 _ rfl (unhide HROW3) ⟨q, o3, none⟩ 28 c3 ((ints (out x)).map (Value.int .u8)) rfl (unhide HOL) (unhide HC3) (ints_oneCell .u8 _) (by unfold maxLen; omega) (by omega) (by omega) ?_)
      intro v' w' ho hg _
      obtain ⟨ha1, ha2, ha3, ha4, ha5, ha6, ha7⟩ := Boxed.app (unhide HBX3) (by decide : 22 ≠ 5) (unhide HROW3) (by omega) ho hg
      obtain ⟨gn, capn, rfl⟩ := ownsRow_succ (k := k0 + 27) ho
      have hcc := ha1.cell
      have hff := ha1.frozen
      have H2 := hide ha2
      have H3 := hide ha3
      have H4 := hide ha4
      have H5 := hide ha5
      have H6 := hide ha6
      have H7 := hide ha7
      clear ho hg ha1 ha2 ha3 ha4 ha5 ha6 ha7 hc3
      gi_wp2
      have hlen : ((pre ++ [x]).flatMap out).length = k0 + 28 := by rw [List.flatMap_append, List.length_append, unhide HK0, List.flatMap_singleton, unhide HOUT x]
      refine ⟨(kept_of_below (unhide HK)).trans (unhide H4), ⟨Nat.le_trans hzk (unhide H5), fun k hk1 hk2 => ?_⟩, ⟨_, unhide H2, ?_, trivial⟩, ⟨⟨?_, ?_, ?_⟩, ?_, by have := unhide H5; omega⟩, (unhide HB).trans (((unhide HK).mono (by omega)).trans ((unhide H7) w.heap.size (by omega) (by omega)))⟩
      · rw [unhide HZ2] at hk1
        exact ((unhide H6) k hk1 (by simpa using hk2)).trans ((unhide HK).block k (by omega))
      · rw [hlen, List.flatMap_append, List.flatMap_singleton]
        have h := unhide H3
        rwa [← List.map_append, show ints (pre.flatMap out) ++ ints (out x) = ints (pre.flatMap out ++ out x) from by simp [ints]] at h
      · exact ((unhide H6) _ (by omega) (by omega)).trans (Boxed.below (unhide HB0) (unhide HK))
      · exact ((unhide H6) _ (by omega) (by omega)).trans (Boxed.below (unhide HB1) (unhide HK))
      · exact ((unhide H6) _ (by omega) (by omega)).trans (Boxed.below (unhide HB2) (unhide HK))
      · intro y hy
        rcases List.mem_append.1 hy with h | h
        · exact unhide HPM y h
        · rw [List.mem_singleton.1 h]; exact unhide HPX
    · have HK := hide hk
      have b1 := Boxed.below (unhide HB1) hk
      have b2 := Boxed.below (unhide HB2) hk
      have hc1' := b1.cell
      have hf1' := b1.frozen
      have hc2' := b2.cell
      have hf2' := b2.frozen
      have HX1 : Hid (Boxed ((W3.setCell ⟨w.heap.size + 1, 0, none⟩ (.slice none 0 0)).setCell ⟨w.heap.size + 1 + 1, 0, none⟩ (.bool false)) (w.heap.size + 1) 22 (.slice none 0 0)) := (b1.set _).kept (grownBy_setCell' _ _ _) (by simp)
      have HX2 : Hid (Boxed ((W3.setCell ⟨w.heap.size + 1, 0, none⟩ (.slice none 0 0)).setCell ⟨w.heap.size + 1 + 1, 0, none⟩ (.bool false)) (w.heap.size + 1 + 1) 4 (.bool false)) := Boxed.set (.bool false) (b2.kept (grownBy_setCell' W3 (w.heap.size + 1) (.slice none 0 0)) (by simp))
      have HNP := hide hnp
      clear hk b1 b2 hnp hc0
      gi_wp2
      refine ⟨(kept_of_below (unhide HK)).trans ((KeepsOthers.setCell _ _ _).trans (KeepsOthers.setCell _ _ _)), ⟨rfl, ⟨x, unhide HNP⟩, unhide HX1, unhide HX2⟩, ?_⟩
      exact (((unhide HB).trans ((unhide HK).mono (unhide HB).size)).setCell (p := ⟨w.heap.size + 1, 0, none⟩) (by simp) _).setCell (p := ⟨w.heap.size + 1 + 1, 0, none⟩) (by simp; omega) _
  case done =>
    rintro D ys W hD hys ⟨⟨v, hbx, hrow, -⟩, ⟨⟨hb0, hb1, hb2⟩, hpm, hwz⟩, hB⟩ hK
    have hc3 := hbx.cell
    have hc1' := hb1.cell
    have hf1' := hb1.frozen
    have hc2' := hb2.cell
    have hf2' := hb2.frozen
    obtain rfl := two_of hys
    have hfm : List.flatMap out [0, 1] = out 0 ++ out 1 := by simp
    have hyl : (out 0 ++ out 1).length = 56 := by rw [List.length_append, unhide HOUT, unhide HOUT]
    rw [hfm, hyl] at hrow
    obtain ⟨gn, capn, rfl⟩ := ownsRow_succ (k := 56 - 1) hrow
    have HROW := hide hrow
    gi_wp2
    have hKD : ((W.setCell ⟨w.heap.size + 1, 0, none⟩ (.slice (some ⟨gn, 0, none⟩) 56 capn)).setCell ⟨w.heap.size + 1 + 1, 0, none⟩ (.bool true)).heap[D]? = some (.deferred (some [])) := ((KeepsOthers.setCell _ _ _).trans (KeepsOthers.setCell _ _ _)).same D _ hK rfl
    refine ⟨by simp, .inl ⟨_, _, rfl, run_takeDeferred hKD, ?_⟩⟩
    have hzD : w.heap.size + 6 ≤ D := by omega
    have b1 : Boxed (((W.setCell ⟨w.heap.size + 1, 0, none⟩ (.slice (some ⟨gn, 0, none⟩) 56 capn)).setCell ⟨w.heap.size + 1 + 1, 0, none⟩ (.bool true)).putObj D (.deferred none)) (w.heap.size + 1) 22 (.slice (some ⟨gn, 0, none⟩) 56 capn) := ((hb1.set _).kept (grownBy_setCell' _ _ _) (by simp)).kept (grownBy_putObj' _ D (.deferred none)) (by simp; omega)
    have b2 : Boxed (((W.setCell ⟨w.heap.size + 1, 0, none⟩ (.slice (some ⟨gn, 0, none⟩) 56 capn)).setCell ⟨w.heap.size + 1 + 1, 0, none⟩ (.bool true)).putObj D (.deferred none)) (w.heap.size + 1 + 1) 4 (.bool true) := (Boxed.set (.bool true) (hb2.kept (grownBy_setCell' W (w.heap.size + 1) (.slice (some ⟨gn, 0, none⟩) 56 capn)) (by simp))).kept (grownBy_putObj' _ D (.deferred none)) (by simp; omega)
    have hr2 := ownsRow_putObj (ownsRow_setCell_below (ownsRow_setCell_below (unhide HROW) (a := ⟨w.heap.size + 1, 0, none⟩) (by simp) (.slice (some ⟨gn, 0, none⟩) 56 capn)) (a := ⟨w.heap.size + 1 + 1, 0, none⟩) (by simp) (.bool true)) (.deferred none) hKD rfl
    refine ⟨_, results_cells2 rfl _ _ ⟨w.heap.size + 1, 0, none⟩ ⟨w.heap.size + 1 + 1, 0, none⟩ _ _ rfl rfl (load_sl _ _ _ b1.cell) (load_bl _ _ _ b2.cell), ((hB.setCell (p := ⟨w.heap.size + 1, 0, none⟩) (by simp) _).setCell (p := ⟨w.heap.size + 1 + 1, 0, none⟩) (by simp; omega) _).trans (below_put _ _ (by omega)), .inl ⟨fun x => hpm x (by have := x.isLt; match x with | ⟨0, _⟩ => simp | ⟨1, _⟩ => simp), _, rfl, (owns_fr hr2).2.below (Below.refl _ _) (by omega)⟩⟩
  case stop =>
    rintro D c pre W hD hpre ⟨⟨rfl, hnp, hb1, hb2⟩, hB⟩ hK
    gi_wp2
    refine ⟨by simp, .inl ⟨_, _, rfl, run_takeDeferred hK, ?_⟩⟩
    have b1 := hb1.kept (grownBy_putObj' _ D (.deferred none)) (fun e => by cases e; rw [show W.heap[w.heap.size + 1]? = _ from hb1] at hK; cases hK)
    have b2 := hb2.kept (grownBy_putObj' _ D (.deferred none)) (fun e => by cases e; rw [show W.heap[w.heap.size + 1 + 1]? = _ from hb2] at hK; cases hK)
    exact ⟨_, results_cells2 rfl _ _ ⟨w.heap.size + 1, 0, none⟩ ⟨w.heap.size + 1 + 1, 0, none⟩ _ _ rfl rfl (load_sl _ _ _ b1.cell) (load_bl _ _ _ b2.cell), hB.trans (belowK_b (w := w) (Nat.le_refl _) W D _ _ (by omega) hK rfl rfl), .inr ⟨hnp, rfl⟩⟩

set_option maxRecDepth 100000 in
set_option maxHeartbeats 8000000 in
theorem joined_mnd (g o c : Nat) (s : List Nat) (hs : s.length = 56) (w : World) (hA : Arg w (.slice (some ⟨g, o, none⟩) 56 c) g s) (Pm : Fin 2 → Prop) (out : Fin 2 → List Nat) (hout : ∀ x, (out x).length = 24)
    (hmade : ∀ (x : Fin 2) (W : World), Arg W (.slice (some ⟨g, o + 28 * x.val, none⟩) 28 28) g ((s.drop (28 * x.val)).take 28) → Calls Try.prog 15 #[.slice (some ⟨g, o + 28 * x.val, none⟩) 28 28] W fun e W' => Below W.heap.size W W' ∧
      ((Pm x ∧ ∃ v q, e = .returned (.tuple #[v, .bool true]) ∧ Arg W' v q (out x)) ∨ (¬ Pm x ∧ e = .returned (.tuple #[.slice none 0 0, .bool false])))) :
    Calls Try.prog 14 #[.slice (some ⟨g, o, none⟩) 56 c, .int .i64 28, .func (.func 15) #[] #[]] w fun e W' => Below w.heap.size w W' ∧
      (((∀ x, Pm x) ∧ ∃ v, e = .returned (.tuple #[v, .bool true]) ∧ Fr w.heap.size W' v (out 0 ++ out 1)) ∨ ((∃ x, ¬ Pm x) ∧ e = .returned (.tuple #[.slice none 0 0, .bool false]))) := by
  have HA := hide hA
  have HMADE := hide hmade
  have HOUT := hide hout
  obtain ⟨⟨ao0, c0, hao, hc1, hcm, _, _⟩, hbs⟩ := hA
  rw [hs] at hao hc1
  cases hao
  clear hmade hout
  obtain ⟨i0, hi0, hz0, hzz1, hz2⟩ := info_parts infoE
  have HI0 := hide hi0
  clear hi0
  refine (callsIn_wide (n := 3)).1 ?_
  refine callsIn_of_wp_marks Try.func14 rfl trivial ?_ rfl
  simp only [Try.ntmps14, List.size_toArray, List.length_cons, List.length_nil, Nat.reduceAdd, Nat.reduceSub, Array.replicate_succ, Array.replicate_zero, List.push_toArray, List.append_toArray, List.nil_append, List.cons_append]
  gi_wp2
  obtain ⟨w1, hw1⟩ : ∃ w1, ((((w.alloc (.cells #[.func (.func 15) #[] #[]] 35)).alloc (.cells #[.slice none 0 0] 22)).alloc (.cells #[.bool false] 4)).alloc (.cells #[.slice none 0 0] 22)) = w1 := ⟨_, rfl⟩
  have b0 : Boxed w1 w.heap.size 35 (.func (.func 15) #[] #[]) := by rw [← hw1]; exact (((Boxed.new _ _ _).alloc _).alloc _).alloc _
  have b1 : Boxed w1 (w.heap.size + 1) 22 (.slice none 0 0) := by
    rw [← hw1]
    have h := ((Boxed.new (w.alloc (.cells #[.func (.func 15) #[] #[]] 35)) 22 (.slice none 0 0)).alloc (.cells #[.bool false] 4)).alloc (.cells #[.slice none 0 0] 22)
    rwa [World.size_alloc] at h
  have b2 : Boxed w1 (w.heap.size + 1 + 1) 4 (.bool false) := by
    rw [← hw1]
    have h := (Boxed.new ((w.alloc (.cells #[.func (.func 15) #[] #[]] 35)).alloc (.cells #[.slice none 0 0] 22)) 4 (.bool false)).alloc (.cells #[.slice none 0 0] 22)
    rwa [World.size_alloc, World.size_alloc] at h
  have b3 : Boxed w1 (w.heap.size + 1 + 1 + 1) 22 (.slice none 0 0) := by
    rw [← hw1]
    have h := Boxed.new (((w.alloc (.cells #[.func (.func 15) #[] #[]] 35)).alloc (.cells #[.slice none 0 0] 22)).alloc (.cells #[.bool false] 4)) 22 (.slice none 0 0)
    rwa [World.size_alloc, World.size_alloc, World.size_alloc] at h
  have hB1 : Below w.heap.size w w1 := by rw [← hw1]; exact ((((Below.refl _ w).alloc (Nat.le_refl _) _).alloc (by simp) _).alloc (by simp; omega) _).alloc (by simp; omega) _
  have hz1 : w1.heap.size = w.heap.size + 4 := by rw [← hw1]; simp
  rw [hw1]
  clear hw1
  refine ⟨trivial, (callsIn_wide.2 (chunk_any _ 28 (by omega) _ ⟨_, _, _, rfl⟩)).mono ?_⟩
  rintro e w2 ⟨rfl, k1, k2, hz2', hk2⟩
  have hz2 : w2.heap.size = w.heap.size + 6 := by omega
  have hw2 : Below w.heap.size w w2 := hB1.trans (hk2.mono (by omega))
  have B0 : Hid (Boxed w2 w.heap.size 35 (.func (.func 15) #[] #[])) := (hk2.block _ b0.lt).trans b0
  have B1 : Hid (Boxed w2 (w.heap.size + 1) 22 (.slice none 0 0)) := (hk2.block _ b1.lt).trans b1
  have B2 : Hid (Boxed w2 (w.heap.size + 1 + 1) 4 (.bool false)) := (hk2.block _ b2.lt).trans b2
  have B3 : Hid (Boxed w2 (w.heap.size + 1 + 1 + 1) 22 (.slice none 0 0)) := (hk2.block _ b3.lt).trans b3
  have HA2 := hide ((unhide HA).below hw2)
  have K1 := hide k1
  have K2 := hide k2
  have HW2 := hide hw2
  have HZ2 := hide hz2
  have HZ1 := hide hz1
  have hz2le : w.heap.size + 6 ≤ w2.heap.size := by omega
  clear b0 b1 b2 b3 hB1 hk2 k1 k2 hz2' hw2 hz1 hz2
  gi_wp2
  refine wpIn_rangeFunc_ownF rfl (by omega) (gf := 34) (lb := #[.pointer (some ⟨w1.heap.size, 0, none⟩), .pointer (some ⟨w1.heap.size + 1, 0, none⟩)]) rfl trivial (enters_of Try.func34 (by kernel_rfl) rfl)
    (chunk_stops [w.heap.size + 1 + 1 + 1] 2 w1.heap.size w2.heap.size 28 (by omega) g o c (by omega) hcm w2 (unhide K1) (unhide K2) (by rw [unhide HZ1]; omega) (by rw [unhide HZ1]; simp) (by rw [unhide HZ1]; simp))
    (fun h k => h.trans k) (kq_b (Nat.le_refl _)) (Below.refl _ _) (fun _ => rfl)
    (fun pre W => (∃ v, Boxed W (w.heap.size + 1 + 1 + 1) 22 v ∧ W.ownsRow (w.heap.size + 6) 5 1 v (pre.flatMap out).length ((ints (pre.flatMap out)).map (Value.int .u8)) ∧ True) ∧ ((Boxed W w.heap.size 35 (.func (.func 15) #[] #[]) ∧ Boxed W (w.heap.size + 1) 22 (.slice none 0 0) ∧ Boxed W (w.heap.size + 1 + 1) 4 (.bool false)) ∧ (∀ x ∈ pre, Pm x) ∧ w.heap.size + 6 ≤ W.heap.size) ∧ Below w.heap.size w W)
    (fun c pre W => (c = .ret ∧ (∃ x, ¬ Pm x) ∧ Boxed W (w.heap.size + 1) 22 (.slice none 0 0) ∧ Boxed W (w.heap.size + 1 + 1) 4 (.bool false)) ∧ Below w.heap.size w W)
    (OwnFrom.and (Own.from (holdsRow_own _ _ _ _ _ (fun (pre : List (Fin 2)) => (pre.flatMap out).length) (fun (pre : List (Fin 2)) => (ints (pre.flatMap out)).map (Value.int .u8)) (fun _ _ => True)) _) (OwnFrom.and (Own.from (fun s A B row hs hg hr => ⟨⟨boxed_own _ _ _ s A B row hs.1.1 hg hr, boxed_own _ _ _ s A B row hs.1.2.1 hg hr, boxed_own _ _ _ s A B row hs.1.2.2 hg hr⟩, hs.2.1, Nat.le_trans hs.2.2 hg.size⟩) _) (ownFrom_below (Nat.le_refl _) (by omega))))
    (fun c => OwnFrom.and (Own.from (fun s A B row hs hg hr => ⟨hs.1, hs.2.1, boxed_own _ _ _ s A B row hs.2.2.1 hg hr, boxed_own _ _ _ s A B row hs.2.2.2 hg hr⟩) _) (ownFrom_below (Nat.le_refl _) (by omega)))
    ⟨⟨_, unhide B3, World.ownsRow_nil _ _ _ _, trivial⟩, ⟨⟨unhide B0, unhide B1, unhide B2⟩, by simp, hz2le⟩, unhide HW2⟩
    (fun x => { tmps := #[.slice (some ⟨g, o, none⟩) 56 c, .int .i64 28, .func (.func 15) #[] #[], undef, undef, .pointer (some ⟨w.heap.size, 0, none⟩), .pointer (some ⟨w.heap.size + 1, 0, none⟩), .pointer (some ⟨w.heap.size + 1 + 1, 0, none⟩), .pointer (some ⟨w.heap.size + 1 + 1 + 1, 0, none⟩), .slice (some ⟨g, o + 28 * x.val, none⟩) 28 28, undef, undef, .slice (some ⟨g, o, none⟩) 56 c, .int .i64 28, .func (.func 34) #[] #[.pointer (some ⟨w1.heap.size, 0, none⟩), .pointer (some ⟨w1.heap.size + 1, 0, none⟩)], .slice (some ⟨g, o + 28 * x.val, none⟩) 28 28, undef, undef, undef, undef, undef, undef, undef, undef, undef, undef, undef, undef], defers := [] }) ?assign ?body ?done ?stop
  case assign =>
    intro l x W K hK
    gi_wp2
    exact hK
  case body =>
    rintro l pre x W ⟨⟨v, hbx, hrow, -⟩, ⟨⟨hb0, hb1, hb2⟩, hpm, hwz⟩, hB⟩ hlt
    have hx := x.isLt
    have HP := hide (((unhide HA).below hB).piece (k := 28 * x.val) (m := 28) (by omega))
    have HM := hide ((unhide HMADE) x W (unhide HP))
    have hc0 := hb0.cell
    have HBX := hide hbx
    have HROW := hide hrow
    have HB0 := hide hb0
    have HB1 := hide hb1
    have HB2 := hide hb2
    have HB := hide hB
    have HPM := hide hpm
    obtain ⟨po, hpo⟩ : ∃ po, o + 28 * x.val = po := ⟨_, rfl⟩
    rw [hpo] at HM
    rw [hpo]
    obtain ⟨k0, hk0⟩ : ∃ k0, (pre.flatMap out).length = k0 := ⟨_, rfl⟩
    have hk1000 : k0 ≤ 100 := by rw [← hk0]; exact acc_le (m := 24) (fun x => by rw [unhide HOUT x]; omega) (by omega)
    have HK0 := hide hk0
    rw [hk0] at HROW
    clear hk0
    clear hbx hrow hb0 hb1 hb2 hB hpm HP hpo
    gi_wp2
    refine ⟨trivial, (CallsIn.inRound l (callsIn_wide.2 (unhide HM))).mono ?_⟩
    rintro e W3 ⟨hk, (⟨hp, v3, q, rfl, hA3⟩ | ⟨hnp, rfl⟩)⟩
    · obtain ⟨ao3, c3, hv3, h31, h32, h33, h34⟩ := hA3.ex
      have hol := unhide HOUT x
      subst hv3
      have HA3 := hide hA3
      rw [hol] at HA3 h31 ⊢
      obtain ⟨o3, rfl⟩ := row_some h34 (by omega)
      have HC3 : Hid (∀ j u, ((ints (out x)).map (Value.int .u8))[j]? = some u → W3.cell? ((⟨q, o3, none⟩ : Addr).add j) = some u) := by
        intro j u hu
        obtain ⟨hj, hu⟩ := List.getElem?_eq_some_iff.1 hu
        simp only [List.length_map, ints_len] at hj
        rw [Addr.add_lit, row_cell h34 hj, ← hu, List.getElem_map, ← ints_getD, List.getD_eq_getElem?_getD, List.getElem?_eq_getElem (by rw [ints_len]; exact hj)]
        rfl
      have HBX3 := hide (Boxed.below (unhide HBX) hk)
      have HROW3 := hide (owns_below (unhide HROW) hk)
      have hc3 := Boxed.cell (unhide HBX3)
      have HK := hide hk
      have hzk := hk.size
      have HPX := hide hp
      have HOL : Hid (((ints (out x)).map (Value.int .u8)).length = 24 * 1) := by show _ = _; rw [List.length_map, ints_len, hol]
      clear hk hA3 hp h34 h33 h31 h32 hol hc0
      gi_wp2_with (gi_at_builtin; refine wpListIn_append_own _ rfl _ _ 22 rfl (w.heap.size + 6) 5 i0 (.int .u8 0) 1 1 Try.underlying22 (unhide HI0) hz0 hzz1 hz2 rfl (by decide) v k0 _ rfl (unhide HROW3) ⟨q, o3, none⟩ 24 c3 ((ints (out x)).map (Value.int .u8)) rfl (unhide HOL) (unhide HC3) (ints_oneCell .u8 _) (by unfold maxLen; omega) (by omega) (by omega) ?_)
      intro v' w' ho hg _
      obtain ⟨ha1, ha2, ha3, ha4, ha5, ha6, ha7⟩ := Boxed.app (unhide HBX3) (by decide : 22 ≠ 5) (unhide HROW3) (by omega) ho hg
      obtain ⟨gn, capn, rfl⟩ := ownsRow_succ (k := k0 + 23) ho
      have hcc := ha1.cell
      have hff := ha1.frozen
      have H2 := hide ha2
      have H3 := hide ha3
      have H4 := hide ha4
      have H5 := hide ha5
      have H6 := hide ha6
      have H7 := hide ha7
      clear ho hg ha1 ha2 ha3 ha4 ha5 ha6 ha7 hc3
      gi_wp2
      have hlen : ((pre ++ [x]).flatMap out).length = k0 + 24 := by rw [List.flatMap_append, List.length_append, unhide HK0, List.flatMap_singleton, unhide HOUT x]
      refine ⟨(kept_of_below (unhide HK)).trans (unhide H4), ⟨Nat.le_trans hzk (unhide H5), fun k hk1 hk2 => ?_⟩, ⟨_, unhide H2, ?_, trivial⟩, ⟨⟨?_, ?_, ?_⟩, ?_, by have := unhide H5; omega⟩, (unhide HB).trans (((unhide HK).mono (by omega)).trans ((unhide H7) w.heap.size (by omega) (by omega)))⟩
      · rw [unhide HZ2] at hk1
        exact ((unhide H6) k hk1 (by simpa using hk2)).trans ((unhide HK).block k (by omega))
      · rw [hlen, List.flatMap_append, List.flatMap_singleton]
        have h := unhide H3
        rwa [← List.map_append, show ints (pre.flatMap out) ++ ints (out x) = ints (pre.flatMap out ++ out x) from by simp [ints]] at h
      · exact ((unhide H6) _ (by omega) (by omega)).trans (Boxed.below (unhide HB0) (unhide HK))
      · exact ((unhide H6) _ (by omega) (by omega)).trans (Boxed.below (unhide HB1) (unhide HK))
      · exact ((unhide H6) _ (by omega) (by omega)).trans (Boxed.below (unhide HB2) (unhide HK))
      · intro y hy
        rcases List.mem_append.1 hy with h | h
        · exact unhide HPM y h
        · rw [List.mem_singleton.1 h]; exact unhide HPX
    · have HK := hide hk
      have b1 := Boxed.below (unhide HB1) hk
      have b2 := Boxed.below (unhide HB2) hk
      have hc1' := b1.cell
      have hf1' := b1.frozen
      have hc2' := b2.cell
      have hf2' := b2.frozen
      have HX1 : Hid (Boxed ((W3.setCell ⟨w.heap.size + 1, 0, none⟩ (.slice none 0 0)).setCell ⟨w.heap.size + 1 + 1, 0, none⟩ (.bool false)) (w.heap.size + 1) 22 (.slice none 0 0)) := (b1.set _).kept (grownBy_setCell' _ _ _) (by simp)
      have HX2 : Hid (Boxed ((W3.setCell ⟨w.heap.size + 1, 0, none⟩ (.slice none 0 0)).setCell ⟨w.heap.size + 1 + 1, 0, none⟩ (.bool false)) (w.heap.size + 1 + 1) 4 (.bool false)) := Boxed.set (.bool false) (b2.kept (grownBy_setCell' W3 (w.heap.size + 1) (.slice none 0 0)) (by simp))
      have HNP := hide hnp
      clear hk b1 b2 hnp hc0
      gi_wp2
      refine ⟨(kept_of_below (unhide HK)).trans ((KeepsOthers.setCell _ _ _).trans (KeepsOthers.setCell _ _ _)), ⟨rfl, ⟨x, unhide HNP⟩, unhide HX1, unhide HX2⟩, ?_⟩
      exact (((unhide HB).trans ((unhide HK).mono (unhide HB).size)).setCell (p := ⟨w.heap.size + 1, 0, none⟩) (by simp) _).setCell (p := ⟨w.heap.size + 1 + 1, 0, none⟩) (by simp; omega) _
  case done =>
    rintro D ys W hD hys ⟨⟨v, hbx, hrow, -⟩, ⟨⟨hb0, hb1, hb2⟩, hpm, hwz⟩, hB⟩ hK
    have hc3 := hbx.cell
    have hc1' := hb1.cell
    have hf1' := hb1.frozen
    have hc2' := hb2.cell
    have hf2' := hb2.frozen
    obtain rfl := two_of hys
    have hfm : List.flatMap out [0, 1] = out 0 ++ out 1 := by simp
    have hyl : (out 0 ++ out 1).length = 48 := by rw [List.length_append, unhide HOUT, unhide HOUT]
    rw [hfm, hyl] at hrow
    obtain ⟨gn, capn, rfl⟩ := ownsRow_succ (k := 48 - 1) hrow
    have HROW := hide hrow
    gi_wp2
    have hKD : ((W.setCell ⟨w.heap.size + 1, 0, none⟩ (.slice (some ⟨gn, 0, none⟩) 48 capn)).setCell ⟨w.heap.size + 1 + 1, 0, none⟩ (.bool true)).heap[D]? = some (.deferred (some [])) := ((KeepsOthers.setCell _ _ _).trans (KeepsOthers.setCell _ _ _)).same D _ hK rfl
    refine ⟨by simp, .inl ⟨_, _, rfl, run_takeDeferred hKD, ?_⟩⟩
    have hzD : w.heap.size + 6 ≤ D := by omega
    have b1 : Boxed (((W.setCell ⟨w.heap.size + 1, 0, none⟩ (.slice (some ⟨gn, 0, none⟩) 48 capn)).setCell ⟨w.heap.size + 1 + 1, 0, none⟩ (.bool true)).putObj D (.deferred none)) (w.heap.size + 1) 22 (.slice (some ⟨gn, 0, none⟩) 48 capn) := ((hb1.set _).kept (grownBy_setCell' _ _ _) (by simp)).kept (grownBy_putObj' _ D (.deferred none)) (by simp; omega)
    have b2 : Boxed (((W.setCell ⟨w.heap.size + 1, 0, none⟩ (.slice (some ⟨gn, 0, none⟩) 48 capn)).setCell ⟨w.heap.size + 1 + 1, 0, none⟩ (.bool true)).putObj D (.deferred none)) (w.heap.size + 1 + 1) 4 (.bool true) := (Boxed.set (.bool true) (hb2.kept (grownBy_setCell' W (w.heap.size + 1) (.slice (some ⟨gn, 0, none⟩) 48 capn)) (by simp))).kept (grownBy_putObj' _ D (.deferred none)) (by simp; omega)
    have hr2 := ownsRow_putObj (ownsRow_setCell_below (ownsRow_setCell_below (unhide HROW) (a := ⟨w.heap.size + 1, 0, none⟩) (by simp) (.slice (some ⟨gn, 0, none⟩) 48 capn)) (a := ⟨w.heap.size + 1 + 1, 0, none⟩) (by simp) (.bool true)) (.deferred none) hKD rfl
    refine ⟨_, results_cells2 rfl _ _ ⟨w.heap.size + 1, 0, none⟩ ⟨w.heap.size + 1 + 1, 0, none⟩ _ _ rfl rfl (load_sl _ _ _ b1.cell) (load_bl _ _ _ b2.cell), ((hB.setCell (p := ⟨w.heap.size + 1, 0, none⟩) (by simp) _).setCell (p := ⟨w.heap.size + 1 + 1, 0, none⟩) (by simp; omega) _).trans (below_put _ _ (by omega)), .inl ⟨fun x => hpm x (by have := x.isLt; match x with | ⟨0, _⟩ => simp | ⟨1, _⟩ => simp), _, rfl, (owns_fr hr2).2.below (Below.refl _ _) (by omega)⟩⟩
  case stop =>
    rintro D c pre W hD hpre ⟨⟨rfl, hnp, hb1, hb2⟩, hB⟩ hK
    gi_wp2
    refine ⟨by simp, .inl ⟨_, _, rfl, run_takeDeferred hK, ?_⟩⟩
    have b1 := hb1.kept (grownBy_putObj' _ D (.deferred none)) (fun e => by cases e; rw [show W.heap[w.heap.size + 1]? = _ from hb1] at hK; cases hK)
    have b2 := hb2.kept (grownBy_putObj' _ D (.deferred none)) (fun e => by cases e; rw [show W.heap[w.heap.size + 1 + 1]? = _ from hb2] at hK; cases hK)
    exact ⟨_, results_cells2 rfl _ _ ⟨w.heap.size + 1, 0, none⟩ ⟨w.heap.size + 1 + 1, 0, none⟩ _ _ rfl rfl (load_sl _ _ _ b1.cell) (load_bl _ _ _ b2.cell), hB.trans (belowK_b (w := w) (Nat.le_refl _) W D _ _ (by omega) hK rfl rfl), .inr ⟨hnp, rfl⟩⟩

end Go.Proofs.Ytkhpoomajebgoab

namespace Go.Proofs.Ytkhpoomajebgoab
open Go.RowKit Go.Shelf

set_option maxRecDepth 100000 in
set_option maxHeartbeats 2000000 in
theorem encoded_any (v : Value) (g : Nat) (d : List Nat) (w : World) (hA : Arg w v g d) (hl : d.length = 24) :
    Calls Try.prog 18 #[v] w fun e w' => Below w.heap.size w w' ∧ ∃ v', e = .returned (.tuple #[v', .bool true]) ∧ Fr w.heap.size w' v' (encF d) := by
  have HA := hide hA
  obtain ⟨⟨ao, c, rfl, _⟩, _⟩ := hA
  rw [hl] at HA ⊢
  go_enter Try.func18, Try.ntmps18
  go_wp2_with fail
  refine (encode_any _ g d w (unhide HA) hl).mono ?_
  rintro e w2 ⟨v2, rfl, hF, hk⟩
  have HF := hide hF
  have HK := hide hk
  obtain ⟨to, tc, hv⟩ := Fr.shape hF
  subst hv
  clear hF hk
  go_wp2
  go_ret2
  exact ⟨unhide HK, _, rfl, unhide HF⟩

set_option maxRecDepth 100000 in
set_option maxHeartbeats 2000000 in
theorem mended_any (v : Value) (g : Nat) (s : List Nat) (w : World) (hA : Arg w v g s) (hl : s.length = 28) :
    Calls Try.prog 15 #[v] w fun e w' => Below w.heap.size w w' ∧
      ((restF (mend s) = 0 ∧ ∃ v q, e = .returned (.tuple #[v, .bool true]) ∧ Arg w' v q ((mend s).drop 4)) ∨ (¬ restF (mend s) = 0 ∧ e = .returned (.tuple #[.slice none 0 0, .bool false]))) := by
  have HA := hide hA
  obtain ⟨⟨ao, c, rfl, _⟩, _⟩ := hA
  rw [hl] at HA ⊢
  go_enter Try.func15, Try.ntmps15
  go_wp2_with fail
  refine (decode_any _ g s w (unhide HA) hl).mono ?_
  rintro e w2 ⟨hk, (⟨hz, q, cq, rfl, hq, _⟩ | ⟨hz, rfl⟩)⟩
  · have HQ := hide hq
    have HK := hide hk
    have HZ := hide hz
    clear hq hk hz
    go_wp2
    go_ret2
    exact ⟨unhide HK, .inl ⟨unhide HZ, _, q, rfl, unhide HQ⟩⟩
  · have HK := hide hk
    have HZ : Hid (¬ restF (mend s) = 0) := hz
    clear hk hz
    go_wp2
    go_ret2
    exact ⟨unhide HK, .inr ⟨unhide HZ, rfl⟩⟩

/-- A payload's page. -/
def pageF (d : List Nat) : List Nat := List.replicate 4 0 ++ (encF (d.take 24) ++ encF (d.drop 24))
theorem pageF_len {d : List Nat} (h : d.length = 48) : (pageF d).length = 60 := by
  unfold pageF
  rw [List.length_append, List.length_append, encF_len (by rw [List.length_take, h]; rfl), encF_len (by rw [List.length_drop, h])]
  simp
theorem bs_take {s : List Nat} (h : Bs s) (n : Nat) : Bs (s.take n) := fun i => by
  rw [← cf_getD, List.getD_eq_getElem?_getD, List.getElem?_take]
  split
  · rw [← List.getD_eq_getElem?_getD, cf_getD]; exact h _
  · simp
theorem bs_drop {s : List Nat} (h : Bs s) (n : Nat) : Bs (s.drop n) := fun i => by rw [cf_drop]; exact h _
theorem bs_append {s t : List Nat} (h : Bs s) (k : Bs t) : Bs (s ++ t) := fun i => by
  rw [cf_append]
  split
  · exact h _
  · exact k _
theorem bs_zeros (n : Nat) : Bs (List.replicate n 0) := fun i => by rw [cf_replicate]; omega
theorem pageF_bs {d : List Nat} (h : Bs d) : Bs (pageF d) := bs_append (bs_zeros 4) (bs_append (encF_bs (bs_take h _)) (encF_bs (bs_drop h _)))

set_option maxRecDepth 100000 in
set_option maxHeartbeats 2000000 in
theorem pencode_not (v : Value) (g : Nat) (d : List Nat) (w : World) (hA : Arg w v g d) (hl : d.length ≠ 48) : Calls Try.prog 11 #[v] w fun e w' => e = .returned (.slice none 0 0) ∧ w' = w := by
  obtain ⟨⟨ao, c, rfl, hc1, hc2, hnil, hr⟩, hbs⟩ := hA
  have h24 : ((d.length : Int) != 48) = true := by rw [bne_iff_ne]; omega
  clear hr hnil
  go_enter Try.func11, Try.ntmps11
  go_wp2
  go_ret
  exact ⟨rfl, rfl⟩

set_option maxRecDepth 100000 in
set_option maxHeartbeats 4000000 in
theorem pencode_any (v : Value) (g : Nat) (d : List Nat) (w : World) (hA : Arg w v g d) (hl : d.length = 48) :
    Calls Try.prog 11 #[v] w fun e w' => ∃ v', e = .returned v' ∧ Fr w.heap.size w' v' (pageF d) ∧ Below w.heap.size w w' := by
  have HA := hide hA
  have hbs := hA.bs
  obtain ⟨⟨ao, c, rfl, hc1, hc2, hnil, hr⟩, _⟩ := hA
  obtain ⟨o, rfl⟩ := row_some hr (by omega)
  rw [hl] at HA ⊢
  clear hr hnil
  have HJ := hide (joined_enc g o c d hl w (unhide HA) (fun _ => True) (fun x => encF ((d.drop (24 * x.val)).take 24)) (fun x => encF_len (by have := x.isLt; rw [List.length_take, List.length_drop]; omega))
    (fun x W hP => (encoded_any _ g _ W hP (by have := x.isLt; rw [List.length_take, List.length_drop]; omega)).mono (fun e W' ⟨hk, v', he, hF⟩ => by
      obtain ⟨q, hq, _⟩ := hF.arg (encF_bs (bs_take (bs_drop hbs _) _))
      exact ⟨hk, .inl ⟨trivial, v', q, he, hq⟩⟩)))
  go_enter Try.func11, Try.ntmps11
  go_wp2_with fail
  refine (unhide HJ).mono ?_
  rintro e w2 ⟨hk, (⟨_, v2, rfl, hF⟩ | ⟨⟨x, hx⟩, _⟩)⟩
  case inr => exact absurd trivial hx
  have hP : ∃ P, encF (d.take 24) ++ encF (d.drop 24) = P := ⟨_, rfl⟩
  obtain ⟨P, hP⟩ := hP
  have hPl : P.length = 56 := by rw [← hP, List.length_append, encF_len (by rw [List.length_take, hl]; rfl), encF_len (by rw [List.length_drop, hl])]
  have hPb : Bs P := by rw [← hP]; exact bs_append (encF_bs (bs_take hbs _)) (encF_bs (bs_drop hbs _))
  have hF2 : Fr w.heap.size w2 v2 P := by
    have e1 : ((d.drop (24 * (0 : Fin 2).val)).take 24) = d.take 24 := by simp
    have e2 : ((d.drop (24 * (1 : Fin 2).val)).take 24) = d.drop 24 := by
      rw [List.take_of_length_le (by rw [List.length_drop, hl]; decide)]
      rfl
    rw [e1, e2, hP] at hF
    exact hF
  have HPG : Hid (pageF d = List.replicate 4 0 ++ P) := by show _ = _; rw [pageF, hP]
  obtain ⟨q, cq, rfl, hq1, hq2, hB, hq3⟩ := hF2.blk (by intro e; rw [e] at hPl; simp at hPl)
  have hrow := hB.row (o := 0) (n := 56)
  rw [List.drop_zero, List.take_of_length_le (by omega)] at hrow
  rw [hPl] at hq1 ⊢
  have HK := hide hk
  have HPL := hide hPl
  have HROW := hide hrow
  have hmk : ∀ w : World, (Instr.makeSlice 22 (.int .i64 4) (.int .i64 4)).run Try.prog w = .ok (.slice (some ⟨w.heap.size, 0, none⟩) 4 4) (w.alloc (.cells (List.replicate 4 (Value.int .u8 0)).toArray 5)) := run_zeros 4 (by omega)
  obtain ⟨i0, hi0, hz0, hz1, hz2⟩ := info_parts infoE
  have HI := hide hi0
  have HO := hide (made_owns 4 (by omega) w2)
  have HK1 : Hid (Below w2.heap.size w2 (w2.alloc (.cells (List.replicate 4 (Value.int .u8 0)).toArray 5))) := (Below.refl _ w2).alloc (Nat.le_refl _) _
  have hzk := hk.size
  clear hF hk HJ hF2 hP hB hi0 hrow hPl
  obtain ⟨z4, hz4⟩ : ∃ z4, (List.replicate 4 (Value.int .u8 0)).toArray = z4 := ⟨_, rfl⟩
  rw [hz4] at HO HK1
  simp only [hz4] at hmk
  clear hz4
  go_wp2_with (at_builtin; refine wpList_append_row _ rfl _ _ 22 rfl w2.heap.size 5 i0 Try.underlying22 (unhide HI) hz0 hz1 hz2 (.slice (some ⟨w2.heap.size, 0, none⟩) 4 4) 4 _ rfl (unhide HO) (some ⟨q, 0, none⟩) q 56 cq (ints P) rfl (by rw [ints_len]; exact unhide HPL) (Row.below (unhide HK1) (unhide HROW)) (fun h => by cases h) (by omega) (by simp) ?_)
  intro v' w3 ho hg _
  have hF := (owns_fr (s := List.replicate 4 0 ++ P) (by rw [show (ints (List.replicate 4 0 ++ P)).map (Value.int .u8) = (ints (List.replicate 4 0)).map (Value.int .u8) ++ (ints P).map (Value.int .u8) from by simp only [ints, List.map_append]]; exact ho)).2
  have HK3 : Hid (Below w.heap.size w w3) := (unhide HK).trans (((unhide HK1).grown hg (by simp) (fun k e => by cases e; exact Nat.le_refl _)).mono hzk)
  obtain ⟨to, tc, hv⟩ := Fr.shape hF
  subst hv
  have HF := hide hF
  clear hF ho hg hmk
  go_wp2
  go_ret
  rw [unhide HPG]
  refine ⟨_, rfl, ?_, unhide HK3⟩
  rcases unhide HF with ⟨h0, _⟩ | ⟨g', c', h1, h2, h3, h4, h5⟩
  · simp at h0
  · exact .inr ⟨g', c', h1, h2, h3, h4, by omega⟩
end Go.Proofs.Ytkhpoomajebgoab

namespace Go.Proofs.Ytkhpoomajebgoab
open Go.RowKit Go.Shelf

/-- How many of the marker's bits are ones; the two words. -/
def marks (s : List Nat) : Nat := (onF (cf (s.take 4)) 4).length
def wordA (s : List Nat) : List Nat := (s.drop 4).take 28
def wordB (s : List Nat) : List Nat := s.drop 32
/-- Both words' data. -/
def dataW (s : List Nat) : List Nat := (mend (wordA s)).drop 4 ++ (mend (wordB s)).drop 4
/-- What Decode tells: the state, the bytes. -/
def pageD (s : List Nat) : Int × List Nat :=
  if s.length ≠ 60 then (1, []) else if 16 < marks s then (0, []) else if restF (mend (wordA s)) = 0 ∧ restF (mend (wordB s)) = 0 then (2, dataW s) else (1, [])

theorem wordA_len {s : List Nat} (h : s.length = 60) : (wordA s).length = 28 := by rw [wordA, List.length_take, List.length_drop, h]; rfl
theorem wordB_len {s : List Nat} (h : s.length = 60) : (wordB s).length = 28 := by rw [wordB, List.length_drop, h]
theorem wordA_bs {s : List Nat} (h : Bs s) : Bs (wordA s) := bs_take (bs_drop h _) _
theorem wordB_bs {s : List Nat} (h : Bs s) : Bs (wordB s) := bs_drop h _
theorem dataW_len {s : List Nat} (h : s.length = 60) : (dataW s).length = 48 := by
  rw [dataW, List.length_append, List.length_drop, List.length_drop, mend_len, mend_len, wordA_len h, wordB_len h]
theorem dataW_bs {s : List Nat} (h : Bs s) : Bs (dataW s) := bs_append (bs_drop (mend_bs (wordA_bs h)) _) (bs_drop (mend_bs (wordB_bs h)) _)

theorem results_cell8 {P : Program} {fn : Func} {p : Tmp} {ty : TypeId} (h : fn.results = #[.cell p ty]) (tmps : Array Value) (w : World) (ad : Addr) (x : Value) (hp : tmps.getD p undef = .pointer (some ad)) (hl : (loadVar ty ad).run P w = .ok x w) :
    (results fn tmps).run P w = .ok x w := by
  rw [Array.getD_eq_getD_getElem?] at hp
  simp only [results, h]
  simp [hp, asAddr, hl]
/-- Block B holds a page. -/
def PgB (w : World) (B : Nat) (a b : Value) : Prop := w.heap[B]? = some (.cells #[a, b] 29 (0, 0))
theorem PgB.c0 {w : World} {B : Nat} {a b : Value} (h : PgB w B a b) : w.cell? ⟨B, 0, none⟩ = some a := by simp [World.cell?, show w.heap[B]? = _ from h]
theorem PgB.c1 {w : World} {B : Nat} {a b : Value} (h : PgB w B a b) : w.cell? ⟨B, 1, none⟩ = some b := by simp [World.cell?, show w.heap[B]? = _ from h]
theorem PgB.f0 {w : World} {B : Nat} {a b : Value} (h : PgB w B a b) : w.frozen? ⟨B, 0, none⟩ = false := by simp [World.frozen?, show w.heap[B]? = _ from h]
theorem PgB.f1 {w : World} {B : Nat} {a b : Value} (h : PgB w B a b) : w.frozen? ⟨B, 1, none⟩ = false := by simp [World.frozen?, show w.heap[B]? = _ from h]
theorem PgB.new (w : World) (a b : Value) : PgB (w.alloc (.cells #[a, b] 29)) w.heap.size a b := World.alloc_heap_new w _
theorem PgB.lt {w : World} {B : Nat} {a b : Value} (h : PgB w B a b) : B < w.heap.size := (Array.getElem?_eq_some_iff.1 h).1
theorem PgB.below {w w' : World} {B : Nat} {a b : Value} (h : PgB w B a b) (k : Below w.heap.size w w') : PgB w' B a b := (k.block _ h.lt).trans h
theorem PgB.s0 {w : World} {B : Nat} {a b : Value} (h : PgB w B a b) (x : Value) : PgB (w.setCell ⟨B, 0, none⟩ x) B x b := by
  show (w.setCell ⟨B, 0, none⟩ x).heap[B]? = _
  rw [heap_setCell_same w B 0 _ 29 x h]; rfl
theorem PgB.s1 {w : World} {B : Nat} {a b : Value} (h : PgB w B a b) (x : Value) : PgB (w.setCell ⟨B, 1, none⟩ x) B a x := by
  show (w.setCell ⟨B, 1, none⟩ x).heap[B]? = _
  rw [heap_setCell_same w B 1 _ 29 x h]; rfl
theorem PgB.load {w : World} {B : Nat} {a b : Value} (h : PgB w B a b) : (loadVar 29 ⟨B, 0, none⟩).run Try.prog w = .ok (.agg #[a, b]) w := by
  have k0 := h.c0
  have k1 := h.c1
  have hu := Try.underlying29
  simp [loadVar, isAgg, run_underlying hu, go_sem, k0, k1]

theorem Arg.rest {w : World} {g o n c k : Nat} {s : List Nat} (h : Arg w (.slice (some ⟨g, o, none⟩) n c) g s) (hk : k ≤ n) : Arg w (.slice (some ⟨g, o + k, none⟩) (n - k) (c - k)) g (s.drop k) := by
  obtain ⟨⟨ao, c', h1, h2, h3, h4, h5⟩, hb⟩ := h
  cases h1
  refine ⟨⟨some ⟨g, o + k, none⟩, c - k, by rw [List.length_drop], by rw [List.length_drop]; omega, by omega, (fun h => by cases h), row_sub (s := s) (k := k) (fun j hj => ?_) h5⟩, bs_drop hb _⟩
  rw [List.length_drop] at hj
  exact ⟨by omega, by rw [cf_drop]⟩
/-- The pieces behind the marker. -/
def wordX (s : List Nat) (x : Fin 2) : List Nat := ((s.drop 4).drop (28 * x.val)).take 28
theorem wordX_0 (s : List Nat) : wordX s 0 = wordA s := by simp [wordX, wordA]
theorem wordX_1 {s : List Nat} (h : s.length = 60) : wordX s 1 = wordB s := by
  show (List.drop (28 * 1) (List.drop 4 s)).take 28 = _
  rw [List.drop_drop, List.take_of_length_le (by rw [List.length_drop, h]; decide)]
  rfl
theorem wordX_len {s : List Nat} (h : s.length = 60) (x : Fin 2) : (wordX s x).length = 28 := by
  have := x.isLt
  rw [wordX, List.length_take, List.length_drop, List.length_drop, h]
  omega

set_option maxRecDepth 100000 in
set_option maxHeartbeats 4000000 in
theorem pdecode_any (v : Value) (g : Nat) (s : List Nat) (w : World) (hA : Arg w v g s) :
    Calls Try.prog 9 #[v] w fun e w' => ∃ vb, e = .returned (.agg #[.int .i64 (pageD s).1, vb]) ∧ Fr w.heap.size w' vb (pageD s).2 ∧ Below w.heap.size w w' := by
  have HA := hide hA
  have hbs := hA.bs
  obtain ⟨⟨ao, c, rfl, hc1, hc2, hnil, hr⟩, _⟩ := hA
  have HB1 : Hid (Below w.heap.size w (w.alloc (.cells #[.int .i64 0, .slice none 0 0] 29))) := (Below.refl _ w).alloc (Nat.le_refl _) _
  have HP1 := hide (PgB.new w (.int .i64 0) (.slice none 0 0))
  by_cases hl : s.length = 60
  case neg =>
    have h24 : ((s.length : Int) != 60) = true := by rw [bne_iff_ne]; omega
    have hD : pageD s = (1, []) := by rw [pageD, if_pos hl]
    have hc0 := (PgB.new w (.int .i64 0) (.slice none 0 0)).c0
    have hf0 := (PgB.new w (.int .i64 0) (.slice none 0 0)).f0
    have hc1' := (PgB.new w (.int .i64 0) (.slice none 0 0)).c1
    have hf1 := (PgB.new w (.int .i64 0) (.slice none 0 0)).f1
    have HD := hide hD
    clear hr hnil hD
    go_enter Try.func9, Try.ntmps9
    go_wp2
    refine bodyPost_ret (results_cell8 rfl _ _ ⟨w.heap.size, 0, none⟩ _ rfl (PgB.load (PgB.new w (.int .i64 1) (.slice none 0 0)))) rfl ?_
    rw [unhide HD]
    exact ⟨_, rfl, .inl ⟨rfl, rfl⟩, (Below.refl _ w).alloc (Nat.le_refl _) _⟩
  case pos =>
    obtain ⟨o, rfl⟩ := row_some hr (by omega)
    rw [hl] at HA hc1 ⊢
    have hc4 : (4 : Int) ≤ (c : Int) := by omega
    have HA1 := hide ((unhide HA).below (unhide HB1))
    have HON := hide (ones6_any _ g (s.take 4) _ ((unhide HA1).front (m := 4) (by omega)) (by rw [List.length_take]; omega))
    rw [show (s.take 4).length = 4 from by rw [List.length_take, hl]; rfl] at HON
    rw [show (onF (cf (s.take 4)) 4).length = marks s from rfl] at HON
    obtain ⟨m, hm⟩ : ∃ m, marks s = m := ⟨_, rfl⟩
    rw [hm] at HON
    have HM := hide hm
    have HL := hide hl
    have hzw : w.heap.size ≤ (w.alloc (.cells #[.int .i64 0, .slice none 0 0] 29)).heap.size := (unhide HB1).size
    clear hr hnil hm hl
    go_enter Try.func9, Try.ntmps9
    go_wp2_with fail
    refine (unhide HON).mono ?_
    rintro e w2 ⟨rfl, hk⟩
    have HP2 : Hid (PgB w2 w.heap.size (.int .i64 0) (.slice none 0 0)) := PgB.below (unhide HP1) hk
    have HB2 := hide ((unhide HB1).trans (hk.mono hzw))
    have HA2 := hide ((unhide HA1).below hk)
    clear hk HON HP1 hzw
    have hc0 := PgB.c0 (unhide HP2)
    have hf0 := PgB.f0 (unhide HP2)
    have hc1' := PgB.c1 (unhide HP2)
    have hf1 := PgB.f1 (unhide HP2)
    by_cases hm16 : 16 < m
    · have hm' : (16 : Int) < (m : Int) := by omega
      have hD : Hid (pageD s = (0, [])) := by show _ = _; rw [pageD, if_neg (by rw [unhide HL]; simp), if_pos (by rw [unhide HM]; exact hm16)]
      go_wp2_with fail
      refine bodyPost_ret (results_cell8 rfl _ _ ⟨w.heap.size, 0, none⟩ _ rfl (PgB.load (((unhide HP2 : PgB _ _ _ _).s0 (.int .i64 0)).s1 (.slice none 0 0)))) rfl ?_
      rw [unhide hD]
      exact ⟨_, rfl, .inl ⟨rfl, rfl⟩, ((unhide HB2).setCell (p := ⟨w.heap.size, 0, none⟩) (by simp) _).setCell (p := ⟨w.heap.size, 1, none⟩) (by simp) _⟩
    · have hm' : ¬ (16 : Int) < (m : Int) := by omega
      have hc4' : (4 : Int) ≤ (60 : Int) := by omega
      have hcne : ¬ c = 4 := by omega
      have hcle : (60 : Int) ≤ (c : Int) := by omega
      have hle : s.length = 60 := unhide HL
      have HW := hide (joined_mnd g (o + 4) (c - 4) (s.drop 4) (by rw [List.length_drop, hle]) w2 ((unhide HA2).rest (k := 4) (by omega)) (fun x => restF (mend (wordX s x)) = 0) (fun x => (mend (wordX s x)).drop 4)
        (fun x => by rw [List.length_drop, mend_len, wordX_len hle]) (fun x W hP => mended_any _ g (wordX s x) W hP (wordX_len hle x)))
      clear hle
      go_wp2_with fail
      refine (unhide HW).mono ?_
      rintro e w3 ⟨hk, (⟨hall, v3, rfl, hF⟩ | ⟨⟨x, hx⟩, rfl⟩)⟩
      · have hz0 := hall 0
        have hz1 := hall 1
        rw [wordX_0] at hz0
        rw [wordX_1 (unhide HL)] at hz1
        have hF2 : Fr w2.heap.size w3 v3 (dataW s) := by
          have h := hF
          rw [wordX_0, wordX_1 (unhide HL)] at h
          exact h
        have hD : Hid (pageD s = (2, dataW s)) := by show _ = _; rw [pageD, if_neg (by rw [unhide HL]; simp), if_neg (by rw [unhide HM]; exact hm16), if_pos ⟨hz0, hz1⟩]
        have HP3 : Hid (PgB w3 w.heap.size (.int .i64 0) (.slice none 0 0)) := PgB.below (unhide HP2) hk
        have HB3 := hide ((unhide HB2).trans (hk.mono (unhide HB2).size))
        have hz2 := (unhide HB2).size
        obtain ⟨q, cq, hv3, h31, h32, h33, h34⟩ := hF2.blk (by intro e; have := dataW_len (unhide HL); rw [e] at this; simp at this)
        have HK3 := hide h33
        have hdl := dataW_len (unhide HL)
        have HQL := hide (show w.heap.size + 1 ≤ q by have := PgB.lt (unhide HP2); omega)
        have HQC := hide h31
        have HQM := hide h32
        rw [hdl] at hv3
        subst hv3
        have hc0 := PgB.c0 (unhide HP3)
        have hf0 := PgB.f0 (unhide HP3)
        have hc1' := PgB.c1 (unhide HP3)
        have hf1 := PgB.f1 (unhide HP3)
        clear hz0 hz1 hall hF hF2 hk h31 h32 h33 h34 hdl HW
        go_wp2_with fail
        refine bodyPost_ret (results_cell8 rfl _ _ ⟨w.heap.size, 0, none⟩ _ rfl (PgB.load (((unhide HP3 : PgB _ _ _ _).s0 (.int .i64 2)).s1 (.slice (some ⟨q, 0, none⟩) 48 cq)))) rfl ?_
        rw [unhide hD]
        have hq := unhide HQL
        refine ⟨_, rfl, .inr ⟨q, cq, by rw [dataW_len (unhide HL)], unhide HQC, unhide HQM, ?_, by omega⟩, ((unhide HB3).setCell (p := ⟨w.heap.size, 0, none⟩) (by simp) _).setCell (p := ⟨w.heap.size, 1, none⟩) (by simp) _⟩
        exact ((unhide HK3).of (Below.heap_setCell _ _ _ _ (by dsimp only; omega))).of (Below.heap_setCell _ _ _ _ (by dsimp only; omega))
      · have hD : Hid (pageD s = (1, [])) := by
          show _ = _
          rw [pageD, if_neg (by rw [unhide HL]; simp), if_neg (by rw [unhide HM]; exact hm16), if_neg]
          rintro ⟨h0, h1⟩
          apply hx
          match x with
          | ⟨0, _⟩ => exact (congrArg (fun t => restF (mend t) = 0) (wordX_0 s)).mpr h0
          | ⟨1, _⟩ => exact (congrArg (fun t => restF (mend t) = 0) (wordX_1 (unhide HL))).mpr h1
        have HP3 : Hid (PgB w3 w.heap.size (.int .i64 0) (.slice none 0 0)) := PgB.below (unhide HP2) hk
        have HB3 := hide ((unhide HB2).trans (hk.mono (unhide HB2).size))
        have hc0 := PgB.c0 (unhide HP3)
        have hf0 := PgB.f0 (unhide HP3)
        have hc1' := PgB.c1 (unhide HP3)
        have hf1 := PgB.f1 (unhide HP3)
        clear hx hk HW
        go_wp2_with fail
        refine bodyPost_ret (results_cell8 rfl _ _ ⟨w.heap.size, 0, none⟩ _ rfl (PgB.load (((unhide HP3 : PgB _ _ _ _).s0 (.int .i64 1)).s1 (.slice none 0 0)))) rfl ?_
        rw [unhide hD]
        exact ⟨_, rfl, .inl ⟨rfl, rfl⟩, ((unhide HB3).setCell (p := ⟨w.heap.size, 0, none⟩) (by simp) _).setCell (p := ⟨w.heap.size, 1, none⟩) (by simp) _⟩
end Go.Proofs.Ytkhpoomajebgoab
