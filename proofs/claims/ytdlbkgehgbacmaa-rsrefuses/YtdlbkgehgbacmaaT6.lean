/-
  The laws' Rows, and where they lie; rows of which one is put in another's place.
-/
import Derived.Test.YtdlbkgehgbacmaaT5
namespace Go.Proofs.Ytdlbkgehgbacmaa
open Go.RowKit

set_option maxRecDepth 100000 in
set_option maxHeartbeats 4000000 in
theorem rows2_any (v : Value) (gb : Nat) (b : List Nat) (n size : Nat) (hn : n ≤ 20) (hs : size ≤ 20) (w : World) (hA : Arg w v gb b) :
    Calls Try.prog 11 #[v, .int .i64 (n : Int), .int .i64 (size : Int)] w fun e w' => ∃ v' ps l, e = .returned v' ∧ OwnR (w.heap.size + 1) w' v' ps l ∧ l.length = n ∧ (∀ i, i < n → (l.getD i []).length = size ∧ Arg w' (.slice (psA ps i) (l.getD i []).length (psC ps i)) w.heap.size (l.getD i [])) ∧ Below w.heap.size w w' := by
  have HA := hide hA
  obtain ⟨ao, c, hv, _⟩ := hA.ex
  subst hv
  clear hA
  obtain ⟨i0, hi0, hz0, hz1, hz2⟩ := info_parts infoR
  have HI := hide hi0
  clear hi0
  obtain ⟨T, hT⟩ : ∃ T, n * size = T := ⟨_, rfl⟩
  have hm2 : T ≤ 400 := by rw [← hT]; exact Nat.le_trans (Nat.mul_le_mul hn hs) (by omega)
  have hm : (n : Int) * (size : Int) = (T : Int) := by rw [← hT]; simp
  have hm1 : IntKind.i64.wrap ((n : Int) * (size : Int)) = (T : Int) := by rw [hm]; exact IntWalk.i64_in _ ⟨by omega, by omega⟩
  have HT := hide hT
  clear hT
  go_enter Try.func11, Try.ntmps11
  go_wp2_with fail
  refine (data_any _ gb b T (by omega) w (unhide HA)).mono ?_
  rintro e w1 ⟨d, rfl, hdl, hdb, hB, hk⟩
  have HB := hide hB
  have HDB := hide hdb
  have HDL := hide hdl
  have HK1 := hide hk
  have hzk := hk.size
  clear hB hdb hdl hk hm hm1
  go_wp2_with fail
  go_loopw [7, 9] (fun v p wr => ∃ (i : Nat) (ps : List (Option Addr × Nat)) (l : List (List Nat)) (v0 : Value), v = v0 ∧ p = .int .i64 i ∧ i ≤ n ∧ OwnR w1.heap.size wr v ps l ∧ l.length = i ∧ (∀ j, j < i → (l.getD j []).length = size ∧ Arg w1 (.slice (psA ps j) (l.getD j []).length (psC ps j)) w.heap.size (l.getD j [])) ∧ Below w1.heap.size w1 wr) (fun _ p _ => n - (intOf p).toNat)
  case atStart => exact ⟨0, [], [], _, rfl, rfl, by omega, OwnR.nil _ _, rfl, by omega, Below.refl _ _⟩
  case round =>
    obtain ⟨i, ps, l, v0, rfl, rfl, hi, hO, hl, hsz, hK⟩ := hrel
    have HO := hide hO
    have HL := hide hl
    have HSZ := hide hsz
    have HK := hide hK
    have hzr := hK.size
    have HV : Hid (∃ vo vc, u7 = .slice vo i vc) := by
      rcases hO.shape with ⟨h1, h2⟩ | ⟨q, cq, h1, _⟩
      · exact ⟨none, 0, by rw [h1, ← hl, h2]; rfl⟩
      · exact ⟨_, cq, by rw [← hl]; exact h1⟩
    obtain ⟨vo, vc, hv⟩ := unhide HV
    subst hv
    clear hO hl hsz hK HV
    by_cases hlt : i < n
    · have hi1 : (i : Int) < (n : Int) := by omega
      obtain ⟨a, ha⟩ : ∃ a, i * size = a := ⟨_, rfl⟩
      obtain ⟨b', hb'⟩ : ∃ b', (i + 1) * size = b' := ⟨_, rfl⟩
      have hab : b' = a + size := by rw [← hb', ← ha, Nat.succ_mul]
      have hbT : b' ≤ T := by rw [← hb', ← unhide HT]; exact Nat.mul_le_mul_right _ hlt
      have m1 : (i : Int) * (size : Int) = (a : Int) := by rw [← ha]; simp
      have m2 : IntKind.i64.wrap ((i : Int) * (size : Int)) = (a : Int) := by rw [m1]; exact IntWalk.i64_in _ ⟨by omega, by omega⟩
      have m3 : ((i : Int) + 1) * (size : Int) = (b' : Int) := by rw [← hb']; simp
      have m4 : IntKind.i64.wrap (((i : Int) + 1) * (size : Int)) = (b' : Int) := by rw [m3]; exact IntWalk.i64_in _ ⟨by omega, by omega⟩
      have m5 : IntKind.i64.wrap ((i : Int) + 1) = (i : Int) + 1 := IntWalk.i64_in _ ⟨by omega, by omega⟩
      have l1 : (a : Int) ≤ (b' : Int) := by omega
      have l2 : (b' : Int) ≤ (T : Int) := by omega
      clear ha hb'
      obtain ⟨off, hoff, hoffa⟩ : ∃ off, (if T = a then (some ⟨w.heap.size, 0, none⟩ : Option Addr) else some ⟨w.heap.size, a, none⟩) = some ⟨w.heap.size, off, none⟩ ∧ (size = 0 ∨ off = a) := by
        by_cases e : T = a
        · exact ⟨0, by rw [if_pos e], .inl (by omega)⟩
        · exact ⟨a, by rw [if_neg e], .inr rfl⟩
      obtain ⟨r, hrl, hrA⟩ : ∃ r, r.length = size ∧ Arg w1 (.slice (some ⟨w.heap.size, off, none⟩) size (T - a)) w.heap.size r := by
        rcases hoffa with h0 | h0
        · exact ⟨[], by rw [h0]; rfl, ⟨⟨_, _, by rw [h0]; rfl, by simp, by unfold maxLen; omega, (fun h => by cases h), .inl rfl⟩, Bs.nil⟩⟩
        · rw [h0]
          exact ⟨_, (unhide HB).part (a := a) (n := size) (c := T - a) (unhide HDB) (by rw [unhide HDL]; omega) (by omega) (by unfold maxLen; omega)⟩
      clear hoffa
      have HRA := hide hrA
      have HRL := hide hrl
      clear hrA hrl
      have hka : Below wr.heap.size wr (wr.alloc (.cells #[.slice (some ⟨w.heap.size, off, none⟩) size (T - a)] 22)) := (Below.refl _ _).alloc (Nat.le_refl _) _
      have HO2 := hide ((unhide HO).below hka)
      have HOW : Hid ((wr.alloc (.cells #[.slice (some ⟨w.heap.size, off, none⟩) size (T - a)] 22)).ownsRow w1.heap.size 22 1 (.slice vo i vc) i (vals ps l)) := by
        have h := (unhide HO2).own
        rwa [unhide HL] at h
      have HKA := hide ((unhide HK).trans (hka.mono hzr))
      clear hka
      go_wp2_with (at_builtin; refine wpList_append_vals _ rfl _ _ 23 rfl w1.heap.size 22 i0 Try.underlying23 (unhide HI) hz0 hz1 hz2 (.slice vo i vc) i (vals ps l) rfl (unhide HOW) (some ⟨wr.heap.size, 0, none⟩) wr.heap.size 1 1 [.slice (some ⟨w.heap.size, off, none⟩) size (T - a)] rfl rfl (one_src _ _ _ _) (by simp [Value.oneCell']) (fun h => by cases h) (by omega) (by simp; omega) ?_)
      intro v2 w2 ho hg
      have HB2 := hide (below_grown (unhide HKA) hg (by simp; omega) (unhide HO2).row)
      have HO3 : Hid (OwnR w1.heap.size w2 v2 (ps ++ [(some ⟨w.heap.size, off, none⟩, T - a)]) (l ++ [r])) := by
        refine (unhide HO2).snoc (n := size) (by rw [unhide HL]; exact ho) (fun j hj => ⟨w.heap.size, ((unhide HSZ) j (by rw [← unhide HL]; exact hj)).2.below (unhide HB2)⟩) (unhide HRL) ⟨w.heap.size, (unhide HRA).below (unhide HB2)⟩
      have HSZ2 : Hid (∀ j, j < i + 1 → ((l ++ [r]).getD j []).length = size ∧ Arg w1 (.slice (psA (ps ++ [(some ⟨w.heap.size, off, none⟩, T - a)]) j) ((l ++ [r]).getD j []).length (psC (ps ++ [(some ⟨w.heap.size, off, none⟩, T - a)]) j)) w.heap.size ((l ++ [r]).getD j [])) := fun j hj => by
        have hpl : ps.length = i := by rw [(unhide HO).len, unhide HL]
        by_cases e : j < i
        · rw [getD_snoc (by rw [unhide HL]; exact e), (ps_snoc (by omega)).1, (ps_snoc (by omega)).2]
          exact unhide HSZ j e
        · have e2 : j = l.length := by rw [unhide HL]; omega
          rw [e2, getD_last, (ps_last (by rw [hpl, unhide HL])).1, (ps_last (by rw [hpl, unhide HL])).2, unhide HRL]
          exact ⟨rfl, unhide HRA⟩
      clear ho hg
      go_wp2_with fail
      go_roundw
      case rel => exact ⟨i + 1, _, _, _, rfl, by go_num, by omega, unhide HO3, by simp [unhide HL], unhide HSZ2, unhide HB2⟩
      case measure => simp [intOf]; omega
    · have hi2 : i = n := by omega
      subst hi2
      go_wp2
      go_ret
      exact ⟨_, ps, l, rfl, (unhide HO).mono (unhide HB).lt, unhide HL, fun j hj => ⟨(unhide HSZ j hj).1, (unhide HSZ j hj).2.below (unhide HK)⟩, (unhide HK1).trans ((unhide HK).mono hzk)⟩

/-- Rows whose slices lie in block gT, and what they say elsewhere. -/
structure Tn (W : World) (gT N : Nat) (ps : List (Option Addr × Nat)) (t : List (List Nat)) : Prop where
  cells : ∃ cur, W.heap[gT]? = some (.cells cur 22 (0, 0)) ∧ ∀ j, j < N → cur[j]? = some (.slice (psA ps j) (t.getD j []).length (psC ps j))
  pl : ps.length = N
  tl : t.length = N
  rows : ∀ j, j < N → ∃ g, Arg W (.slice (psA ps j) (t.getD j []).length (psC ps j)) g (t.getD j []) ∧ (t.getD j [] ≠ [] → g ≠ gT)
theorem tn_of {base g n cap : Nat} {W : World} {ps : List (Option Addr × Nat)} {l : List (List Nat)} (h : OwnR base W (.slice (some ⟨g, 0, none⟩) n cap) ps l) (hl : l.length = n) (hrows : ∀ j, j < n → ∃ g', Arg W (.slice (psA ps j) (l.getD j []).length (psC ps j)) g' (l.getD j []) ∧ (l.getD j [] ≠ [] → g' ≠ g)) : Tn W g n ps l := by
  refine ⟨?_, by rw [h.len, hl], hl, hrows⟩
  rcases h.own.2 with ⟨h', _⟩ | ⟨g', cap', cur, h1, h2, h3, h4, h5, h6, h7⟩
  · cases h'
  · cases h1
    refine ⟨cur, h3, fun j hj => ?_⟩
    have e : (cur.toList.take (l.length * 1))[j]? = (vals ps l)[j]? := by rw [h7]
    rw [List.getElem?_take, if_pos (by omega), Array.getElem?_toList, vals_get h.len (by omega)] at e
    exact e
theorem Tn.lt {W : World} {gT N : Nat} {ps : List (Option Addr × Nat)} {t : List (List Nat)} (h : Tn W gT N ps t) : gT < W.heap.size := by
  obtain ⟨cur, h1, _⟩ := h.cells
  exact lt_of_block h1
theorem Tn.cell {W : World} {gT N : Nat} {ps : List (Option Addr × Nat)} {t : List (List Nat)} (h : Tn W gT N ps t) {j : Nat} (hj : j < N) : W.cell? ⟨gT, j, none⟩ = some (.slice (psA ps j) (t.getD j []).length (psC ps j)) ∧ W.frozen? ⟨gT, j, none⟩ = false := by
  obtain ⟨cur, h1, h2⟩ := h.cells
  exact ⟨by simp [World.cell?, h1, h2 j hj], by simp [World.frozen?, h1]⟩
theorem Tn.below {W W' : World} {gT N : Nat} {ps : List (Option Addr × Nat)} {t : List (List Nat)} (h : Tn W gT N ps t) (k : Below W.heap.size W W') : Tn W' gT N ps t := by
  obtain ⟨cur, h1, h2⟩ := h.cells
  exact ⟨⟨cur, (k.block gT h.lt).trans h1, h2⟩, h.pl, h.tl, fun j hj => by obtain ⟨g, h3, h4⟩ := h.rows j hj; exact ⟨g, h3.below k, h4⟩⟩
theorem arg_kp {S : List Nat} {w w' : World} {v : Value} {g : Nat} {s : List Nat} (h : Arg w v g s) (k : Kp S w w') (hn : s ≠ [] → g ∉ S) : Arg w' v g s := by
  obtain ⟨⟨ao, c, h1, h2, h3, h4, h5⟩, hb⟩ := h
  refine ⟨⟨ao, c, h1, h2, h3, h4, ?_⟩, hb⟩
  by_cases h0 : s = []
  · subst h0; exact .inl rfl
  · exact h5.keep k (hn h0)
theorem Tn.set {W : World} {gT N : Nat} {ps : List (Option Addr × Nat)} {t : List (List Nat)} (h : Tn W gT N ps t) {i : Nat} (hi : i < N) {a : Option Addr} {c g : Nat} {r : List Nat} (hr : Arg W (.slice a r.length c) g r) (hg : r ≠ [] → g ≠ gT) : Tn (W.setCell ⟨gT, i, none⟩ (.slice a r.length c)) gT N (ps.set i (a, c)) (t.set i r) := by
  have hpl : i < ps.length := by rw [h.pl]; exact hi
  have htl : i < t.length := by rw [h.tl]; exact hi
  have hk : Kp [gT] W (W.setCell ⟨gT, i, none⟩ (.slice a r.length c)) := (Kp.refl _ W).setCell _ _ (.inl (by simp))
  refine ⟨?_, by rw [List.length_set]; exact h.pl, by rw [List.length_set]; exact h.tl, fun j hj => ?_⟩
  · obtain ⟨cur, h1, h2⟩ := h.cells
    refine ⟨cur.setIfInBounds i (.slice a r.length c), heap_setCell_same W gT i _ _ _ h1, fun j hj => ?_⟩
    rw [(ps_set hpl).1, (ps_set hpl).2, getD_set htl, Array.getElem?_setIfInBounds]
    by_cases e : i = j
    · subst e
      have : i < cur.size := (Array.getElem?_eq_some_iff.1 (h2 i hi)).1
      simp [this]
    · rw [if_neg e, if_neg e, if_neg e, if_neg e]
      exact h2 j hj
  · rw [(ps_set hpl).1, (ps_set hpl).2, getD_set htl]
    by_cases e : i = j
    · rw [if_pos e, if_pos e, if_pos e]
      exact ⟨g, arg_kp hr hk (fun h0 => by simpa using hg h0), hg⟩
    · rw [if_neg e, if_neg e, if_neg e]
      obtain ⟨g', h3, h4⟩ := h.rows j hj
      exact ⟨g', arg_kp h3 hk (fun h0 => by simpa using h4 h0), h4⟩
theorem Tn.arg {W : World} {gT N c : Nat} {ps : List (Option Addr × Nat)} {t : List (List Nat)} (h : Tn W gT N ps t) (h1 : N ≤ c) (h2 : c ≤ maxLen) : RArg W (.slice (some ⟨gT, 0, none⟩) N c) gT (psA ps) (psC ps) t :=
  ⟨⟨some ⟨gT, 0, none⟩, c, by rw [h.tl], by rw [h.tl]; exact h1, h2, (fun h => by cases h), .inr ⟨0, rfl, fun j hj => by rw [Nat.zero_add]; exact (h.cell (by rw [← h.tl]; exact hj)).1⟩⟩, fun i hi => by
    obtain ⟨g, hg, _⟩ := h.rows i (by rw [← h.tl]; exact hi)
    exact ⟨g, hg⟩⟩

end Go.Proofs.Ytdlbkgehgbacmaa
