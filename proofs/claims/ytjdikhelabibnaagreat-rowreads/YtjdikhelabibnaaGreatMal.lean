/-
  
-/
import Derived.Test.YtjdikhelabibnaaGreatMak
import Derived.Test.YtjdikhelabibnaaGreatMag
import Derived.Test.YtjdikhelabibnaaGreatMai
import Derived.Test.YtjdikhelabibnaaGreatMaj
namespace Go.Proofs.YtjdikhelabibnaaGreat
open Go.RowKit Go.Shelf
attribute [local go_sem] Oper.semAt_some
theorem inP_mem {d : Nat} {zs : List Int} {z : Int} : z ∈ inP d zs ↔ z ∈ zs ∧ z ≠ ((d + 1 : Nat) : Int) := by
 unfold inP
 rw [List.mem_filter, decide_eq_true_eq]
theorem inP_len (d : Nat) (zs : List Int) : (inP d zs).length ≤ zs.length := List.length_filter_le _ _
theorem fill_any (d : Nat) (hd : d ≤ 14) (gp gq gR n N lo : Nat) (is : List Nat) (cur : Array Value) (out : List (List Nat)) (w : World) (hlo : lo ≤ w.heap.size) (hF : FSt d w lo gp gq gR n N is cur out) (zs : List Int) (vz : Value) (gz : Nat) (hZ : ZArg w vz gz zs) (hzne : zs ≠ [] → gz ≠ gp ∧ gz ≠ gq ∧ gz ≠ gR) (hN : N = d + 2) (hpk : pk zs N = true)
  (his : ∀ i ∈ is, keep zs i = true) (hn : n ≤ 100000) :
  Calls Tryz.prog 100 #[sv d (.slice (some ⟨gp, 0, none⟩) n n) (.slice (some ⟨gq, 0, none⟩) n n), .slice (some ⟨gR, 0, none⟩) N N, vz] w fun e w' => (∃ u, e = .returned u) ∧ ∃ cur' out', FSt d w' lo gp gq gR n N (is ++ jsOf d zs) cur' out' ∧ Kp [gp, gq, gR] w w' ∧ Done d n zs is out out' := by
 obtain ⟨hz2, hzb, hznd⟩ := pk_parts hpk
 have hnat : ∀ z ∈ inP d zs, ∃ a : Nat, z = (a : Int) ∧ a ≤ d ∧ a ∉ is := fun z hz => by
  obtain ⟨h1, h2⟩ := inP_mem.1 hz
  have h3 := hzb z h1
  refine ⟨z.toNat, by omega, by omega, fun hm => ?_⟩
  have h4 := his _ hm
  unfold keep at h4
  rw [show ((z.toNat : Nat) : Int) = z from by omega, decide_eq_true h1] at h4
  cases h4
 have hl := Nat.le_trans (inP_len d zs) hz2
 match hm : inP d zs, hl, hnat with
 | [], _, _ => exact fill_none d hd gp gq gR n N lo is cur out w hlo hF zs vz gz hZ hzne hN hpk his hn hm
 | [z], _, hnat =>
  obtain ⟨a, rfl, h1, h2⟩ := hnat z (by simp)
  exact fill_one d hd gp gq gR n N lo is cur out w hlo hF zs vz gz hZ hzne hN hpk his hn a h1 hm h2
 | [z, y], _, hnat =>
  obtain ⟨a, rfl, h1, h2⟩ := hnat z (by simp)
  obtain ⟨b, rfl, h3, h4⟩ := hnat y (by simp)
  have hnd : (inP d zs).Nodup := hznd.sublist List.filter_sublist
  have hab : a ≠ b := by
   rw [hm] at hnd
   simp at hnd
   omega
  have hDn : ((d + 1 : Nat) : Int) ∉ zs := fun h => by
   have h5 : (inP d zs).length < zs.length := by
    unfold inP
    rw [← List.countP_eq_length_filter]
    refine Nat.lt_of_le_of_ne List.countP_le_length (fun e => ?_)
    have := List.countP_eq_length.1 e _ h
    simp at this
   rw [hm] at h5
   simp at h5
   omega
  exact fill_two d hd gp gq gR n N lo is cur out w hlo hF zs vz gz hZ hzne hN hpk hn a b h1 h3 hab hm h2 h4 hDn
 | _ :: _ :: _ :: _, hl, _ => simp at hl
def evK (l : List (List Nat)) (zs : List Int) : Bool := decide (∀ i, i < l.length → ∀ j, j < l.length → keep zs i = true → keep zs j = true → (l.getD i []).length = (l.getD j []).length)
def fixOk (l : List (List Nat)) (zs : List Int) : Bool := pk zs l.length && decide (4 ≤ l.length) && decide (l.length ≤ 16) && evK l zs
structure IsFix (l : List (List Nat)) (zs : List Int) (out : List (List Nat)) (n : Nat) : Prop where
 len : out.length = l.length
 szl : ∀ i, i < l.length → keep zs i = true → (l.getD i []).length = n
 sz : ∀ i, i < l.length → (out.getD i []).length = n
 same : ∀ i, i < l.length → keep zs i = true → out.getD i [] = l.getD i []
 bs : ∀ i, Bs (out.getD i [])
 p : (∃ z ∈ zs, z ≠ ((l.length - 2 + 1 : Nat) : Int)) → ∀ k, k < n → sm (shP (l.length - 2)) out (List.range l.length) k = 0
 q : (zs.length = 2 ∨ ((l.length - 2 + 1 : Nat) : Int) ∈ zs) → ∀ k, k < n → sm (shQ (l.length - 2)) out (List.range l.length) k = 0
theorem jsOf_mem {d : Nat} {zs : List Int} (hb : ∀ z ∈ zs, 0 ≤ z) {i : Nat} : i ∈ jsOf d zs ↔ (i : Int) ∈ zs := by
 unfold jsOf
 rw [List.mem_append, List.mem_map]
 constructor
 ·rintro (⟨z, hz, rfl⟩ | h)
  ·obtain ⟨h1, _⟩ := inP_mem.1 (List.mem_reverse.1 hz)
   rw [show ((z.toNat : Nat) : Int) = z from by have := hb z h1; omega]
   exact h1
  split at h
  ·rename_i hD
   rw [List.mem_singleton.1 h]
   exact hD
  simp at h
 intro h
 by_cases e : i = d + 1
 ·right
  rw [if_pos (by rw [← e]; exact h), e]
  simp
 left
 exact ⟨(i : Int), List.mem_reverse.2 (inP_mem.2 ⟨h, by omega⟩), by simp⟩
theorem jsOf_nodup {d : Nat} {zs : List Int} (hb : ∀ z ∈ zs, 0 ≤ z) (hnd : zs.Nodup) : (jsOf d zs).Nodup := by
 unfold jsOf
 rw [List.nodup_append]
 refine ⟨?_, ?_, ?_⟩
 ·have h1 : (inP d zs).Nodup := hnd.sublist List.filter_sublist
  have h2 : (inP d zs).reverse.Nodup := (List.reverse_perm _).nodup_iff.2 h1
  refine List.Pairwise.map _ ?_ (List.Pairwise.and_mem.1 h2)
  rintro a b ⟨ha, hb', hne⟩ e
  have h3 := hb a (inP_mem.1 (List.mem_reverse.1 ha)).1
  have h4 := hb b (inP_mem.1 (List.mem_reverse.1 hb')).1
  omega
 ·split <;> simp
 intro a ha b hb' e
 obtain ⟨z, hz, rfl⟩ := List.mem_map.1 ha
 split at hb'
 ·have := List.mem_singleton.1 hb'
  obtain ⟨h1, h2⟩ := inP_mem.1 (List.mem_reverse.1 hz)
  have := hb z h1
  omega
 simp at hb'
theorem all_perm {N d : Nat} {zs : List Int} (hb : ∀ z ∈ zs, 0 ≤ z ∧ z < (N : Int)) (hnd : zs.Nodup) : ((List.range N).filter (keep zs) ++ jsOf d zs).Perm (List.range N) := by
 have hb0 : ∀ z ∈ zs, 0 ≤ z := fun z hz => (hb z hz).1
 rw [List.perm_ext_iff_of_nodup]
 ·intro i
  rw [List.mem_append, List.mem_filter, jsOf_mem hb0, List.mem_range]
  unfold keep
  by_cases h : (i : Int) ∈ zs
  ·have := hb _ h
   simp [h]
   omega
  simp [h]
 ·rw [List.nodup_append]
  refine ⟨List.Nodup.sublist List.filter_sublist List.nodup_range, jsOf_nodup hb0 hnd, fun a ha b hb' e => ?_⟩
  subst e
  have h1 := (List.mem_filter.1 ha).2
  unfold keep at h1
  rw [decide_eq_true ((jsOf_mem hb0).1 hb')] at h1
  cases h1
 exact List.nodup_range
theorem some_kept {zs : List Int} {N : Nat} (h : zs.length ≤ 2) (hN : 4 ≤ N) : ∃ i, i < N ∧ keep zs i = true := by
 unfold keep
 match zs, h with
 | [], _ => exact ⟨0, by omega, by simp⟩
 | [a], _ =>
  by_cases e : a = 0
  ·exact ⟨1, by omega, by simp; omega⟩
  exact ⟨0, by omega, by simp; omega⟩
 | [a, b], _ =>
  by_cases e : a = 0 ∨ b = 0
  ·by_cases e2 : a = 1 ∨ b = 1
   ·exact ⟨2, by omega, by simp; omega⟩
   exact ⟨1, by omega, by simp; omega⟩
  exact ⟨0, by omega, by simp; omega⟩
theorem made_nils (m : Nat) : madeCells (Value.cells (.slice none 0 0)) (m * 1) = (List.replicate m (Value.slice none 0 0)).toArray := by
 apply Array.ext'
 apply List.ext_getElem?
 intro j
 by_cases hj : j < m
 ·simp [madeCells, Value.cells, hj, Nat.mod_one]
 simp [madeCells, Value.cells, hj]
theorem run_nils (m : Nat) (hm : m ≤ 1000000) (w : World) : (Instr.makeSlice 25 (.int .i64 (m : Int)) (.int .i64 (m : Int))).run Tryz.prog w = .ok (.slice (some ⟨w.heap.size, 0, none⟩) m m) (w.alloc (.cells (List.replicate m (Value.slice none 0 0)).toArray 47)) := by
 obtain ⟨i0, hi0, hz0, hz1, hz2⟩ := info_parts infoR
 have h := run_make (P := Tryz.prog) w 25 47 i0 (.slice none 0 0) Tryz.underlying25 hi0 hz0 .i64 .i64 m m (by omega) (by omega) (by rw [hz2]; omega) (by omega)
 rw [hz1, Int.toNat_natCast, made_nils] at h
 exact h
theorem three_alloc (w : World) (o0 o1 o2 : Obj) : ∃ W, ((w.alloc o0).alloc o1).alloc o2 = W ∧ W.heap[w.heap.size]? = some o0 ∧ W.heap[w.heap.size + 1]? = some o1 ∧ W.heap[w.heap.size + 1 + 1]? = some o2 ∧ Below w.heap.size w W ∧ W.heap.size = w.heap.size + 3 := by
 obtain ⟨h0, h1, h2, h3⟩ := three_new w o0 o1 o2
 exact ⟨_, rfl, h0, h1, h2, ⟨h3.os, h3.tape, h3.output, h3.size, h3.block⟩, by simp⟩
theorem Arg.kept {W W' : World} {v : Value} {g : Nat} {s : List Nat} {row : Option Nat} (h : Arg W v g s) (hg : W.grownBy W' row) (hr : ∀ r, row = some r → ∃ o : Obj, W.heap[r]? = some o ∧ o.isCells = false) : Arg W' v g s := by
 obtain ⟨⟨ao, c, h1, h2, h3, h4, h5⟩, hb⟩ := h
 refine ⟨⟨ao, c, h1, h2, h3, h4, ?_⟩, hb⟩
 rcases h5 with h0 | ⟨o, ho, hc⟩
 ·exact .inl h0
 exact .inr ⟨o, ho, fun j hj => cell_kept (hc j hj) hg hr⟩
theorem RArg.kept {W W' : World} {v : Value} {G : Nat} {A : Nat → Option Addr} {C : Nat → Nat} {l : List (List Nat)} {row : Option Nat} (h : RArg W v G A C l) (hg : W.grownBy W' row) (hr : ∀ r, row = some r → ∃ o : Obj, W.heap[r]? = some o ∧ o.isCells = false) : RArg W' v G A C l := by
 obtain ⟨⟨ao, c, h1, h2, h3, h4, h5⟩, hb⟩ := h
 refine ⟨⟨ao, c, h1, h2, h3, h4, ?_⟩, fun i hi => by obtain ⟨g, h⟩ := hb i hi; exact ⟨g, h.kept hg hr⟩⟩
 rcases h5 with h0 | ⟨o, ho, hc⟩
 ·exact .inl h0
 exact .inr ⟨o, ho, fun j hj => cell_kept (hc j hj) hg hr⟩
theorem Fr.kept {n : Nat} {W W' : World} {v : Value} {s : List Nat} {row : Option Nat} (h : Fr n W v s) (hg : W.grownBy W' row) (hr : ∀ r, row = some r → ∃ o : Obj, W.heap[r]? = some o ∧ o.isCells = false) : Fr n W' v s := by
 rcases h with h | ⟨g, c, h1, h2, h3, h4, h5⟩
 ·exact .inl h
 obtain ⟨cur, e, hc⟩ := h4
 exact .inr ⟨g, c, h1, h2, h3, ⟨cur, (cells_stay e hg hr).trans e, hc⟩, h5⟩
def cA (cur : Array Value) (i : Nat) : Option Addr := match cur[i]? with
 | some (.slice a _ _) => a
 | _ => none
def cC (cur : Array Value) (i : Nat) : Nat := match cur[i]? with
 | some (.slice _ _ c) => c
 | _ => 0
theorem fst_rarg {d lo gp gq gR n N : Nat} {W : World} {is : List Nat} {cur : Array Value} {out : List (List Nat)} (h : FSt d W lo gp gq gR n N is cur out) (hall : ∀ i, i < N → i ∈ is) (hN : N ≤ 1000) : RArg W (.slice (some ⟨gR, 0, none⟩) N N) gR (cA cur) (cC cur) out := by
 have key : ∀ i, i < N → cur[i]? = some (.slice (cA cur i) (out.getD i []).length (cC cur i)) ∧ ∃ g, Arg W (.slice (cA cur i) (out.getD i []).length (cC cur i)) g (out.getD i []) := fun i hi => by
  obtain ⟨_, _, v, h3, h4⟩ := h.rows i (hall i hi)
  obtain ⟨g, hA, _⟩ := h4.arg (h.bs i)
  obtain ⟨ao, c, hv, _⟩ := hA.ex
  have e1 : cA cur i = ao := by unfold cA; rw [h3, hv]
  have e2 : cC cur i = c := by unfold cC; rw [h3, hv]
  rw [e1, e2, ← hv]
  exact ⟨h3, g, hA⟩
 refine ⟨⟨some ⟨gR, 0, none⟩, N, by rw [h.len], by rw [h.len]; exact Nat.le_refl _, by unfold maxLen; omega, (fun h => by cases h), .inr ⟨0, rfl, fun j hj => ?_⟩⟩, fun i hi => (key i (by rw [← h.len]; exact hi)).2⟩
 rw [h.len] at hj
 rw [Nat.zero_add]
 simp only [World.cell?, h.R]
 exact (key j hj).1
theorem keeps_kp {W W' : World} {g : Nat} {cs : Array Value} {t : TypeId} {f : Nat × Nat} (h : Kp [g] W W') (hb : W.heap[g]? = some (.cells cs t f)) : KeepsOthers W W' :=
 ⟨h.size, fun k o ho hc => by
  by_cases e : k = g
  ·subst e
   rw [hb] at ho
   cases ho
   simp [Obj.isCells] at hc
  exact h.heap ho (by simpa using e)⟩
def keptL (l : List (List Nat)) (zs : List Int) (N : Nat) : List (List Nat) := (List.range N).map (fun i => if keep zs i = true then l.getD i [] else [])
theorem keptL_get {l : List (List Nat)} {zs : List Int} {N i : Nat} (hi : i < N) (hk : keep zs i = true) : (keptL l zs N).getD i [] = l.getD i [] := by
 unfold keptL
 rw [List.getD_eq_getElem?_getD, List.getElem?_map, List.getElem?_range hi]
 simp [hk]
theorem keptL_bs {l : List (List Nat)} {zs : List Int} {N : Nat} (hb : ∀ i, Bs (l.getD i [])) (i : Nat) : Bs ((keptL l zs N).getD i []) := by
 by_cases hi : i < N
 ·by_cases hk : keep zs i = true
  ·rw [keptL_get hi hk]; exact hb i
  unfold keptL
  rw [List.getD_eq_getElem?_getD, List.getElem?_map, List.getElem?_range hi]
  simp [hk, Bs.nil]
 unfold keptL
 rw [List.getD_eq_getElem?_getD, List.getElem?_eq_none (by simp; omega)]
 exact Bs.nil
theorem keptL_sm {l : List (List Nat)} {zs : List Int} {N n : Nat} (c : Nat → Nat) : smL c (keptL l zs N) ((List.range N).filter (keep zs)) n = smL c l ((List.range N).filter (keep zs)) n :=
 List.map_congr_left (fun k _ => xsum_congr (fun i hi => by
  have h := List.mem_filter.1 hi
  show gmul (rc (keptL l zs N) i k) (c i) = _
  unfold rc
  rw [keptL_get (List.mem_range.1 h.1) h.2]))
theorem fix_of {d n N lo gp gq gR : Nat} {W : World} {zs : List Int} {l out out' : List (List Nat)} {cur : Array Value} (hl : l.length = N) (hN : N = d + 2) (hpk : pk zs N = true) (hsz : ∀ i, i < N → keep zs i = true → (l.getD i []).length = n)
  (hout : ∀ i, i < N → keep zs i = true → out.getD i [] = l.getD i []) (hF : FSt d W lo gp gq gR n N ((List.range N).filter (keep zs) ++ jsOf d zs) cur out') (hD : Done d n zs ((List.range N).filter (keep zs)) out out') : IsFix l zs out' n := by
 obtain ⟨hz2, hzb, hznd⟩ := pk_parts hpk
 have hb0 : ∀ z ∈ zs, 0 ≤ z := fun z hz => (hzb z hz).1
 have hperm := all_perm (d := d) hzb hznd
 have hd : N - 2 = d := by omega
 have hsum : ∀ (c : Nat → Nat) (k : Nat), k < n → smL c out' ((List.range N).filter (keep zs) ++ jsOf d zs) n = List.replicate n 0 → sm c out' (List.range N) k = 0 := fun c k hk h => by
  have h1 := congrArg (fun s => cf s k) h
  simp only [cf_smL, if_pos hk, cf_replicate] at h1
  rw [← h1]
  exact (xsum_perm hperm).symm
 refine ⟨by rw [hF.len, hl], fun i hi => hsz i (by rw [← hl]; exact hi), fun i hi => ?_, fun i hi hk => ?_, hF.bs, ?_, ?_⟩
 ·exact (hF.rows i (hperm.mem_iff.2 (List.mem_range.2 (by rw [← hl]; exact hi)))).2.1
 ·rw [hl] at hi
  rw [hD.same i (fun hm => by
   have := (jsOf_mem hb0).1 hm
   unfold keep at hk
   rw [decide_eq_true this] at hk
   cases hk)]
  exact hout i hi hk
 ·rw [hl, hd]
  rintro ⟨z, hz, hne⟩ k hk
  exact hsum _ k hk (hD.pz (fun e => by
   have := inP_mem.2 ⟨hz, hne⟩
   rw [e] at this
   simp at this))
 rw [hl, hd]
 intro hq k hk
 refine hsum _ k hk (hD.qz ?_)
 rcases hq with hq | hq
 ·by_cases hDm : ((d + 1 : Nat) : Int) ∈ zs
  ·exact .inr hDm
  left
  have : inP d zs = zs := by
   unfold inP
   rw [List.filter_eq_self]
   intro z hz
   simp only [decide_eq_true_eq]
   intro e
   rw [e] at hz
   exact hDm hz
  rw [this, hq]
 exact .inr hq
set_option maxRecDepth 100000 in
set_option maxHeartbeats 16000000 in
theorem fix_any (v : Value) (G : Nat) (A : Nat → Option Addr) (C : Nat → Nat) (l : List (List Nat)) (vz : Value) (gz : Nat) (zs : List Int) (w : World) (hA : RArg w v G A C l) (hZ : ZArg w vz gz zs) (hlen : ∀ i, (l.getD i []).length ≤ 100000) :
  Calls Tryz.prog 68 #[v, vz] w fun e w' => Below w.heap.size w w' ∧ ((fixOk l zs = true ∧ ∃ v' G' A' C' out n, e = .returned (.tuple #[v', .bool true]) ∧ RArg w' v' G' A' C' out ∧ IsFix l zs out n) ∨ (fixOk l zs = false ∧ e = .returned (.tuple #[.slice none 0 0, .bool false]))) := by
 obtain ⟨ao, c, hv, hc1, hc2, hnil, hrow⟩ := hA.ex
 obtain ⟨za, zc, hvz, _⟩ := hZ.ex
 have HA := hide hA
 have HZ := hide hZ
 have HLEN := hide hlen
 have HROW := hide hrow
 clear hrow hlen hA hnil hZ
 subst hv
 subst hvz
 obtain ⟨N, hN⟩ : ∃ N, l.length = N := ⟨_, rfl⟩
 obtain ⟨zl, hzl⟩ : ∃ zl, zs.length = zl := ⟨_, rfl⟩
 rw [hN] at hc1 HA HROW ⊢
 rw [hzl] at HZ ⊢
 have HN := hide hN
 have HZL := hide hzl
 clear hN hzl
 have hNm : (N : Int) ≤ 9223372036854775807 := by unfold maxLen at hc2; omega
 have HOKe : Hid (fixOk l zs = (pk zs N && decide (4 ≤ N) && decide (N ≤ 16) && evK l zs)) := by show _ = _; unfold fixOk; rw [uh HN]
 refine (callsIn_wide (n := 3)).1 ?_
 refine callsIn_of_wp_marks Tryz.func68 rfl trivial ?_ rfl
 simp only [Tryz.ntmps68, List.size_toArray, List.length_cons, List.length_nil, Nat.reduceAdd, Nat.reduceSub, Array.replicate_succ, Array.replicate_zero, List.push_toArray, List.append_toArray, List.nil_append, List.cons_append]
 gi_wp2
 refine ⟨trivial, (callsIn_wide.2 (picks_any _ gz zs N w (uh HZ))).mono ?_⟩
 rintro e w1 ⟨rfl, hw1⟩
 subst hw1
 cases hpk : pk zs N with
 | false =>
  have HNO : Hid (fixOk l zs = false) := by show _ = _; rw [uh HOKe, hpk]; rfl
  clear hpk
  gi_wp2
  refine ⟨.tuple #[.slice none 0 0, .bool false], ?_, Below.refl _ _, .inr ⟨uh HNO, rfl⟩⟩
  simp [results, Tryz.f68, go_sem]
 | true =>
  have HPK := hide hpk
  clear hpk
  gi_wp2
  refine ⟨trivial, (callsIn_wide.2 (kept_any _ _ w1 ⟨_, _, _, rfl⟩ ⟨_, _, _, rfl⟩)).mono ?_⟩
  rintro e w2 ⟨rfl, hcb1, hcb2, hz2, hk⟩
  have HB := hide hk
  have HCB1 := hide hcb1
  have HCB2 := hide hcb2
  clear hk hcb1 hcb2
  by_cases hd : 4 ≤ N ∧ N ≤ 16
  ·obtain ⟨hN4, hN16⟩ := hd
   obtain ⟨d, hdN⟩ : ∃ d, N = d + 2 := ⟨N - 2, by omega⟩
   have HDN := hide hdN
   have hd1 : 2 ≤ d ∧ d ≤ 14 := by omega
   obtain ⟨hd2, hd14⟩ := hd1
   have hdi : (N : Int) - 2 = (d : Int) := by omega
   clear hdN
   have HEX : Hid (∃ i, i < N ∧ keep zs i = true) := some_kept (pk_parts (uh HPK)).1 hN4
   have hseq : Seq5 133 #[.pointer (some ⟨w1.heap.size, 0, none⟩), .pointer (some ⟨w1.heap.size + 1, 0, none⟩)] N A (fun i => (l.getD i []).length) C (keep zs) w2 := kept_seq (by omega) (uh HCB1) (uh HCB2) ((uh HZ).below (uh HB)) ((uh HROW).below (uh HB))
   have HSEQ := hide hseq
   clear hseq
   gi_wp2
   refine ⟨trivial, (callsIn_wide.2 (sumsOf_any _ _ N A C (keep zs) l d w2 (uh HSEQ) (fun i hi => by obtain ⟨g, hg⟩ := (uh HA).rows i (by rw [uh HN]; exact hi); exact ⟨g, hg.below (uh HB)⟩) (uh HA).bs hd2 hd14 (by omega) (uh HEX) (uh HLEN))).mono ?_⟩
   rintro e w3 ⟨hk, h⟩
   have HB3 := hide ((uh HB).trans (hk.mono (uh HB).size))
   have HSEQ3 := hide ((uh HSEQ).below hk)
   have hz23 := hk.size
   clear hk HSEQ
   rcases h with ⟨n, gp, gq, rfl, hn, hpq, hgp, hgq, hP, hQ⟩ | ⟨rfl, i, j, hi, hj, hki, hkj, hne⟩
   ·have hmk := run_nils N (by omega)
    obtain ⟨zz, hzz⟩ : ∃ z, (List.replicate N (Value.slice none 0 0)).toArray = z := ⟨_, rfl⟩
    have HZZ : Hid (zz.size = N) := by show _ = _; rw [← hzz]; simp
    rw [hzz] at hmk
    clear hzz
    have HP := hide hP
    have HQ := hide hQ
    have HNN := hide hn
    clear hP hQ hn
    have hn5 : n ≤ 100000 := by
     obtain ⟨i0, hi0, hk0⟩ := uh HEX
     rw [← uh HNN i0 hi0 hk0]
     exact uh HLEN i0
    unfold sv
    gi_wp2
    obtain ⟨W, hW, hW0, hW1, hW2, hkW, hzW⟩ := three_alloc w3 (.cells #[.int .i64 (d : Int), .slice (some ⟨gp, 0, none⟩) n n, .slice (some ⟨gq, 0, none⟩) n n] 103) (.cells zz 47) (.cells #[.slice (some ⟨w3.heap.size + 1, 0, none⟩) N N] 25)
    rw [hW]
    have HW0 := hide hW0
    have HW1 := hide hW1
    have HW2 : Hid (Box W (w3.heap.size + 1 + 1) (.slice (some ⟨w3.heap.size + 1, 0, none⟩) N N)) := .of (cell_of_box hW2)
    have HBW := hide ((uh HB3).trans (hkW.mono (uh HB3).size))
    have HKW := hide hkW
    have hpl := (uh HP).lt
    have hql := (uh HQ).lt
    replace HP := hide ((uh HP).below hkW hpl)
    replace HQ := hide ((uh HQ).below hkW hql)
    have hz1 := (uh HB).size
    clear hW hW0 hW1 hW2 hkW hmk
    refine wpIn_rangeFunc_ownF rfl (by omega) (gf := 133) (lb := #[.pointer (some ⟨w1.heap.size, 0, none⟩), .pointer (some ⟨w1.heap.size + 1, 0, none⟩)]) rfl trivial (uh HSEQ3).enters
     ((uh HSEQ3).seq W [w3.heap.size + 1] W.heap.size (uh HKW) (by simp) (by omega))
     (fun h k => h.trans k) (kq_b (Nat.le_refl _)) (Below.refl _ _) (fun _ => rfl)
     (fun pre W' => (∃ cur, W'.heap[w3.heap.size + 1]? = some (.cells cur 47 (0, 0)) ∧ cur.size = N ∧ ∀ x ∈ pre, ∃ v, cur[x.val]? = some v ∧ Fr W.heap.size W' v (l.getD x.val [])) ∧ Kp [w3.heap.size + 1] W W')
     (fun _ _ _ => False)
     (OwnFrom.and (Own.from (fun s A B row hs hg hr => by
      obtain ⟨cur, h1, h2, h3⟩ := hs
      exact ⟨cur, (cells_stay h1 hg hr).trans h1, h2, fun x hx => by obtain ⟨v, h4, h5⟩ := h3 x hx; exact ⟨v, h4, h5.kept hg hr⟩⟩) _) (ownFrom_kp (Nat.le_refl _)))
     (fun _ _ _ _ _ hs _ _ => hs)
     ⟨⟨zz, uh HW1, uh HZZ, by simp⟩, Kp.refl _ _⟩
     (fun x => { tmps := #[.slice ao N c, .slice za zl zc, undef, undef, .slice none 0 0, .bool false, .func (.func 133) #[] #[.pointer (some ⟨w1.heap.size, 0, none⟩), .pointer (some ⟨w1.heap.size + 1, 0, none⟩)], .pointer (some ⟨w3.heap.size, 0, none⟩), .bool true, .pointer (some ⟨w3.heap.size + 1 + 1, 0, none⟩), .int .i64 x.val, .slice (A x.val) (l.getD x.val []).length (C x.val), .slice za zl zc, .slice ao N c, .int .i64 (N : Int), .bool true, .bool false, .slice ao N c, .slice za zl zc, .func (.func 133) #[] #[.pointer (some ⟨w1.heap.size, 0, none⟩), .pointer (some ⟨w1.heap.size + 1, 0, none⟩)], .tuple #[.agg #[.int .i64 (d : Int), .slice (some ⟨gp, 0, none⟩) n n, .slice (some ⟨gq, 0, none⟩) n n], .bool true], .func (.func 133) #[] #[.pointer (some ⟨w1.heap.size, 0, none⟩), .pointer (some ⟨w1.heap.size + 1, 0, none⟩)], .slice ao N c, .int .i64 (N : Int), .int .i64 (d : Int), .tuple #[.agg #[.int .i64 (d : Int), .slice (some ⟨gp, 0, none⟩) n n, .slice (some ⟨gq, 0, none⟩) n n], .bool true], .agg #[.int .i64 (d : Int), .slice (some ⟨gp, 0, none⟩) n n, .slice (some ⟨gq, 0, none⟩) n n], .bool true, .bool true, .bool false, .slice ao N c, .int .i64 (N : Int), .slice (some ⟨w3.heap.size + 1, 0, none⟩) N N, .func (.func 133) #[] #[.pointer (some ⟨w1.heap.size, 0, none⟩), .pointer (some ⟨w1.heap.size + 1, 0, none⟩)], .int .i64 x.val, .slice (A x.val) (l.getD x.val []).length (C x.val), undef, undef, undef, undef, undef, undef, undef, undef, undef, undef], defers := [] }) ?assign ?body ?done ?stop
    case assign =>
     intro l x W K hK
     gi_wp2
     exact hK
    case body =>
     rintro l0 pre x W4 ⟨⟨cur, hcR, hcs, hpre⟩, hK4⟩ _
     have hxn := uh HNN x.val x.2.1 x.2.2
     have hxN := x.2.1
     obtain ⟨g, hAx⟩ := (uh HA).rows x.val (by rw [uh HN]; exact hxN)
     have hB4 : Below w1.heap.size w1 W4 := below_kp (uh HBW) hK4 (by simp; omega) (uh HBW).size
     have HAX : Hid (Arg W4 (.slice (A x.val) n (C x.val)) g (l.getD x.val [])) := by
      show Arg _ _ _ _
      rw [← hxn]
      exact hAx.below hB4
     have HCR := hide hcR
     have HCS := hide hcs
     have HPRE := hide hpre
     have HK4 := hide hK4
     have HXN := hide hxn
     have HBX := hide ((uh HW2).kp hK4 (by simp)).c
     have hzx := hK4.size
     have hxi : (x.val : Int) < (N : Int) := by omega
     obtain ⟨x0, hx0⟩ : ∃ x0, W4.cell? ⟨w3.heap.size + 1, x.val, none⟩ = some x0 := by
      have : x.val < cur.size := by omega
      exact ⟨cur[x.val], by simp [World.cell?, hcR, this]⟩
     have HX0 := hide hx0
     have HXF : Hid (W4.frozen? ⟨w3.heap.size + 1, x.val, none⟩ = false) := by show _ = _; simp [World.frozen?, hcR]
     dsimp only
     rw [hxn]
     clear hcR hcs hpre hK4 hAx hB4 hxn hx0
     gi_wp2
     refine wpIn_region_round (S := fun W' => Kp [w3.heap.size + 1] W4 W') (by kernel_rfl) (by kernel_rfl) (fun ⟨_, _, h⟩ => h) ((Kp.refl _ _).drew) (fun hHeld => ?_)
     have HH := hide hHeld
     clear hHeld
     refine tkW 0 (v := ?_) ?_ (uh HH) ?_
     rotate_left 1
     ·intro W1 hSW; have hc := hSW.cell (uh HBX) (by simp); clear hSW; go_simp; all_goals (with_reducible rfl)
     (try simp only [layB])
     refine tkL 1 (uh HH) ?_
     (try simp only [layB])
     refine tkL 2 (uh HH) ?_
     (try simp only [layB])
     refine wpAnyH_ready (rs := [3]) (by kernel_rfl) (by simp) ?_
     refine consL rfl (fun K hK => ?_) AllReadyH.nil
     go_simp
     refine (cloneB_any5 _ g _ _ ((uh HAX).below (Below.refl _ _).drew) (by rw [uh HXN]; exact hn5)).mono ?_
     rintro e w5 ⟨v5, rfl, hCL, hk4⟩
     obtain ⟨g5, hA5, _⟩ := hCL.arg (uh HAX).bs
     obtain ⟨ao5, c5, hv5, _⟩ := hA5.ex
     subst hv5
     have HCL : Hid (Fr W.heap.size w5 (.slice ao5 (l.getD x.val []).length c5) (l.getD x.val [])) := hCL.lower (by show _ ≤ W4.heap.size; exact hzx)
     rw [uh HXN] at HCL ⊢
     have HX5 := hide ((hk4.cell (p := ⟨w3.heap.size + 1, x.val, none⟩) (block_lt_of_cell (uh HX0))).trans (uh HX0))
     have HXF5 := hide ((World.frozen?_of_block (a := ⟨w3.heap.size + 1, x.val, none⟩) (hk4.block (w3.heap.size + 1) (block_lt_of_cell (uh HX0)))).trans (uh HXF))
     have HCR5 := hide ((hk4.block (w3.heap.size + 1) (block_lt_of_cell (uh HX0))).trans (uh HCR))
     have HK5 := hide hk4
     clear hk4 hCL hA5
     go_wp2_with fail
     refine hK.out _ _ ((uh HH).ofBelow (uh HK5)) (fun hHeld => ?_)
     clear hK K HH
     have HH := hide hHeld
     clear hHeld
     (try simp only [layB])
     refine tkL 4 (uh HH) ?_
     (try simp only [layB])
     refine wpAnyH_ready (rs := [5]) (by kernel_rfl) (by simp) ?_
     refine consL rfl (fun K hK => ?_) AllReadyH.nil
     have hc4 := uh HX5
     have hf4 := uh HXF5
     have HH2 := HH
     go_simp
     refine hK.out _ _ ((uh HH2).setCell ⟨w3.heap.size + 1, x.val, none⟩ _ (.inl (by simp))) (fun hHeld => ?_)
     clear hHeld hK K
     (try simp only [layB])
     refine wpAnyH_done (by kernel_rfl) ?_ _
     have hk9 : Kp [w3.heap.size + 1] W4 (w5.setCell ⟨w3.heap.size + 1, x.val, none⟩ (.slice ao5 n c5)) := (((Kp.refl [w3.heap.size + 1] W4).drew).ofBelow (uh HK5)).setCell _ _ (.inl (by simp))
     have hk8 : Kp [] W4 w5 := ((Kp.refl [] W4).drew).ofBelow (uh HK5)
     have hk7 : Kp [w3.heap.size + 1] w5 (w5.setCell ⟨w3.heap.size + 1, x.val, none⟩ (.slice ao5 n c5)) := (Kp.refl [w3.heap.size + 1] w5).setCell _ _ (.inl (by simp))
     refine ⟨keeps_kp hk9 (uh HCR), kp_kq hk9 hzx, ⟨cur.setIfInBounds x.val (.slice ao5 n c5), heap_setCell_same w5 _ _ _ _ _ (uh HCR5), by simp [uh HCS], fun y hy => ?_⟩, (uh HK4).trans hk9 (by simp)⟩
     have hyy : y ∈ pre ∧ y.val ≠ x.val ∨ y.val = x.val := by
      rcases List.mem_append.1 hy with h | h
      ·by_cases e : y.val = x.val
       ·exact .inr e
       exact .inl ⟨h, e⟩
      exact .inr (by rw [List.mem_singleton.1 h])
     rcases hyy with ⟨h1, h2⟩ | h1
     ·obtain ⟨v, h3, h4⟩ := uh HPRE y h1
      exact ⟨v, by rw [Array.getElem?_setIfInBounds, if_neg (fun e => h2 e.symm)]; exact h3, (h4.kp hk8 (by simp)).kp hk7 (by simp; omega)⟩
     rw [h1]
     exact ⟨_, by simp [uh HCS, hxN], (uh HCL).kp hk7 (by simp; omega)⟩
    case done =>
     rintro D ys W4 hD hys ⟨⟨cur, hcR, hcs, hpre⟩, hK4⟩ hKD
     have hB4 : Below w1.heap.size w1 W4 := below_kp (uh HBW) hK4 (by simp; omega) (uh HBW).size
     have hzx := hK4.size
     have hP4 := (uh HP).of (hK4.block gp (uh HP).lt (by simp; omega))
     have hQ4 := (uh HQ).of (hK4.block gq (uh HQ).lt (by simp; omega))
     have HFS : Hid (FSt d W4 W.heap.size gp gq (w3.heap.size + 1) n N ((List.range N).filter (keep zs)) cur (keptL l zs N)) := by
      refine ⟨by rw [keptL_sm]; exact hP4, by rw [keptL_sm]; exact hQ4, hcR, by simp [keptL], hcs, fun i hi => ?_, keptL_bs (uh HA).bs, by omega, by omega, by omega, hpq⟩
      have hi' := List.mem_filter.1 hi
      have hiN := List.mem_range.1 hi'.1
      rw [keptL_get hiN hi'.2]
      refine ⟨hiN, uh HNN i hiN hi'.2, ?_⟩
      rw [← hys] at hi
      obtain ⟨x, hx, rfl⟩ := List.mem_map.1 hi
      exact hpre x hx
     have HSB : Hid (SBox W4 w3.heap.size d (.slice (some ⟨gp, 0, none⟩) n n) (.slice (some ⟨gq, 0, none⟩) n n)) := (SBox.mk (uh HW0)).kp hK4 (by simp)
     have HBX := hide ((uh HW2).kp hK4 (by simp))
     have HZ4 := hide ((uh HZ).below hB4)
     have HZN : Hid (zs ≠ [] → gz ≠ gp ∧ gz ≠ gq ∧ gz ≠ w3.heap.size + 1) := fun h => by have := (uh HZ).lt h; omega
     have HB4 := hide hB4
     have HKD := hide hKD
     obtain ⟨⟨c0, c1, c2⟩, _⟩ := three_at (uh HSB).h
     have c9 := (uh HBX).c
     clear hcR hcs hpre hK4 hB4 hP4 hQ4 hys hKD
     gi_wp2
     refine ⟨trivial, (callsIn_wide.2 (fill_any d hd14 gp gq (w3.heap.size + 1) n N W.heap.size _ cur _ W4 hzx (uh HFS) zs _ gz (uh HZ4) (uh HZN) (uh HDN) (uh HPK) (fun i hi => (List.mem_filter.1 hi).2) hn5)).mono ?_⟩
     rintro e w5 ⟨⟨u, rfl⟩, cur5, out5, hF5, hk5, hD5⟩
     have HIF : Hid (IsFix l zs out5 n) := fix_of (uh HN) (uh HDN) (uh HPK) (uh HNN) (fun i hi hk => keptL_get hi hk) hF5 hD5
     have hperm := all_perm (d := d) (pk_parts (uh HPK)).2.1 (pk_parts (uh HPK)).2.2
     have HRA := hide (fst_rarg hF5 (fun i hi => hperm.mem_iff.2 (List.mem_range.2 hi)) (by omega))
     have HB5 : Hid (Below w1.heap.size w1 w5) := below_kp (uh HB4) hk5 (by simp; omega) (uh HB4).size
     have HKD5 := hide (hk5.heap (uh HKD) (by simp; omega))
     have hB9 := (uh HBX).kp hk5 (by simp; omega)
     have c95 := hB9.c
     have HOK : Hid (fixOk l zs = true) := by
      show _ = _
      have he : evK l zs = true := decide_eq_true (fun i hi j hj hki hkj => by rw [uh HN] at hi hj; rw [uh HNN i hi hki, uh HNN j hj hkj])
      rw [uh HOKe, uh HPK, he]
      simp
      omega
     clear hF5 hk5 hD5 hperm hB9
     gi_wp2
     refine ⟨by simp, .inl ⟨_, _, rfl, run_takeDeferred (uh HKD5), ?_⟩⟩
     refine ⟨.tuple #[.slice (some ⟨w3.heap.size + 1, 0, none⟩) N N, .bool true], ?_, ?_, .inl ⟨uh HOK, _, _, _, _, out5, n, rfl, (uh HRA).kept (grownBy_putObj' _ D (.deferred none)) (fun r e => by cases e; exact ⟨_, uh HKD5, rfl⟩), uh HIF⟩⟩
     ·simp [results, Tryz.f68, go_sem]
     exact (uh HB5).trans (belowK_b (w := w1) (Nat.le_refl _) _ D _ _ (by omega) (uh HKD5) rfl rfl)
    case stop =>
     rintro D c pre W _ _ h _
     exact h.elim
   have HNO : Hid (fixOk l zs = false) := by
    show _ = _
    have : evK l zs = false := by
     cases he : evK l zs with
     | false => rfl
     | true =>
      have h := of_decide_eq_true (p := ∀ i, i < l.length → ∀ j, j < l.length → keep zs i = true → keep zs j = true → (l.getD i []).length = (l.getD j []).length) he
      exact absurd (h i (by rw [uh HN]; exact hi) j (by rw [uh HN]; exact hj) hki hkj) hne
    rw [uh HOKe, this, Bool.and_false]
   clear hi hj hki hkj hne
   unfold zsv
   gi_wp2
   refine ⟨.tuple #[.slice none 0 0, .bool false], ?_, (uh HB3).trans ((Below.refl _ w3).alloc (Nat.le_refl _) _ |>.mono (uh HB3).size), .inr ⟨uh HNO, rfl⟩⟩
   simp [results, Tryz.f68, go_sem]
  have HNO : Hid (fixOk l zs = false) := by
   show _ = _
   rw [uh HOKe]
   cases hx : pk zs N && decide (4 ≤ N) && decide (N ≤ 16) && evK l zs with
   | false => rfl
   | true =>
    rw [Bool.and_eq_true, Bool.and_eq_true, Bool.and_eq_true, decide_eq_true_eq, decide_eq_true_eq] at hx
    exact absurd ⟨hx.1.1.2, hx.1.2⟩ hd
  gi_wp2
  refine ⟨trivial, (callsIn_wide.2 (sumsOf_not _ ⟨_, _, rfl⟩ ((N : Int) - 2) (by omega) w2)).mono ?_⟩
  rintro e w3 ⟨rfl, hk⟩
  have HB3 := hide ((uh HB).trans (hk.mono (uh HB).size))
  clear hk hd
  unfold zsv
  gi_wp2
  refine ⟨.tuple #[.slice none 0 0, .bool false], ?_, (uh HB3).trans ((Below.refl _ w3).alloc (Nat.le_refl _) _ |>.mono (uh HB3).size), .inr ⟨uh HNO, rfl⟩⟩
  simp [results, Tryz.f68, go_sem]
end Go.Proofs.YtjdikhelabibnaaGreat

namespace Go.Proofs.YtjdikhelabibnaaGreat
open Go.RowKit
theorem xsum_zero_on {f : Nat → Nat} {is js : List Nat} {N : Nat} (hp : (is ++ js).Perm (List.range N)) (h0 : ∀ i ∈ is, f i = 0) : xsum f (List.range N) = xsum f js := by
 rw [← xsum_perm hp, xsum_append, xsum_nought h0, Nat.zero_xor]
theorem shP_D (d : Nat) : shP d (d + 1) = 0 := by unfold shP; rw [if_pos rfl]
theorem shQ_D (d : Nat) : shQ d (d + 1) = 1 := by unfold shQ; rw [if_neg (by omega), if_pos rfl]
theorem supp_zero {d N : Nat} {zs : List Int} {e : Nat → Nat} (hd : d ≤ 14) (hN : N = d + 2) (hpk : pk zs N = true) (he8 : ∀ i, e i < 256) (he : ∀ i, i < N → keep zs i = true → e i = 0)
  (hp : (∃ z ∈ zs, z ≠ ((d + 1 : Nat) : Int)) → xsum (fun i => gmul (e i) (shP d i)) (List.range N) = 0)
  (hq : (zs.length = 2 ∨ ((d + 1 : Nat) : Int) ∈ zs) → xsum (fun i => gmul (e i) (shQ d i)) (List.range N) = 0) : ∀ i, i < N → e i = 0 := by
 obtain ⟨hz2, hzb, hznd⟩ := pk_parts hpk
 have hb0 : ∀ z ∈ zs, 0 ≤ z := fun z hz => (hzb z hz).1
 have hperm := all_perm (d := d) hzb hznd
 have hz : ∀ (c : Nat → Nat), (∀ i, c i < 256) → xsum (fun i => gmul (e i) (c i)) (List.range N) = xsum (fun i => gmul (e i) (c i)) (jsOf d zs) := fun c hcl =>
  xsum_zero_on hperm (fun i hi => by
   have h := List.mem_filter.1 hi
   show gmul (e i) (c i) = 0
   rw [he i (List.mem_range.1 h.1) h.2]
   exact zero_gmul (hcl i))
 have key : ∀ i ∈ jsOf d zs, e i = 0 := by
  have hnat : ∀ z ∈ inP d zs, ∃ a : Nat, z = (a : Int) ∧ a ≤ d := fun z hz => by
   obtain ⟨h1, h2⟩ := inP_mem.1 hz
   have h3 := hzb z h1
   exact ⟨z.toNat, by omega, by omega⟩
  have hl := Nat.le_trans (inP_len d zs) hz2
  by_cases hD : ((d + 1 : Nat) : Int) ∈ zs
  ·match hm : inP d zs, hl, hnat with
   | [], _, _ =>
    have hjs : jsOf d zs = [d + 1] := by unfold jsOf; rw [hm, if_pos hD]; rfl
    have h1 := hq (.inr hD)
    rw [hz _ (shQ_lt d), hjs] at h1
    simp only [xsum_cons, xsum_nil, Nat.xor_zero, shQ_D, gmul_one (he8 _)] at h1
    intro i hi
    rw [hjs] at hi
    rw [List.mem_singleton.1 hi]
    exact h1
   | [z], _, hnat =>
    obtain ⟨a, rfl, ha⟩ := hnat z (by simp)
    have hjs : jsOf d zs = [a, d + 1] := by unfold jsOf; rw [hm, if_pos hD]; simp
    have h1 := hq (.inr hD)
    have h2 := hp ⟨(a : Int), (inP_mem.1 (by rw [hm]; simp)).1, by omega⟩
    rw [hz _ (shQ_lt d), hjs] at h1
    rw [hz _ (shP_lt d), hjs] at h2
    simp only [xsum_cons, xsum_nil, Nat.xor_zero, shQ_D, shP_D, gmul_zero, shP_one ha, gmul_one (he8 _)] at h1 h2
    rw [h2] at h1
    have h3 : gmul 0 (shQ d a) = 0 := zero_gmul (shQ_lt _ _)
    rw [h3, Nat.zero_xor] at h1
    intro i hi
    rw [hjs] at hi
    simp at hi
    rcases hi with rfl | rfl
    ·exact h2
    exact h1
   | [z, y], _, hnat =>
    exfalso
    have h5 : (inP d zs).length < zs.length := by
     unfold inP
     rw [← List.countP_eq_length_filter]
     refine Nat.lt_of_le_of_ne List.countP_le_length (fun e => ?_)
     have := List.countP_eq_length.1 e _ hD
     simp at this
    rw [hm] at h5
    simp at h5
    omega
   | _ :: _ :: _ :: _, hl, _ => simp at hl
  have hin : inP d zs = zs := by
   unfold inP
   rw [List.filter_eq_self]
   intro z hz
   simp only [decide_eq_true_eq]
   intro e
   rw [e] at hz
   exact hD hz
  match hm : inP d zs, hl, hnat with
  | [], _, _ =>
   have hjs : jsOf d zs = [] := by unfold jsOf; rw [hm, if_neg hD]; rfl
   intro i hi
   rw [hjs] at hi
   simp at hi
  | [z], _, hnat =>
   obtain ⟨a, rfl, ha⟩ := hnat z (by simp)
   have hjs : jsOf d zs = [a] := by unfold jsOf; rw [hm, if_neg hD]; simp
   have h2 := hp ⟨(a : Int), (inP_mem.1 (by rw [hm]; simp)).1, by omega⟩
   rw [hz _ (shP_lt d), hjs] at h2
   simp only [xsum_cons, xsum_nil, Nat.xor_zero, shP_one ha, gmul_one (he8 _)] at h2
   intro i hi
   rw [hjs] at hi
   rw [List.mem_singleton.1 hi]
   exact h2
  | [z, y], _, hnat =>
   obtain ⟨a, rfl, ha⟩ := hnat z (by simp)
   obtain ⟨b, rfl, hb⟩ := hnat y (by simp)
   have hjs : jsOf d zs = [b, a] := by unfold jsOf; rw [hm, if_neg hD]; simp
   have hab : a ≠ b := by
    have hnd := hznd
    rw [← hin, hm] at hnd
    simp at hnd
    omega
   have h1 := hq (.inl (by rw [← hin, hm]; rfl))
   have h2 := hp ⟨(a : Int), (inP_mem.1 (by rw [hm]; simp)).1, by omega⟩
   rw [hz _ (shQ_lt d), hjs] at h1
   rw [hz _ (shP_lt d), hjs] at h2
   simp only [xsum_cons, xsum_nil, Nat.xor_zero, shP_one ha, shP_one hb, gmul_one (he8 _)] at h1 h2
   have h3 : e b = e a := xor_nil.1 h2
   rw [h3, ← gmul_xor] at h1
   have h4 : e a = 0 := by
    by_cases h0 : e a = 0
    ·exact h0
    exact absurd h1 (gmul_ne (he8 a) (xor_lt (shQ_lt _ _) (shQ_lt _ _)) h0 (shQ_ne hd hb ha (fun e => hab e.symm)))
   intro i hi
   rw [hjs] at hi
   simp at hi
   rcases hi with rfl | rfl
   ·rw [h3, h4]
   exact h4
  | _ :: _ :: _ :: _, hl, _ => simp at hl
 intro i hi
 by_cases hk : keep zs i = true
 ·exact he i hi hk
 refine key i ((jsOf_mem hb0).2 ?_)
 unfold keep at hk
 simpa using hk
theorem sm_diff {c : Nat → Nat} {x y : List (List Nat)} {is : List Nat} {k : Nat} (hc : ∀ i, c i < 256) (hx : ∀ i, Bs (x.getD i [])) (hy : ∀ i, Bs (y.getD i [])) : xsum (fun i => gmul (rc x i k ^^^ rc y i k) (c i)) is = sm c x is k ^^^ sm c y is k := by
 unfold sm
 rw [← xsum_xor]
 exact xsum_congr (fun i _ => xor_gmul (hx i k) (hy i k) (hc i))
theorem rows_eq {x y : List (List Nat)} {n : Nat} (hl : x.length = y.length) (hx : ∀ i, i < x.length → (x.getD i []).length = n) (hy : ∀ i, i < x.length → (y.getD i []).length = n) (h : ∀ i, i < x.length → ∀ k, k < n → rc x i k = rc y i k) : x = y := by
 refine getD_ext hl (fun i hi => eq_of_cf (by rw [hx i hi, hy i hi]) (fun k => ?_))
 by_cases hk : k < n
 ·exact h i hi k hk
 rw [cf_ge (by rw [hx i hi]; omega), cf_ge (by rw [hy i hi]; omega)]
theorem fix_once {l out out' : List (List Nat)} {zs : List Int} {n : Nat} (h4 : 4 ≤ l.length) (h16 : l.length ≤ 16) (hpk : pk zs l.length = true) (h : IsFix l zs out n) (h' : IsFix l zs out' n) : out = out' := by
 refine rows_eq (by rw [h.len, h'.len]) (fun i hi => h.sz i (by rw [← h.len]; exact hi)) (fun i hi => h'.sz i (by rw [← h.len]; exact hi)) (fun i hi k hk => ?_)
 rw [h.len] at hi
 refine xor_nil.1 (supp_zero (d := l.length - 2) (e := fun i => rc out i k ^^^ rc out' i k) (by omega) (by omega) hpk (fun i => xor_lt (h.bs i k) (h'.bs i k)) (fun i hi hk' => ?_) (fun hz => ?_) (fun hz => ?_) i hi)
 ·show rc out i k ^^^ rc out' i k = 0
  unfold rc
  rw [h.same i hi hk', h'.same i hi hk', Nat.xor_self]
 ·rw [sm_diff (shP_lt _) h.bs h'.bs, h.p hz k hk, h'.p hz k hk, Nat.xor_self]
 rw [sm_diff (shQ_lt _) h.bs h'.bs, h.q hz k hk, h'.q hz k hk, Nat.xor_self]
theorem fixOk_of {l : List (List Nat)} {zs : List Int} {n : Nat} (hpk : pk zs l.length = true) (h4 : 4 ≤ l.length) (h16 : l.length ≤ 16) (hs : ∀ i, i < l.length → keep zs i = true → (l.getD i []).length = n) : fixOk l zs = true := by
 have he : evK l zs = true := decide_eq_true (fun i hi j hj hki hkj => by rw [hs i hi hki, hs j hj hkj])
 unfold fixOk
 rw [hpk, he, decide_eq_true h4, decide_eq_true h16]
 rfl
theorem IsFix.size_eq {l out out' : List (List Nat)} {zs : List Int} {n n' : Nat} (h : IsFix l zs out n) (h' : IsFix l zs out' n') (hz : zs.length ≤ 2) (h4 : 4 ≤ l.length) : n = n' := by
 obtain ⟨i, hi, hk⟩ := some_kept hz h4
 rw [← h.szl i hi hk, h'.szl i hi hk]
def withP (l : List (List Nat)) : List (List Nat) := l ++ [pP l] ++ [pQ l]
theorem withP_len (l : List (List Nat)) : (withP l).length = l.length + 2 := by simp [withP]
theorem withP_get {l : List (List Nat)} {i : Nat} (hi : i < l.length) : (withP l).getD i [] = l.getD i [] := by
 unfold withP
 rw [getD_snoc (by simp; omega), getD_snoc hi]
theorem withP_p (l : List (List Nat)) : (withP l).getD l.length [] = pP l := by
 unfold withP
 rw [getD_snoc (by simp), getD_last]
theorem withP_q (l : List (List Nat)) : (withP l).getD (l.length + 1) [] = pQ l := by
 unfold withP
 have : l.length + 1 = (l ++ [pP l]).length := by simp
 rw [this, getD_last]
theorem withP_facts {l : List (List Nat)} {d s : Nat} (hl : l.length = d) (h2 : 2 ≤ d) (h14 : d ≤ 14) (hs : ∀ i, i < d → (l.getD i []).length = s) (hb : ∀ i, Bs (l.getD i [])) :
  (∀ i, i < d + 2 → ((withP l).getD i []).length = s) ∧ (∀ i, Bs ((withP l).getD i [])) ∧ (∀ k, k < s → sm (shP d) (withP l) (List.range (d + 2)) k = 0) ∧ (∀ k, k < s → sm (shQ d) (withP l) (List.range (d + 2)) k = 0) := by
 obtain ⟨ho, hsz⟩ := okP_of hl h2 h14 hs
 obtain ⟨e1, e2⟩ := par_of ho
 rw [hsz, hl] at e1 e2
 have hB : ∀ i, Bs ((withP l).getD i []) := fun i => by
  by_cases h : i < d
  ·rw [withP_get (by omega)]; exact hb i
  by_cases h' : i = d
  ·rw [h', ← hl, withP_p]; exact (par_bs hb).1
  by_cases h'' : i = d + 1
  ·rw [h'', ← hl, withP_q]; exact (par_bs hb).2
  rw [List.getD_eq_getElem?_getD, List.getElem?_eq_none (by rw [withP_len]; omega)]; exact Bs.nil
 have hsm : ∀ (c : Nat → Nat) (k : Nat), sm c (withP l) (List.range d) k = sm c l (List.range d) k := fun c k => xsum_congr (fun i hi => by
  have := List.mem_range.1 hi
  show gmul (rc (withP l) i k) (c i) = _
  unfold rc
  rw [withP_get (by omega)])
 refine ⟨fun i hi => ?_, hB, fun k hk => ?_, fun k hk => ?_⟩
 ·by_cases h : i < d
  ·rw [withP_get (by omega)]; exact hs i h
  by_cases h' : i = d
  ·rw [h', ← hl, withP_p, e1, smL_len]
  have h'' : i = d + 1 := by omega
  rw [h'', ← hl, withP_q, e2, smL_len]
 ·rw [all_P hB, hsm, xor_nil]
  unfold rc
  rw [← hl, withP_p, e1, cf_smL, if_pos hk, hl]
 rw [all_Q hB, hsm, xor_nil]
 unfold rc
 rw [← hl, withP_q, e2, cf_smL, if_pos hk, hl]
end Go.Proofs.YtjdikhelabibnaaGreat

namespace Go.Proofs.YtjdikhelabibnaaGreat
open Go.RowKit
theorem OwnR.snoc2 {base : Nat} {w w' : World} {v v' : Value} {ps : List (Option Addr × Nat)} {l : List (List Nat)} {a b : Option Addr} {c d : Nat} {r q : List Nat} {n m : Nat} (h : OwnR base w v ps l)
  (ho : w'.ownsRow base 47 1 v' (l.length + 2) (vals5 ps l ++ [.slice a n c, .slice b m d])) (hrows : ∀ i, i < l.length → ∃ g, Arg w' (.slice (psA ps i) (l.getD i []).length (psC ps i)) g (l.getD i [])) (hn : r.length = n) (hm : q.length = m)
  (hr : ∃ g, Arg w' (.slice a n c) g r) (hq : ∃ g, Arg w' (.slice b m d) g q) : OwnR base w' v' (ps ++ [(a, c)] ++ [(b, d)]) (l ++ [r] ++ [q]) := by
 have hl1 : (ps ++ [(a, c)]).length = (l ++ [r]).length := by simp [h.len]
 refine ⟨by simp [h.len], ?_, fun i hi => ?_⟩
 ·have e : (l ++ [r] ++ [q]).length = l.length + 2 := by simp
  rw [vals_snoc hl1, vals_snoc h.len, hn, hm, e, List.append_assoc (vals5 ps l)]
  exact ho
 by_cases e : i < l.length
 ·rw [getD_snoc (by simp; omega), getD_snoc e, (ps_snoc (by simp [h.len]; omega)).1, (ps_snoc (by simp [h.len]; omega)).2, (ps_snoc (by rw [h.len]; exact e)).1, (ps_snoc (by rw [h.len]; exact e)).2]
  exact hrows i e
 by_cases e2 : i = l.length
 ·subst e2
  rw [getD_snoc (by simp), getD_last, (ps_snoc (by simp [h.len])).1, (ps_snoc (by simp [h.len])).2, (ps_last h.len.symm).1, (ps_last h.len.symm).2, hn]
  exact hr
 have e3 : i = (l ++ [r]).length := by simp at hi ⊢; omega
 subst e3
 rw [getD_last, (ps_last hl1.symm).1, (ps_last hl1.symm).2, hm]
 exact hq
structure Torn (w8 W : World) (gT N : Nat) (ps : List (Option Addr × Nat)) (t : List (List Nat)) : Prop where
 cells : ∃ cur, W.heap[gT]? = some (.cells cur 47 (0, 0)) ∧ ∀ j, j < N → cur[j]? = some (.slice (psA ps j) (t.getD j []).length (psC ps j))
 pl : ps.length = N
 tl : t.length = N
 rows : ∀ j, j < N → ∃ g, Arg w8 (.slice (psA ps j) (t.getD j []).length (psC ps j)) g (t.getD j [])
 below : Below w8.heap.size w8 W
 hg : w8.heap.size ≤ gT
theorem Torn.lt {w8 W : World} {gT N : Nat} {ps : List (Option Addr × Nat)} {t : List (List Nat)} (h : Torn w8 W gT N ps t) : gT < W.heap.size := by
 obtain ⟨cur, h1, _⟩ := h.cells
 exact lt_of_block h1
theorem Torn.cell {w8 W : World} {gT N : Nat} {ps : List (Option Addr × Nat)} {t : List (List Nat)} (h : Torn w8 W gT N ps t) {j : Nat} (hj : j < N) : W.cell? ⟨gT, j, none⟩ = some (.slice (psA ps j) (t.getD j []).length (psC ps j)) ∧ W.frozen? ⟨gT, j, none⟩ = false := by
 obtain ⟨cur, h1, h2⟩ := h.cells
 exact ⟨by simp [World.cell?, h1, h2 j hj], by simp [World.frozen?, h1]⟩
theorem Torn.more {w8 W W' : World} {gT N : Nat} {ps : List (Option Addr × Nat)} {t : List (List Nat)} (h : Torn w8 W gT N ps t) (k : Below W.heap.size W W') : Torn w8 W' gT N ps t := by
 obtain ⟨cur, h1, h2⟩ := h.cells
 exact ⟨⟨cur, (k.block gT h.lt).trans h1, h2⟩, h.pl, h.tl, h.rows, h.below.trans (k.mono h.below.size), h.hg⟩
theorem ps_set {ps : List (Option Addr × Nat)} {i j : Nat} {a : Option Addr} {c : Nat} (hi : i < ps.length) : psA (ps.set i (a, c)) j = (if i = j then a else psA ps j) ∧ psC (ps.set i (a, c)) j = (if i = j then c else psC ps j) := by
 unfold psA psC
 rw [List.getD_eq_getElem?_getD, List.getD_eq_getElem?_getD, List.getElem?_set]
 by_cases e : i = j
 ·subst e; simp [hi]
 rw [if_neg e, if_neg e, if_neg e]
 exact ⟨rfl, rfl⟩
theorem Torn.set {w8 W : World} {gT N : Nat} {ps : List (Option Addr × Nat)} {t : List (List Nat)} (h : Torn w8 W gT N ps t) {i : Nat} (hi : i < N) {a : Option Addr} {c g : Nat} {r : List Nat} (hr : Arg w8 (.slice a r.length c) g r) : Torn w8 (W.setCell ⟨gT, i, none⟩ (.slice a r.length c)) gT N (ps.set i (a, c)) (t.set i r) := by
 have hpl : i < ps.length := by rw [h.pl]; exact hi
 have htl : i < t.length := by rw [h.tl]; exact hi
 refine ⟨?_, by rw [List.length_set]; exact h.pl, by rw [List.length_set]; exact h.tl, fun j hj => ?_, h.below.setCell (p := ⟨gT, i, none⟩) h.hg _, h.hg⟩
 ·obtain ⟨cur, h1, h2⟩ := h.cells
  refine ⟨cur.setIfInBounds i (.slice a r.length c), heap_setCell_same W gT i _ _ _ h1, fun j hj => ?_⟩
  rw [(ps_set hpl).1, (ps_set hpl).2, getD_set htl, Array.getElem?_setIfInBounds]
  by_cases e : i = j
  ·subst e
   have : i < cur.size := (Array.getElem?_eq_some_iff.1 (h2 i hi)).1
   simp [this]
  rw [if_neg e, if_neg e, if_neg e, if_neg e]
  exact h2 j hj
 rw [(ps_set hpl).1, (ps_set hpl).2, getD_set htl]
 by_cases e : i = j
 ·rw [if_pos e, if_pos e, if_pos e]
  exact ⟨g, hr⟩
 rw [if_neg e, if_neg e, if_neg e]
 exact h.rows j hj
theorem Torn.arg {w8 W : World} {gT N c : Nat} {ps : List (Option Addr × Nat)} {t : List (List Nat)} (h : Torn w8 W gT N ps t) (h1 : N ≤ c) (h2 : c ≤ maxLen) : RArg W (.slice (some ⟨gT, 0, none⟩) N c) gT (psA ps) (psC ps) t :=
 ⟨⟨some ⟨gT, 0, none⟩, c, by rw [h.tl], by rw [h.tl]; exact h1, h2, (fun h => by cases h), .inr ⟨0, rfl, fun j hj => by rw [Nat.zero_add]; exact (h.cell (by rw [← h.tl]; exact hj)).1⟩⟩, fun i hi => by
  obtain ⟨g, hg⟩ := h.rows i (by rw [← h.tl]; exact hi)
  exact ⟨g, hg.below h.below⟩⟩
end Go.Proofs.YtjdikhelabibnaaGreat

namespace Go.Proofs.YtjdikhelabibnaaGreat
open Go.RowKit
section
variable {P : Program} (w : World)
end
theorem places_z {base : Nat} {w : World} {v : Value} {ps : List Nat} {n : Nat} (h : OwnI base w v ps) (hn : n ≤ 1000) (hb : ∀ k ∈ ps, k < n) : ∃ g, ZArg w v g (ints ps) ∧ base ≤ g := by
 obtain ⟨g, ⟨ao, c, h1, h2, h3, h4, h5⟩, hg⟩ := h.arg
 refine ⟨g, ⟨⟨ao, c, by rw [ints_len]; exact h1, by rw [ints_len]; exact h2, h3, h4, h5⟩, fun z hz => ?_⟩, hg⟩
 obtain ⟨k, hk, rfl⟩ := List.mem_map.1 hz
 have := hb k hk
 omega
end Go.Proofs.YtjdikhelabibnaaGreat
