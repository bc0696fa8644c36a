/-
  
-/
import Derived.Test.YtjdikhelabibnaaGreatMaj
import Derived.ScopeJumps
import Derived.WalkMore
namespace Go.Proofs.YtjdikhelabibnaaGreat
open Go.RowKit
theorem addF_self {P : List Nat} (h : Bs P) : addF P P 1 = List.replicate P.length 0 := by
 refine eq_of_cf (by rw [addF_len]; simp) (fun j => ?_)
 rw [cf_addF, cf_replicate]
 split
 ·rw [gmul_one (h j), Nat.xor_self]
 rfl
theorem addF_none {P r : List Nat} : addF P r 0 = P := by
 refine eq_of_cf (addF_len _ _ _) (fun j => ?_)
 rw [cf_addF]
 split
 ·rw [gmul_zero, Nat.xor_zero]
 rw [cf_ge (by omega)]
theorem shQ_ne {d i j : Nat} (hd : d ≤ 14) (hi : i ≤ d) (hj : j ≤ d) (hne : i ≠ j) : shQ d i ^^^ shQ d j ≠ 0 := by
 rw [Ne, xor_nil]
 have hE : ∀ {a b : Nat}, a ≤ 14 → b ≤ 14 → E a = E b → a = b := fun ha hb h => by
  have h1 : L (E _) = L (E _) := congrArg L h
  rw [L_E (by omega), L_E (by omega)] at h1
  exact h1
 unfold shQ
 have n1 : i ≠ d + 1 := by omega
 have n2 : j ≠ d + 1 := by omega
 rw [if_neg n1, if_neg n2]
 by_cases e1 : i = d
 ·rw [if_pos e1]
  by_cases e2 : j = d
  ·omega
  rw [if_neg e2]
  have := E_ne j
  omega
 rw [if_neg e1]
 by_cases e2 : j = d
 ·rw [if_pos e2]
  have := E_ne i
  omega
 rw [if_neg e2]
 exact fun h => hne (hE (by omega) (by omega) h)
theorem two_zero {P Q : List Nat} {a b n : Nat} (hP : Bs P) (hQ : Bs Q) (ha : a < 256) (hb : b < 256) (hne : a ^^^ b ≠ 0) (hl1 : P.length = n) (hl2 : Q.length = n) : addF (addF Q (partL P Q a b n) a) (addF P (partL P Q a b n) 1) b = List.replicate n 0 := by
 refine eq_of_cf (by rw [addF_len, addF_len, hl2]; simp) (fun k => ?_)
 rw [cf_addF, addF_len, hl2, cf_replicate]
 by_cases hk : k < n
 ·rw [if_pos hk, cf_addF, if_pos (by omega), cf_addF, if_pos (by omega)]
  have hx : cf (partL P Q a b n) k = partF P Q a b k := by unfold partL; rw [cf_fillK, if_pos hk, if_pos hk]
  have hxl : partF P Q a b k < 256 := gmul_lt (xor_lt (hQ k) (gmul_lt (hP k)))
  rw [hx, gmul_one hxl, xor_gmul (hP k) hxl hb]
  have hs : a ^^^ b < 256 := xor_lt ha hb
  have hT : cf Q k ^^^ gmul (cf P k) b < 256 := xor_lt (hQ k) (gmul_lt (hP k))
  have hm : gmul (partF P Q a b k) (a ^^^ b) = cf Q k ^^^ gmul (cf P k) b := by
   unfold partF
   rw [gmul_assoc hT (pw_lt _ _) hs, gmul_comm (pw_lt _ _) hs, gmul_inv hs hne, gmul_one hT]
  rw [gmul_xor] at hm
  generalize gmul (partF P Q a b k) a = u at *
  generalize gmul (partF P Q a b k) b = v at *
  generalize gmul (cf P k) b = t at *
  generalize cf Q k = q at *
  have e : q ^^^ u ^^^ (t ^^^ v) = (u ^^^ v) ^^^ (q ^^^ t) := by
   rw [Nat.xor_assoc, Nat.xor_comm (u ^^^ v), ← Nat.xor_assoc u, Nat.xor_comm u t, Nat.xor_assoc t, ← Nat.xor_assoc]
  rw [e, hm, Nat.xor_self]
 rw [if_neg hk]
theorem getD_set {l : List (List Nat)} {i j : Nat} {r : List Nat} (hi : i < l.length) : (l.set i r).getD j [] = if i = j then r else l.getD j [] := by
 rw [List.getD_eq_getElem?_getD, List.getD_eq_getElem?_getD, List.getElem?_set]
 by_cases e : i = j
 ·subst e; simp [hi]
 rw [if_neg e, if_neg e]
theorem sm_set {c : Nat → Nat} {l : List (List Nat)} {is : List Nat} {i k : Nat} {r : List Nat} (hi : i < l.length) (h : i ∉ is) : sm c (l.set i r) is k = sm c l is k := xsum_congr (fun j hj => by
 show gmul (rc (l.set i r) j k) (c j) = _
 unfold rc
 rw [getD_set hi, if_neg (fun e => h (by rw [e]; exact hj))])
theorem addF_set {c : Nat → Nat} {l : List (List Nat)} {is : List Nat} {i n : Nat} {r : List Nat} (hi : i < l.length) (h : i ∉ is) : smL c (l.set i r) (is ++ [i]) n = addF (smL c l is n) r (c i) := by
 rw [← addF_smL, getD_set hi, if_pos rfl]
 congr 1
 exact List.map_congr_left (fun k _ => sm_set hi h)
structure FSt (d : Nat) (W : World) (lo gp gq gR n N : Nat) (is : List Nat) (cur : Array Value) (out : List (List Nat)) : Prop where
 p : Blk W gp (smL (shP d) out is n)
 q : Blk W gq (smL (shQ d) out is n)
 R : W.heap[gR]? = some (.cells cur 47 (0, 0))
 len : out.length = N
 cs : cur.size = N
 rows : ∀ i, i ∈ is → i < N ∧ (out.getD i []).length = n ∧ ∃ v, cur[i]? = some v ∧ Fr lo W v (out.getD i [])
 bs : ∀ i, Bs (out.getD i [])
 hp : gp < lo
 hq : gq < lo
 hR : gR < lo
 pq : gp ≠ gq
theorem Fr.kp {S : List Nat} {n : Nat} {w w' : World} {v : Value} {s : List Nat} (h : Fr n w v s) (k : Kp S w w') (hs : ∀ x ∈ S, x < n) : Fr n w' v s := by
 rcases h with h | ⟨g, c, h1, h2, h3, h4, h5⟩
 ·exact .inl h
 exact .inr ⟨g, c, h1, h2, h3, h4.of (k.block g h4.lt (fun hm => by have := hs g hm; omega)), h5⟩
theorem FSt.below {d lo gp gq gR n N : Nat} {W W' : World} {is : List Nat} {cur : Array Value} {out : List (List Nat)} (h : FSt d W lo gp gq gR n N is cur out) (k : Below W.heap.size W W') : FSt d W' lo gp gq gR n N is cur out :=
 ⟨h.p.below k h.p.lt, h.q.below k h.q.lt, (k.block gR (lt_of_block h.R)).trans h.R, h.len, h.cs, fun i hi => by
  obtain ⟨h1, h2, v, h3, h4⟩ := h.rows i hi
  exact ⟨h1, h2, v, h3, h4.below k (Nat.le_refl _)⟩, h.bs, h.hp, h.hq, h.hR, h.pq⟩
theorem FSt.put {d lo gp gq gR n N : Nat} {W W' : World} {is : List Nat} {cur : Array Value} {out : List (List Nat)} (h : FSt d W lo gp gq gR n N is cur out) {i : Nat} {r : List Nat} {v : Value} (hi : i < N) (hni : i ∉ is) (hF : Fr lo W v r) (hl : r.length = n) (hb : Bs r)
  (hp : Blk W' gp (addF (smL (shP d) out is n) r (shP d i))) (hq : Blk W' gq (addF (smL (shQ d) out is n) r (shQ d i))) (hR : W'.heap[gR]? = some (.cells (cur.setIfInBounds i v) 47 (0, 0))) (hk : Kp [gp, gq, gR] W W') :
  FSt d W' lo gp gq gR n N (is ++ [i]) (cur.setIfInBounds i v) (out.set i r) := by
 have hio : i < out.length := by rw [h.len]; exact hi
 have hS : ∀ x ∈ [gp, gq, gR], x < lo := by
  have := h.hp
  have := h.hq
  have := h.hR
  intro x hx
  simp at hx
  omega
 refine ⟨by rw [addF_set hio hni]; exact hp, by rw [addF_set hio hni]; exact hq, hR, by simp [h.len], by simp [h.cs], fun j hj => ?_, fun j => ?_, h.hp, h.hq, h.hR, h.pq⟩
 ·rw [getD_set hio]
  by_cases e : i = j
  ·subst e
   rw [if_pos rfl]
   exact ⟨hi, hl, v, by simp [h.cs, hi], hF.kp hk hS⟩
  rw [if_neg e]
  have hj' : j ∈ is := by
   rcases List.mem_append.1 hj with h | h
   ·exact h
   exact absurd (List.mem_singleton.1 h).symm e
  obtain ⟨h1, h2, v', h3, h4⟩ := h.rows j hj'
  exact ⟨h1, h2, v', by rw [Array.getElem?_setIfInBounds, if_neg e]; exact h3, h4.kp hk hS⟩
 rw [getD_set hio]
 split
 ·exact hb
 exact h.bs j
theorem Fr.lower {n m : Nat} {w : World} {v : Value} {s : List Nat} (h : Fr n w v s) (hm : m ≤ n) : Fr m w v s := by
 rcases h with h | ⟨g, c, h1, h2, h3, h4, h5⟩
 ·exact .inl h
 exact .inr ⟨g, c, h1, h2, h3, h4, by omega⟩
theorem FSt.argP {d lo gp gq gR n N : Nat} {W : World} {is : List Nat} {cur : Array Value} {out : List (List Nat)} (h : FSt d W lo gp gq gR n N is cur out) (hn : n ≤ 100000) : Arg W (.slice (some ⟨gp, 0, none⟩) n n) gp (smL (shP d) out is n) := by
 have := h.p.arg (c := n) (smL_bs h.bs) (by rw [smL_len]; exact Nat.le_refl _) (by unfold maxLen; omega)
 rwa [smL_len] at this
theorem FSt.argQ {d lo gp gq gR n N : Nat} {W : World} {is : List Nat} {cur : Array Value} {out : List (List Nat)} (h : FSt d W lo gp gq gR n N is cur out) (hn : n ≤ 100000) : Arg W (.slice (some ⟨gq, 0, none⟩) n n) gq (smL (shQ d) out is n) := by
 have := h.q.arg (c := n) (smL_bs h.bs) (by rw [smL_len]; exact Nat.le_refl _) (by unfold maxLen; omega)
 rwa [smL_len] at this
theorem partL_len (P Q : List Nat) (a b n : Nat) : (partL P Q a b n).length = n := fillK_len _ _ _
theorem partL_bs {P Q : List Nat} {a b n : Nat} (hP : Bs P) (hQ : Bs Q) : Bs (partL P Q a b n) := fillK_bs (fun k => gmul_lt (xor_lt (hQ k) (gmul_lt (hP k))))
theorem irow_at {w : World} {ao : Option Addr} {g : Nat} {zs : List Int} (h : IRow w ao g zs) (h0 : 0 < zs.length) : ∃ o, ao = some ⟨g, o, none⟩ ∧ w.cell? ⟨g, o, none⟩ = some (.int .i64 (zs.getD 0 0)) ∧ (1 < zs.length → w.cell? ⟨g, o + 1, none⟩ = some (.int .i64 (zs.getD 1 0))) := by
 obtain ⟨o, h1, h2⟩ := irow_some' h h0
 exact ⟨o, h1, h2 0 h0, fun h3 => h2 1 h3⟩
def jsOf (d : Nat) (zs : List Int) : List Nat := (inP d zs).reverse.map Int.toNat ++ (if ((d + 1 : Nat) : Int) ∈ zs then [d + 1] else [])
structure Done (d n : Nat) (zs : List Int) (is : List Nat) (out out' : List (List Nat)) : Prop where
 same : ∀ i, i ∉ jsOf d zs → out'.getD i [] = out.getD i []
 pz : inP d zs ≠ [] → smL (shP d) out' (is ++ jsOf d zs) n = List.replicate n 0
 qz : ((inP d zs).length = 2 ∨ ((d + 1 : Nat) : Int) ∈ zs) → smL (shQ d) out' (is ++ jsOf d zs) n = List.replicate n 0
end Go.Proofs.YtjdikhelabibnaaGreat

namespace Go.Proofs.YtjdikhelabibnaaGreat
open Go.RowKit
theorem ZArg.keepK {S : List Nat} {w w' : World} {v : Value} {g : Nat} {zs : List Int} (h : ZArg w v g zs) (k : Kp S w w') (hn : zs ≠ [] → g ∉ S) : ZArg w' v g zs := by
 obtain ⟨⟨ao, c, h1, h2, h3, h4, h5⟩, hb⟩ := h
 refine ⟨⟨ao, c, h1, h2, h3, h4, ?_⟩, hb⟩
 by_cases h0 : zs = []
 ·exact .inl h0
 exact h5.keep k (hn h0)
theorem done_none {d n : Nat} {zs : List Int} {is : List Nat} {out : List (List Nat)} (hm : inP d zs = []) (hD : ((d + 1 : Nat) : Int) ∉ zs) : Done d n zs is out out :=
 ⟨fun _ _ => rfl, fun h => absurd hm h, fun h => by
  rcases h with h | h
  ·rw [hm] at h; simp at h
  exact absurd h hD⟩
theorem done_second {d n : Nat} {zs : List Int} {is : List Nat} {out : List (List Nat)} (hm : inP d zs = []) (hD : ((d + 1 : Nat) : Int) ∈ zs) (hl : d + 1 < out.length) (hni : d + 1 ∉ is) (hb : ∀ i, Bs (out.getD i [])) : Done d n zs is out (out.set (d + 1) (smL (shQ d) out is n)) := by
 have hjs : jsOf d zs = [d + 1] := by unfold jsOf; rw [hm, if_pos hD]; rfl
 refine ⟨fun i hi => ?_, fun h => absurd hm h, fun _ => ?_⟩
 ·rw [hjs] at hi
  rw [getD_set hl, if_neg (fun e => hi (by simp [e]))]
 rw [hjs, addF_set hl hni]
 have : shQ d (d + 1) = 1 := by unfold shQ; rw [if_neg (by omega), if_pos rfl]
 rw [this, addF_self (smL_bs hb), smL_len]
theorem shP_one {d a : Nat} (h : a ≤ d) : shP d a = 1 := by unfold shP; rw [if_neg (by omega)]
theorem done_one {d n a : Nat} {zs : List Int} {is : List Nat} {out : List (List Nat)} (hm : inP d zs = [(a : Int)]) (hD : ((d + 1 : Nat) : Int) ∉ zs) (ha : a ≤ d) (hl : a < out.length) (hni : a ∉ is) (hb : ∀ i, Bs (out.getD i [])) : Done d n zs is out (out.set a (smL (shP d) out is n)) := by
 have hjs : jsOf d zs = [a] := by unfold jsOf; rw [hm, if_neg hD]; simp
 refine ⟨fun i hi => ?_, fun _ => ?_, fun h => ?_⟩
 ·rw [hjs] at hi
  rw [getD_set hl, if_neg (fun e => hi (by simp [e]))]
 ·rw [hjs, addF_set hl hni, shP_one ha, addF_self (smL_bs hb), smL_len]
 rcases h with h | h
 ·rw [hm] at h; simp at h
 exact absurd h hD
theorem set_bs {out : List (List Nat)} {i : Nat} {r : List Nat} (hl : i < out.length) (hb : ∀ i, Bs (out.getD i [])) (hr : Bs r) (j : Nat) : Bs ((out.set i r).getD j []) := by
 rw [getD_set hl]
 split
 ·exact hr
 exact hb j
theorem done_one_second {d n a : Nat} {zs : List Int} {is : List Nat} {out : List (List Nat)} (hm : inP d zs = [(a : Int)]) (hD : ((d + 1 : Nat) : Int) ∈ zs) (ha : a ≤ d) (hl : a < out.length) (hl2 : d + 1 < out.length) (hni : a ∉ is) (hns : d + 1 ∉ is ++ [a]) (hb : ∀ i, Bs (out.getD i [])) :
  Done d n zs is out ((out.set a (smL (shP d) out is n)).set (d + 1) (smL (shQ d) (out.set a (smL (shP d) out is n)) (is ++ [a]) n)) := by
 have hjs : jsOf d zs = [a] ++ [d + 1] := by unfold jsOf; rw [hm, if_pos hD]; simp
 have hl3 : d + 1 < (out.set a (smL (shP d) out is n)).length := by rw [List.length_set]; exact hl2
 have hb2 := set_bs hl hb (smL_bs (c := shP d) (is := is) (n := n) hb)
 refine ⟨fun i hi => ?_, fun _ => ?_, fun _ => ?_⟩
 ·rw [hjs] at hi
  rw [getD_set hl3, if_neg (fun e => hi (by simp [e])), getD_set hl, if_neg (fun e => hi (by simp [e]))]
 ·have h0 : shP d (d + 1) = 0 := by unfold shP; rw [if_pos rfl]
  rw [hjs, ← List.append_assoc, addF_set hl3 hns, h0, addF_none, addF_set hl hni, shP_one ha, addF_self (smL_bs hb), smL_len]
 have h1 : shQ d (d + 1) = 1 := by unfold shQ; rw [if_neg (by omega), if_pos rfl]
 rw [hjs, ← List.append_assoc, addF_set hl3 hns, h1, addF_self (smL_bs hb2), smL_len]
theorem done_two {d n a b : Nat} {zs : List Int} {is : List Nat} {out : List (List Nat)} (hm : inP d zs = [(a : Int), (b : Int)]) (hD : ((d + 1 : Nat) : Int) ∉ zs) (hd : d ≤ 14) (ha : a ≤ d) (hbd : b ≤ d) (hab : a ≠ b) (hl : a < out.length) (hl2 : b < out.length) (hna : a ∉ is) (hnb : b ∉ is) (hb : ∀ i, Bs (out.getD i [])) :
  Done d n zs is out ((out.set b (partL (smL (shP d) out is n) (smL (shQ d) out is n) (shQ d b) (shQ d a) n)).set a (smL (shP d) (out.set b (partL (smL (shP d) out is n) (smL (shQ d) out is n) (shQ d b) (shQ d a) n)) (is ++ [b]) n)) := by
 have hjs : jsOf d zs = [b] ++ [a] := by unfold jsOf; rw [hm, if_neg hD]; simp
 have hX : Bs (partL (smL (shP d) out is n) (smL (shQ d) out is n) (shQ d b) (shQ d a) n) := partL_bs (smL_bs hb) (smL_bs hb)
 have hl3 : a < (out.set b (partL (smL (shP d) out is n) (smL (shQ d) out is n) (shQ d b) (shQ d a) n)).length := by rw [List.length_set]; exact hl
 have hb2 := set_bs hl2 hb hX
 have hna2 : a ∉ is ++ [b] := fun h => by
  rcases List.mem_append.1 h with h | h
  ·exact hna h
  exact hab (List.mem_singleton.1 h)
 refine ⟨fun i hi => ?_, fun _ => ?_, fun _ => ?_⟩
 ·rw [hjs] at hi
  rw [getD_set hl3, if_neg (fun e => hi (by simp [e])), getD_set hl2, if_neg (fun e => hi (by simp [e]))]
 ·rw [hjs, ← List.append_assoc, addF_set hl3 hna2, shP_one ha, addF_self (smL_bs hb2), smL_len]
 rw [hjs, ← List.append_assoc, addF_set hl3 hna2, addF_set hl2 hnb, addF_set hl2 hnb, shP_one hbd]
 exact two_zero (smL_bs hb) (smL_bs hb) (shQ_lt _ _) (shQ_lt _ _) (shQ_ne hd hbd ha (fun e => hab e.symm)) (smL_len _ _ _ _) (smL_len _ _ _ _)
set_option maxRecDepth 100000 in
set_option maxHeartbeats 16000000 in
theorem fill_none (d : Nat) (hd : d ≤ 14) (gp gq gR n N lo : Nat) (is : List Nat) (cur : Array Value) (out : List (List Nat)) (w : World) (hlo : lo ≤ w.heap.size) (hF : FSt d w lo gp gq gR n N is cur out) (zs : List Int) (vz : Value) (gz : Nat) (hZ : ZArg w vz gz zs) (hzne : zs ≠ [] → gz ≠ gp ∧ gz ≠ gq ∧ gz ≠ gR) (hN : N = d + 2) (hpk : pk zs N = true)
  (his : ∀ i ∈ is, keep zs i = true) (hn : n ≤ 100000) (hm : inP d zs = []) :
  Calls Tryz.prog 100 #[sv d (.slice (some ⟨gp, 0, none⟩) n n) (.slice (some ⟨gq, 0, none⟩) n n), .slice (some ⟨gR, 0, none⟩) N N, vz] w fun e w' => (∃ u, e = .returned u) ∧ ∃ cur' out', FSt d w' lo gp gq gR n N (is ++ jsOf d zs) cur' out' ∧ Kp [gp, gq, gR] w w' ∧ Done d n zs is out out' := by
 obtain ⟨hz2, hzb, hznd⟩ := pk_parts hpk
 have hN16 : N ≤ 16 ∧ d + 1 < N := by omega
 obtain ⟨hN16, hdN⟩ := hN16
 have HNN := hide hN
 have HFS := hide hF
 have HZ := hide hZ
 have HM := hide hm
 have HND := hide hznd
 have HZBD := hide hZ.bd
 have HZN : Hid (zs ≠ [] → gz < w.heap.size ∧ gz ≠ gp ∧ gz ≠ gq ∧ gz ≠ gR) := fun h => ⟨hZ.lt h, hzne h⟩
 have HNS : Hid (((d + 1 : Nat) : Int) ∈ zs → d + 1 ∉ is) := fun h hm => by have h2 := his _ hm; unfold keep at h2; rw [decide_eq_true h] at h2; cases h2
 have HOL : Hid (out.length = N) := hF.len
 obtain ⟨za, zc, hvz, _⟩ := hZ.ex
 subst hvz
 obtain ⟨zl, hzl⟩ : ∃ zl, zs.length = zl := ⟨_, rfl⟩
 have HZL := hide hzl
 rw [hzl] at HZ hz2 ⊢
 clear hF hZ hm hznd hzl hN hzne
 unfold sv
 have HSB : Hid (SBox (w.alloc (.cells #[.int .i64 (d : Int), .slice (some ⟨gp, 0, none⟩) n n, .slice (some ⟨gq, 0, none⟩) n n] 103)) w.heap.size d (.slice (some ⟨gp, 0, none⟩) n n) (.slice (some ⟨gq, 0, none⟩) n n)) := ⟨World.alloc_heap_new w _⟩
 have HB1 : Hid (Below w.heap.size w (w.alloc (.cells #[.int .i64 (d : Int), .slice (some ⟨gp, 0, none⟩) n n, .slice (some ⟨gq, 0, none⟩) n n] 103))) := (Below.refl _ _).alloc (Nat.le_refl _) _
 go_enter Tryz.func100, Tryz.ntmps100
 go_wp2_with fail
 generalize w.alloc (.cells #[.int .i64 (d : Int), .slice (some ⟨gp, 0, none⟩) n n, .slice (some ⟨gq, 0, none⟩) n n] 103) = w1 at HSB HB1 ⊢
 have hbx := (uh HSB).lt
 have hwx := (uh HB1).size
 have hgx : gp < w.heap.size ∧ gq < w.heap.size ∧ gR < w.heap.size := by have h1 := (uh HFS).hp; have h2 := (uh HFS).hq; have h3 := (uh HFS).hR; omega
 obtain ⟨hgx1, hgx2, hgx3⟩ := hgx
 replace HFS := hide ((uh HFS).below (uh HB1))
 replace HZ := hide ((uh HZ).below (uh HB1))
 have HKP : Hid (Kp [gp, gq, gR] w w1) := (Kp.refl _ w).ofBelow (uh HB1)
 refine wp_scope_jumps 0 (fun a' w' => (∃ ao c a8 n8 c8, a' = { tmps := #[.agg #[.int .i64 (d : Int), .slice (some ⟨gp, 0, none⟩) n n, .slice (some ⟨gq, 0, none⟩) n n], .slice (some ⟨gR, 0, none⟩) N N, .slice za zl zc, .pointer (some ⟨w.heap.size, 0, none⟩), undef, undef, .slice ao 0 c, .slice za zl zc, .slice a8 n8 c8, .func (.func 136) #[] #[.pointer (some ⟨w.heap.size, 0, none⟩)], .slice ao 0 c, .slice ao 0 c, .int .i64 0, .bool true, .bool true, undef, undef, undef, undef, undef, undef, undef, undef, undef, undef, undef, undef, undef, undef, undef, undef, undef, undef, undef, undef, undef, undef, undef, undef, undef, undef, undef, undef, undef, undef, undef, undef, undef, undef, undef, undef, undef], defers := [] }) ∧ FSt d w' lo gp gq gR n N is cur out ∧ SBox w' w.heap.size d (.slice (some ⟨gp, 0, none⟩) n n) (.slice (some ⟨gq, 0, none⟩) n n) ∧ ZArg w' (.slice za zl zc) gz zs ∧ Kp [gp, gq, gR] w w' ∧ w1.heap.size ≤ w'.heap.size) (fun _ _ => 0) rfl ?_ ?_
 ·go_wp2_with fail
  refine (cloneI_any _ gz zs w1 (uh HZ) (by rw [uh HZL]; omega)).mono ?_
  rintro e w2 ⟨v8, rfl, hFz, hk⟩
  have HFZ := hide hFz
  have HB2 := hide hk
  have hz12 := hk.size
  have hvs : ∃ ao n c, v8 = .slice ao n c := by
   rcases hFz with ⟨_, ao, c, h, _⟩ | ⟨g, c, h, _⟩
   ·exact ⟨ao, _, c, h⟩
   exact ⟨_, _, c, h⟩
  obtain ⟨a8, n8, c8, rfl⟩ := hvs
  clear hk hFz
  go_wp2_with fail
  refine (del_any _ zs w.heap.size d w1.heap.size hd _ _ _ _ _ _ w2 hz12 (uh HFZ) (uh HZBD) (by rw [uh HZL]; exact hz2) (uh HND) ((uh HSB).below (uh HB2) (uh HSB).lt) (uh HSB).lt).mono ?_
  rintro e w3 ⟨hk, ao, c, g, rfl, hIR, hgl⟩
  rw [uh HM] at hIR hgl ⊢
  have hB3 := (uh HB2).trans hk
  replace HFS := hide ((uh HFS).below hB3)
  replace HSB := hide ((uh HSB).below hB3 (uh HSB).lt)
  replace HZ := hide ((uh HZ).below hB3)
  replace HKP := hide ((uh HKP).ofBelow hB3)
  have HB3 := hide hB3
  have hz13 := hB3.size
  clear hk hB3
  rw [show ([] : List Int).length = 0 from rfl]
  go_wp2_with fail
  go_step3
  exact ⟨rfl, ⟨ao, c, a8, n8, c8, rfl⟩, uh HFS, uh HSB, uh HZ, uh HKP, hz13⟩
 rintro a' w3 ⟨⟨ao, c, a8, n8, c8, rfl⟩, hFS, hSB, hZ3, hKP, hz13⟩
 replace HFS := hide hFS
 replace HSB := hide hSB
 replace HZ := hide hZ3
 replace HKP := hide hKP
 have HOB : Hid (∀ i, Bs (out.getD i [])) := hFS.bs
 clear hFS hSB hZ3 hKP
 obtain ⟨⟨c0, c1, c2⟩, _⟩ := three_at (uh HSB).h
 have HC0 := hide c0
 have HC1 := hide c1
 have HC2 := hide c2
 go_wp2_with fail
 refine (second_any d hd _ _ _ _ _ _ _).mono ?_
 rintro e w21 ⟨rfl, hk4⟩
 replace HFS := hide ((uh HFS).below hk4)
 replace HSB := hide ((uh HSB).below hk4 (uh HSB).lt)
 replace HZ := hide ((uh HZ).below hk4)
 replace HKP := hide ((uh HKP).ofBelow hk4)
 replace HC0 := hide ((hk4.cell (block_lt_of_cell (uh HC0))).trans (uh HC0))
 replace HC1 := hide ((hk4.cell (block_lt_of_cell (uh HC1))).trans (uh HC1))
 replace HC2 := hide ((hk4.cell (block_lt_of_cell (uh HC2))).trans (uh HC2))
 clear hk4 c0 c1 c2
 go_wp2_with fail
 refine (contains_any _ gz zs _ w21 (uh HZ)).mono ?_
 rintro e w0 ⟨rfl, hw0⟩
 subst hw0
 by_cases hD : ((d + 1 : Nat) : Int) ∈ zs
 ·have hdd : decide ((d : Int) + 1 ∈ zs) = true := by simpa using hD
  rw [hdd]
  have HD := hide hD
  clear hdd hD
  go_wp2_with fail
  have hloR : lo ≤ w0.heap.size := by have h1 := (uh HKP).size; omega
  replace HFS := hide ((uh HFS).below (Below.refl _ _).drew)
  refine wp_region_noPanic ?_
  refine wp_region_held_drew (S := fun W => Kp [gp, gq, gR] w0 W) (by kernel_rfl) ((Kp.refl _ _).drew) (fun hHeld => ?_)
  have HH := hide hHeld
  clear hHeld
  refine tkW 0 (v := ?_) ?_ (uh HH) ?_
  rotate_left 1
  ·intro W1 hSW; have hc0 := hSW.cell (uh HC0) (by simp; omega); have hc1 := hSW.cell (uh HC1) (by simp; omega); have hc2 := hSW.cell (uh HC2) (by simp; omega); clear hSW; go_simp; all_goals (with_reducible rfl)
  (try simp only [layB])
  refine tkL 1 (uh HH) ?_
  (try simp only [layB])
  refine tkW 2 (v := ?_) ?_ (uh HH) ?_
  rotate_left 1
  ·intro W1 hSW; have hc0 := hSW.cell (uh HC0) (by simp; omega); have hc1 := hSW.cell (uh HC1) (by simp; omega); have hc2 := hSW.cell (uh HC2) (by simp; omega); clear hSW; go_simp; all_goals (with_reducible rfl)
  (try simp only [layB])
  refine tkL 4 (uh HH) ?_
  (try simp only [layB])
  refine tkW 5 (v := ?_) ?_ (uh HH) ?_
  rotate_left 1
  ·intro W1 hSW; have hc0 := hSW.cell (uh HC2) (by simp; omega); clear hSW; go_simp; all_goals (with_reducible rfl)
  (try simp only [layB])
  refine wpAnyH_ready (rs := [3]) (by kernel_rfl) (by simp) ?_
  refine consL rfl (fun K hK => ?_) AllReadyH.nil
  go_simp
  refine (second_any d hd _ _ _ _ _ _ _).mono ?_
  rintro e w22 ⟨rfl, hk4⟩
  replace HFS := hide ((uh HFS).below hk4)
  have HK4 := hide hk4
  clear hk4
  go_wp2_with fail
  refine hK.out _ _ ((uh HH).ofBelow (uh HK4)) (fun hHeld => ?_)
  clear hK K HH
  have HH := hide hHeld
  clear hHeld
  (try simp only [layB])
  clear HK4
  refine wpAnyH_ready (rs := [6]) (by kernel_rfl) (by simp) ?_
  refine consL rfl (fun K hK => ?_) AllReadyH.nil
  go_simp
  refine (cloneB_any5 _ gq _ _ ((uh HFS).argQ hn) (by rw [smL_len]; exact hn)).mono ?_
  rintro e w23 ⟨v5, rfl, hCL, hk4⟩
  replace HFS := hide ((uh HFS).below hk4)
  have hlo5 : lo ≤ w22.heap.size := Nat.le_trans hloR (uh HH).size
  have HCL := hide (hCL.lower hlo5)
  have HK4 := hide hk4
  clear hk4 hCL hlo5
  go_wp2_with fail
  refine hK.out _ _ ((uh HH).ofBelow (uh HK4)) (fun hHeld => ?_)
  clear hK K HH
  have HH := hide hHeld
  clear hHeld
  (try simp only [layB])
  clear HK4
  refine wpAnyH_ready (rs := [7]) (by kernel_rfl) (by simp) ?_
  refine consL rfl (fun K hK => ?_) AllReadyH.nil
  have hf1 := (uh HFS).hp
  have hf2 := (uh HFS).hq
  have hf3 := (uh HFS).hR
  obtain ⟨g5, hA5, hg5⟩ := (uh HCL).arg (smL_bs (uh HFS).bs)
  have HA5 := hide hA5
  clear hA5
  go_simp
  rw [show (d : Int) + 1 = ((d + 1 : Nat) : Int) from by omega]
  refine (put_any d hd gp gq gR n n n N N _ _ _ (d + 1) (by omega) (by omega) _ g5 _ _ (uh HFS).p (uh HFS).q (smL_len _ _ _ _) (smL_len _ _ _ _) (smL_bs (uh HFS).bs) (smL_bs (uh HFS).bs) (uh HFS).pq (uh HA5) (smL_len _ _ _ _) (fun _ => ⟨by omega, by omega, by omega⟩) hn (uh HFS).R (by rw [(uh HFS).cs]; exact Nat.le_refl _)).mono ?_
  rintro e w24 ⟨⟨u9, rfl⟩, hp9, hq9, hR9, hk9⟩
  replace HFS := hide ((uh HFS).put (i := d + 1) (by omega) (uh HNS (uh HD)) (uh HCL) (smL_len _ _ _ _) (smL_bs (uh HFS).bs) hp9 hq9 hR9 hk9)
  have HK4 := hide hk9
  clear hp9 hq9 hR9 hk9 HA5 hg5 HCL hf1 hf2 hf3
  go_wp2_with fail
  refine hK.out _ _ ((uh HH).trans (uh HK4) (by simp)) (fun hHeld => ?_)
  clear hK K HH
  have HH := hide hHeld
  clear hHeld
  (try simp only [layB])
  clear HK4
  refine wpAnyH_done (by kernel_rfl) ?_ _
  refine NoPanic.normal ?_
  replace HKP := hide ((uh HKP).trans (uh HH) (by simp))
  replace HSB := hide ((uh HSB).kp (uh HH) (by simp; omega))
  replace HZ := hide ((uh HZ).keepK (uh HH) (fun h => by have := uh HZN h; simp; omega))
  clear HH hloR
  (try simp only [Exit.jump])
  (try simp only [Exit.noGoto_normal])
  (try simp only [Exit.then])
  go_wp2
  (try simp only [Exit.jump])
  (try simp only [Exit.noGoto_normal])
  go_end0
  have hjs : jsOf d zs = [d + 1] := by unfold jsOf; rw [uh HM]; rw [if_pos (uh HD)]; simp
  have hFF := uh HFS
  rw [show (is ++ [d + 1]) = is ++ jsOf d zs from by simp [hjs]] at hFF
  exact ⟨⟨_, rfl⟩, _, _, hFF, uh HKP, done_second (uh HM) (uh HD) (by rw [uh HOL]; exact hdN) (uh HNS (uh HD)) (uh HOB)⟩
 have hdd : decide ((d : Int) + 1 ∈ zs) = false := by simpa using hD
 rw [hdd]
 have HD := hide hD
 clear hdd hD
 go_wp2_with fail
 (try simp only [Exit.jump])
 (try simp only [Exit.noGoto_normal])
 (try simp only [Exit.then])
 go_wp2
 (try simp only [Exit.jump])
 (try simp only [Exit.noGoto_normal])
 go_end0
 have hjs : jsOf d zs = [] := by unfold jsOf; rw [uh HM]; rw [if_neg (uh HD)]; simp
 have hFF := uh HFS
 rw [show (is) = is ++ jsOf d zs from by simp [hjs]] at hFF
 exact ⟨⟨_, rfl⟩, _, _, hFF, uh HKP, done_none (uh HM) (uh HD)⟩
set_option maxRecDepth 100000 in
set_option maxHeartbeats 16000000 in
theorem fill_one (d : Nat) (hd : d ≤ 14) (gp gq gR n N lo : Nat) (is : List Nat) (cur : Array Value) (out : List (List Nat)) (w : World) (hlo : lo ≤ w.heap.size) (hF : FSt d w lo gp gq gR n N is cur out) (zs : List Int) (vz : Value) (gz : Nat) (hZ : ZArg w vz gz zs) (hzne : zs ≠ [] → gz ≠ gp ∧ gz ≠ gq ∧ gz ≠ gR) (hN : N = d + 2) (hpk : pk zs N = true)
  (his : ∀ i ∈ is, keep zs i = true) (hn : n ≤ 100000) (a : Nat) (had : a ≤ d) (hm : inP d zs = [(a : Int)]) (HNA : Hid (a ∉ is)) :
  Calls Tryz.prog 100 #[sv d (.slice (some ⟨gp, 0, none⟩) n n) (.slice (some ⟨gq, 0, none⟩) n n), .slice (some ⟨gR, 0, none⟩) N N, vz] w fun e w' => (∃ u, e = .returned u) ∧ ∃ cur' out', FSt d w' lo gp gq gR n N (is ++ jsOf d zs) cur' out' ∧ Kp [gp, gq, gR] w w' ∧ Done d n zs is out out' := by
 obtain ⟨hz2, hzb, hznd⟩ := pk_parts hpk
 have hN16 : N ≤ 16 ∧ d + 1 < N := by omega
 obtain ⟨hN16, hdN⟩ := hN16
 have HNN := hide hN
 have HFS := hide hF
 have HZ := hide hZ
 have HM := hide hm
 have HND := hide hznd
 have HZBD := hide hZ.bd
 have HZN : Hid (zs ≠ [] → gz < w.heap.size ∧ gz ≠ gp ∧ gz ≠ gq ∧ gz ≠ gR) := fun h => ⟨hZ.lt h, hzne h⟩
 have HNS : Hid (((d + 1 : Nat) : Int) ∈ zs → d + 1 ∉ (is ++ [a])) := fun h hm => by
  rcases List.mem_append.1 hm with hm | hm
  ·have h2 := his _ hm; unfold keep at h2; rw [decide_eq_true h] at h2; cases h2
  have := List.mem_singleton.1 hm; omega
 have HOL : Hid (out.length = N) := hF.len
 obtain ⟨za, zc, hvz, _⟩ := hZ.ex
 subst hvz
 obtain ⟨zl, hzl⟩ : ∃ zl, zs.length = zl := ⟨_, rfl⟩
 have HZL := hide hzl
 rw [hzl] at HZ hz2 ⊢
 clear hF hZ hm hznd hzl hN hzne
 unfold sv
 have HSB : Hid (SBox (w.alloc (.cells #[.int .i64 (d : Int), .slice (some ⟨gp, 0, none⟩) n n, .slice (some ⟨gq, 0, none⟩) n n] 103)) w.heap.size d (.slice (some ⟨gp, 0, none⟩) n n) (.slice (some ⟨gq, 0, none⟩) n n)) := ⟨World.alloc_heap_new w _⟩
 have HB1 : Hid (Below w.heap.size w (w.alloc (.cells #[.int .i64 (d : Int), .slice (some ⟨gp, 0, none⟩) n n, .slice (some ⟨gq, 0, none⟩) n n] 103))) := (Below.refl _ _).alloc (Nat.le_refl _) _
 go_enter Tryz.func100, Tryz.ntmps100
 go_wp2_with fail
 generalize w.alloc (.cells #[.int .i64 (d : Int), .slice (some ⟨gp, 0, none⟩) n n, .slice (some ⟨gq, 0, none⟩) n n] 103) = w1 at HSB HB1 ⊢
 have hbx := (uh HSB).lt
 have hwx := (uh HB1).size
 have hgx : gp < w.heap.size ∧ gq < w.heap.size ∧ gR < w.heap.size := by have h1 := (uh HFS).hp; have h2 := (uh HFS).hq; have h3 := (uh HFS).hR; omega
 obtain ⟨hgx1, hgx2, hgx3⟩ := hgx
 replace HFS := hide ((uh HFS).below (uh HB1))
 replace HZ := hide ((uh HZ).below (uh HB1))
 have HKP : Hid (Kp [gp, gq, gR] w w1) := (Kp.refl _ w).ofBelow (uh HB1)
 have haN : a < N := by omega
 refine wp_scope_jumps 1 (fun a' w' => (∃ gi oi c a8 n8 c8, a' = { tmps := #[.agg #[.int .i64 (d : Int), .slice (some ⟨gp, 0, none⟩) n n, .slice (some ⟨gq, 0, none⟩) n n], .slice (some ⟨gR, 0, none⟩) N N, .slice za zl zc, .pointer (some ⟨w.heap.size, 0, none⟩), undef, undef, .slice (some ⟨gi, oi, none⟩) 1 c, .slice za zl zc, .slice a8 n8 c8, .func (.func 136) #[] #[.pointer (some ⟨w.heap.size, 0, none⟩)], .slice (some ⟨gi, oi, none⟩) 1 c, .slice (some ⟨gi, oi, none⟩) 1 c, .int .i64 1, .bool false, .bool false, .bool true, .bool true, undef, undef, undef, undef, undef, undef, undef, undef, undef, undef, undef, undef, undef, undef, undef, undef, undef, undef, undef, undef, undef, undef, undef, undef, undef, undef, undef, undef, undef, undef, undef, undef, undef, undef, undef], defers := [] } ∧ w'.cell? ⟨gi, oi, none⟩ = some (.int .i64 (a : Int)) ∧ w1.heap.size ≤ gi) ∧ FSt d w' lo gp gq gR n N is cur out ∧ SBox w' w.heap.size d (.slice (some ⟨gp, 0, none⟩) n n) (.slice (some ⟨gq, 0, none⟩) n n) ∧ ZArg w' (.slice za zl zc) gz zs ∧ Kp [gp, gq, gR] w w' ∧ w1.heap.size ≤ w'.heap.size) (fun _ _ => 0) rfl ?_ ?_
 ·go_wp2_with fail
  refine (cloneI_any _ gz zs w1 (uh HZ) (by rw [uh HZL]; omega)).mono ?_
  rintro e w2 ⟨v8, rfl, hFz, hk⟩
  have HFZ := hide hFz
  have HB2 := hide hk
  have hz12 := hk.size
  have hvs : ∃ ao n c, v8 = .slice ao n c := by
   rcases hFz with ⟨_, ao, c, h, _⟩ | ⟨g, c, h, _⟩
   ·exact ⟨ao, _, c, h⟩
   exact ⟨_, _, c, h⟩
  obtain ⟨a8, n8, c8, rfl⟩ := hvs
  clear hk hFz
  go_wp2_with fail
  refine (del_any _ zs w.heap.size d w1.heap.size hd _ _ _ _ _ _ w2 hz12 (uh HFZ) (uh HZBD) (by rw [uh HZL]; exact hz2) (uh HND) ((uh HSB).below (uh HB2) (uh HSB).lt) (uh HSB).lt).mono ?_
  rintro e w3 ⟨hk, ao, c, g, rfl, hIR, hgl⟩
  rw [uh HM] at hIR hgl ⊢
  have hB3 := (uh HB2).trans hk
  replace HFS := hide ((uh HFS).below hB3)
  replace HSB := hide ((uh HSB).below hB3 (uh HSB).lt)
  replace HZ := hide ((uh HZ).below hB3)
  replace HKP := hide ((uh HKP).ofBelow hB3)
  have HB3 := hide hB3
  have hz13 := hB3.size
  clear hk hB3
  rw [show [(a : Int)].length = 1 from rfl]
  obtain ⟨oi, rfl, hA0, _⟩ := irow_at hIR (by simp)
  have HA0 := hide hA0
  have hgl' := hgl (by simp)
  clear hIR hgl hA0
  go_wp2_with fail
  go_step3
  exact ⟨rfl, ⟨g, oi, c, a8, n8, c8, rfl, uh HA0, hgl'⟩, uh HFS, uh HSB, uh HZ, uh HKP, hz13⟩
 rintro a' w3 ⟨⟨gi, oi, c, a8, n8, c8, rfl, hA0, hgi⟩, hFS, hSB, hZ3, hKP, hz13⟩
 replace HFS := hide hFS
 replace HSB := hide hSB
 replace HZ := hide hZ3
 replace HKP := hide hKP
 have HOB : Hid (∀ i, Bs (out.getD i [])) := hFS.bs
 have HA0 := hide hA0
 clear hFS hSB hZ3 hKP hA0
 obtain ⟨⟨c0, c1, c2⟩, _⟩ := three_at (uh HSB).h
 have HC0 := hide c0
 have HC1 := hide c1
 have HC2 := hide c2
 clear c0 c1 c2
 go_wp2_with fail
 have hloR : lo ≤ w3.heap.size := by have h1 := (uh HKP).size; omega
 replace HFS := hide ((uh HFS).below (Below.refl _ _).drew)
 refine wp_region_noPanic ?_
 refine wp_region_held_drew (S := fun W => Kp [gp, gq, gR] w3 W) (by kernel_rfl) ((Kp.refl _ _).drew) (fun hHeld => ?_)
 have HH := hide hHeld
 clear hHeld
 refine tkW 0 (v := ?_) ?_ (uh HH) ?_
 rotate_left 1
 ·intro W1 hSW; have hc0 := hSW.cell (uh HC0) (by simp; omega); have hc1 := hSW.cell (uh HC1) (by simp; omega); have hc2 := hSW.cell (uh HC2) (by simp; omega); clear hSW; go_simp; all_goals (with_reducible rfl)
 (try simp only [layB])
 refine tkL 1 (uh HH) ?_
 (try simp only [layB])
 refine tkL 2 (uh HH) ?_
 (try simp only [layB])
 refine tkL 3 (uh HH) ?_
 (try simp only [layB])
 refine tkW 4 (v := ?_) ?_ (uh HH) ?_
 rotate_left 1
 ·intro W1 hSW; have hc0 := hSW.cell (uh HA0) (by simp; omega); clear hSW; go_simp; all_goals (with_reducible rfl)
 (try simp only [layB])
 refine tkL 5 (uh HH) ?_
 (try simp only [layB])
 refine tkW 6 (v := ?_) ?_ (uh HH) ?_
 rotate_left 1
 ·intro W1 hSW; have hc0 := hSW.cell (uh HC1) (by simp; omega); clear hSW; go_simp; all_goals (with_reducible rfl)
 (try simp only [layB])
 refine wpAnyH_ready (rs := [7]) (by kernel_rfl) (by simp) ?_
 refine consL rfl (fun K hK => ?_) AllReadyH.nil
 go_simp
 refine (cloneB_any5 _ gp _ _ ((uh HFS).argP hn) (by rw [smL_len]; exact hn)).mono ?_
 rintro e w25 ⟨v5, rfl, hCL, hk4⟩
 replace HFS := hide ((uh HFS).below hk4)
 have hlo5 : lo ≤ w3.heap.size := Nat.le_trans hloR (uh HH).size
 have HCL := hide (hCL.lower hlo5)
 have HK4 := hide hk4
 clear hk4 hCL hlo5
 go_wp2_with fail
 refine hK.out _ _ ((uh HH).ofBelow (uh HK4)) (fun hHeld => ?_)
 clear hK K HH
 have HH := hide hHeld
 clear hHeld
 (try simp only [layB])
 clear HK4
 refine wpAnyH_ready (rs := [8]) (by kernel_rfl) (by simp) ?_
 refine consL rfl (fun K hK => ?_) AllReadyH.nil
 have hf1 := (uh HFS).hp
 have hf2 := (uh HFS).hq
 have hf3 := (uh HFS).hR
 obtain ⟨g5, hA5, hg5⟩ := (uh HCL).arg (smL_bs (uh HFS).bs)
 have HA5 := hide hA5
 clear hA5
 go_simp
 refine (put_any d hd gp gq gR n n n N N _ _ _ (a) (by omega) haN _ g5 _ _ (uh HFS).p (uh HFS).q (smL_len _ _ _ _) (smL_len _ _ _ _) (smL_bs (uh HFS).bs) (smL_bs (uh HFS).bs) (uh HFS).pq (uh HA5) (smL_len _ _ _ _) (fun _ => ⟨by omega, by omega, by omega⟩) hn (uh HFS).R (by rw [(uh HFS).cs]; exact Nat.le_refl _)).mono ?_
 rintro e w26 ⟨⟨u9, rfl⟩, hp9, hq9, hR9, hk9⟩
 replace HFS := hide ((uh HFS).put (i := a) haN (uh HNA) (uh HCL) (smL_len _ _ _ _) (smL_bs (uh HFS).bs) hp9 hq9 hR9 hk9)
 have HK4 := hide hk9
 clear hp9 hq9 hR9 hk9 HA5 hg5 HCL hf1 hf2 hf3
 go_wp2_with fail
 refine hK.out _ _ ((uh HH).trans (uh HK4) (by simp)) (fun hHeld => ?_)
 clear hK K HH
 have HH := hide hHeld
 clear hHeld
 (try simp only [layB])
 clear HK4
 refine wpAnyH_done (by kernel_rfl) ?_ _
 refine NoPanic.normal ?_
 replace HKP := hide ((uh HKP).trans (uh HH) (by simp))
 replace HSB := hide ((uh HSB).kp (uh HH) (by simp; omega))
 replace HZ := hide ((uh HZ).keepK (uh HH) (fun h => by have := uh HZN h; simp; omega))
 clear HH hloR
 go_wp2_with fail
 (try go_step3)
 obtain ⟨⟨c0, c1, c2⟩, _⟩ := three_at (uh HSB).h
 have HC0 := hide c0
 have HC1 := hide c1
 have HC2 := hide c2
 go_wp2_with fail
 refine (second_any d hd _ _ _ _ _ _ _).mono ?_
 rintro e w27 ⟨rfl, hk4⟩
 replace HFS := hide ((uh HFS).below hk4)
 replace HSB := hide ((uh HSB).below hk4 (uh HSB).lt)
 replace HZ := hide ((uh HZ).below hk4)
 replace HKP := hide ((uh HKP).ofBelow hk4)
 replace HC0 := hide ((hk4.cell (block_lt_of_cell (uh HC0))).trans (uh HC0))
 replace HC1 := hide ((hk4.cell (block_lt_of_cell (uh HC1))).trans (uh HC1))
 replace HC2 := hide ((hk4.cell (block_lt_of_cell (uh HC2))).trans (uh HC2))
 clear hk4 c0 c1 c2
 go_wp2_with fail
 refine (contains_any _ gz zs _ w27 (uh HZ)).mono ?_
 rintro e w0 ⟨rfl, hw0⟩
 subst hw0
 by_cases hD : ((d + 1 : Nat) : Int) ∈ zs
 ·have hdd : decide ((d : Int) + 1 ∈ zs) = true := by simpa using hD
  rw [hdd]
  have HD := hide hD
  clear hdd hD
  go_wp2_with fail
  have hloR : lo ≤ w0.heap.size := by have h1 := (uh HKP).size; omega
  replace HFS := hide ((uh HFS).below (Below.refl _ _).drew)
  refine wp_region_noPanic ?_
  refine wp_region_held_drew (S := fun W => Kp [gp, gq, gR] w0 W) (by kernel_rfl) ((Kp.refl _ _).drew) (fun hHeld => ?_)
  have HH := hide hHeld
  clear hHeld
  refine tkW 0 (v := ?_) ?_ (uh HH) ?_
  rotate_left 1
  ·intro W1 hSW; have hc0 := hSW.cell (uh HC0) (by simp; omega); have hc1 := hSW.cell (uh HC1) (by simp; omega); have hc2 := hSW.cell (uh HC2) (by simp; omega); clear hSW; go_simp; all_goals (with_reducible rfl)
  (try simp only [layB])
  refine tkL 1 (uh HH) ?_
  (try simp only [layB])
  refine tkW 2 (v := ?_) ?_ (uh HH) ?_
  rotate_left 1
  ·intro W1 hSW; have hc0 := hSW.cell (uh HC0) (by simp; omega); have hc1 := hSW.cell (uh HC1) (by simp; omega); have hc2 := hSW.cell (uh HC2) (by simp; omega); clear hSW; go_simp; all_goals (with_reducible rfl)
  (try simp only [layB])
  refine tkL 4 (uh HH) ?_
  (try simp only [layB])
  refine tkW 5 (v := ?_) ?_ (uh HH) ?_
  rotate_left 1
  ·intro W1 hSW; have hc0 := hSW.cell (uh HC2) (by simp; omega); clear hSW; go_simp; all_goals (with_reducible rfl)
  (try simp only [layB])
  refine wpAnyH_ready (rs := [3]) (by kernel_rfl) (by simp) ?_
  refine consL rfl (fun K hK => ?_) AllReadyH.nil
  go_simp
  refine (second_any d hd _ _ _ _ _ _ _).mono ?_
  rintro e w28 ⟨rfl, hk4⟩
  replace HFS := hide ((uh HFS).below hk4)
  have HK4 := hide hk4
  clear hk4
  go_wp2_with fail
  refine hK.out _ _ ((uh HH).ofBelow (uh HK4)) (fun hHeld => ?_)
  clear hK K HH
  have HH := hide hHeld
  clear hHeld
  (try simp only [layB])
  clear HK4
  refine wpAnyH_ready (rs := [6]) (by kernel_rfl) (by simp) ?_
  refine consL rfl (fun K hK => ?_) AllReadyH.nil
  go_simp
  refine (cloneB_any5 _ gq _ _ ((uh HFS).argQ hn) (by rw [smL_len]; exact hn)).mono ?_
  rintro e w29 ⟨v5, rfl, hCL, hk4⟩
  replace HFS := hide ((uh HFS).below hk4)
  have hlo5 : lo ≤ w28.heap.size := Nat.le_trans hloR (uh HH).size
  have HCL := hide (hCL.lower hlo5)
  have HK4 := hide hk4
  clear hk4 hCL hlo5
  go_wp2_with fail
  refine hK.out _ _ ((uh HH).ofBelow (uh HK4)) (fun hHeld => ?_)
  clear hK K HH
  have HH := hide hHeld
  clear hHeld
  (try simp only [layB])
  clear HK4
  refine wpAnyH_ready (rs := [7]) (by kernel_rfl) (by simp) ?_
  refine consL rfl (fun K hK => ?_) AllReadyH.nil
  have hf1 := (uh HFS).hp
  have hf2 := (uh HFS).hq
  have hf3 := (uh HFS).hR
  obtain ⟨g5, hA5, hg5⟩ := (uh HCL).arg (smL_bs (uh HFS).bs)
  have HA5 := hide hA5
  clear hA5
  go_simp
  rw [show (d : Int) + 1 = ((d + 1 : Nat) : Int) from by omega]
  refine (put_any d hd gp gq gR n n n N N _ _ _ (d + 1) (by omega) (by omega) _ g5 _ _ (uh HFS).p (uh HFS).q (smL_len _ _ _ _) (smL_len _ _ _ _) (smL_bs (uh HFS).bs) (smL_bs (uh HFS).bs) (uh HFS).pq (uh HA5) (smL_len _ _ _ _) (fun _ => ⟨by omega, by omega, by omega⟩) hn (uh HFS).R (by rw [(uh HFS).cs]; exact Nat.le_refl _)).mono ?_
  rintro e w30 ⟨⟨u9, rfl⟩, hp9, hq9, hR9, hk9⟩
  replace HFS := hide ((uh HFS).put (i := d + 1) (by omega) (uh HNS (uh HD)) (uh HCL) (smL_len _ _ _ _) (smL_bs (uh HFS).bs) hp9 hq9 hR9 hk9)
  have HK4 := hide hk9
  clear hp9 hq9 hR9 hk9 HA5 hg5 HCL hf1 hf2 hf3
  go_wp2_with fail
  refine hK.out _ _ ((uh HH).trans (uh HK4) (by simp)) (fun hHeld => ?_)
  clear hK K HH
  have HH := hide hHeld
  clear hHeld
  (try simp only [layB])
  clear HK4
  refine wpAnyH_done (by kernel_rfl) ?_ _
  refine NoPanic.normal ?_
  replace HKP := hide ((uh HKP).trans (uh HH) (by simp))
  replace HSB := hide ((uh HSB).kp (uh HH) (by simp; omega))
  replace HZ := hide ((uh HZ).keepK (uh HH) (fun h => by have := uh HZN h; simp; omega))
  clear HH hloR
  (try simp only [Exit.jump])
  (try simp only [Exit.noGoto_normal])
  (try simp only [Exit.then])
  go_wp2
  (try simp only [Exit.jump])
  (try simp only [Exit.noGoto_normal])
  go_end0
  have hjs : jsOf d zs = [a, d + 1] := by unfold jsOf; rw [uh HM]; rw [if_pos (uh HD)]; simp
  have hFF := uh HFS
  rw [show (is ++ [a] ++ [d + 1]) = is ++ jsOf d zs from by simp [hjs]] at hFF
  exact ⟨⟨_, rfl⟩, _, _, hFF, uh HKP, done_one_second (uh HM) (uh HD) had (by rw [uh HOL]; omega) (by rw [uh HOL]; omega) (uh HNA) (uh HNS (uh HD)) (uh HOB)⟩
 have hdd : decide ((d : Int) + 1 ∈ zs) = false := by simpa using hD
 rw [hdd]
 have HD := hide hD
 clear hdd hD
 go_wp2_with fail
 (try simp only [Exit.jump])
 (try simp only [Exit.noGoto_normal])
 (try simp only [Exit.then])
 go_wp2
 (try simp only [Exit.jump])
 (try simp only [Exit.noGoto_normal])
 go_end0
 have hjs : jsOf d zs = [a] := by unfold jsOf; rw [uh HM]; rw [if_neg (uh HD)]; simp
 have hFF := uh HFS
 rw [show (is ++ [a]) = is ++ jsOf d zs from by simp [hjs]] at hFF
 exact ⟨⟨_, rfl⟩, _, _, hFF, uh HKP, done_one (uh HM) (uh HD) had (by rw [uh HOL]; omega) (uh HNA) (uh HOB)⟩
set_option maxRecDepth 100000 in
set_option maxHeartbeats 16000000 in
theorem fill_two (d : Nat) (hd : d ≤ 14) (gp gq gR n N lo : Nat) (is : List Nat) (cur : Array Value) (out : List (List Nat)) (w : World) (hlo : lo ≤ w.heap.size) (hF : FSt d w lo gp gq gR n N is cur out) (zs : List Int) (vz : Value) (gz : Nat) (hZ : ZArg w vz gz zs) (hzne : zs ≠ [] → gz ≠ gp ∧ gz ≠ gq ∧ gz ≠ gR) (hN : N = d + 2) (hpk : pk zs N = true)
  (hn : n ≤ 100000) (a b : Nat) (had : a ≤ d) (hbd : b ≤ d) (hab : a ≠ b) (hm : inP d zs = [(a : Int), (b : Int)]) (HNA : Hid (a ∉ is)) (HNB : Hid (b ∉ is)) (HDN : Hid (((d + 1 : Nat) : Int) ∉ zs)) :
  Calls Tryz.prog 100 #[sv d (.slice (some ⟨gp, 0, none⟩) n n) (.slice (some ⟨gq, 0, none⟩) n n), .slice (some ⟨gR, 0, none⟩) N N, vz] w fun e w' => (∃ u, e = .returned u) ∧ ∃ cur' out', FSt d w' lo gp gq gR n N (is ++ jsOf d zs) cur' out' ∧ Kp [gp, gq, gR] w w' ∧ Done d n zs is out out' := by
 obtain ⟨hz2, hzb, hznd⟩ := pk_parts hpk
 have hN16 : N ≤ 16 ∧ d + 1 < N := by omega
 obtain ⟨hN16, hdN⟩ := hN16
 have HNN := hide hN
 have HFS := hide hF
 have HZ := hide hZ
 have HM := hide hm
 have HND := hide hznd
 have HZBD := hide hZ.bd
 have HZN : Hid (zs ≠ [] → gz < w.heap.size ∧ gz ≠ gp ∧ gz ≠ gq ∧ gz ≠ gR) := fun h => ⟨hZ.lt h, hzne h⟩
 have HOL : Hid (out.length = N) := hF.len
 obtain ⟨za, zc, hvz, _⟩ := hZ.ex
 subst hvz
 obtain ⟨zl, hzl⟩ : ∃ zl, zs.length = zl := ⟨_, rfl⟩
 have HZL := hide hzl
 rw [hzl] at HZ hz2 ⊢
 clear hF hZ hm hznd hzl hN hzne
 unfold sv
 have HSB : Hid (SBox (w.alloc (.cells #[.int .i64 (d : Int), .slice (some ⟨gp, 0, none⟩) n n, .slice (some ⟨gq, 0, none⟩) n n] 103)) w.heap.size d (.slice (some ⟨gp, 0, none⟩) n n) (.slice (some ⟨gq, 0, none⟩) n n)) := ⟨World.alloc_heap_new w _⟩
 have HB1 : Hid (Below w.heap.size w (w.alloc (.cells #[.int .i64 (d : Int), .slice (some ⟨gp, 0, none⟩) n n, .slice (some ⟨gq, 0, none⟩) n n] 103))) := (Below.refl _ _).alloc (Nat.le_refl _) _
 go_enter Tryz.func100, Tryz.ntmps100
 go_wp2_with fail
 generalize w.alloc (.cells #[.int .i64 (d : Int), .slice (some ⟨gp, 0, none⟩) n n, .slice (some ⟨gq, 0, none⟩) n n] 103) = w1 at HSB HB1 ⊢
 have hbx := (uh HSB).lt
 have hwx := (uh HB1).size
 have hgx : gp < w.heap.size ∧ gq < w.heap.size ∧ gR < w.heap.size := by have h1 := (uh HFS).hp; have h2 := (uh HFS).hq; have h3 := (uh HFS).hR; omega
 obtain ⟨hgx1, hgx2, hgx3⟩ := hgx
 replace HFS := hide ((uh HFS).below (uh HB1))
 replace HZ := hide ((uh HZ).below (uh HB1))
 have HKP : Hid (Kp [gp, gq, gR] w w1) := (Kp.refl _ w).ofBelow (uh HB1)
 have haN : a < N := by omega
 have hbN : b < N := by omega
 have HOB : Hid (∀ i, Bs (out.getD i [])) := (uh HFS).bs
 go_step3
 go_wp2_with fail
 refine (cloneI_any _ gz zs w1 (uh HZ) (by rw [uh HZL]; omega)).mono ?_
 rintro e w2 ⟨v8, rfl, hFz, hk⟩
 have HFZ := hide hFz
 have HB2 := hide hk
 have hz12 := hk.size
 have hvs : ∃ ao n c, v8 = .slice ao n c := by
  rcases hFz with ⟨_, ao, c, h, _⟩ | ⟨g, c, h, _⟩
  ·exact ⟨ao, _, c, h⟩
  exact ⟨_, _, c, h⟩
 obtain ⟨a8, n8, c8, rfl⟩ := hvs
 clear hk hFz
 go_wp2_with fail
 refine (del_any _ zs w.heap.size d w1.heap.size hd _ _ _ _ _ _ w2 hz12 (uh HFZ) (uh HZBD) (by rw [uh HZL]; exact hz2) (uh HND) ((uh HSB).below (uh HB2) (uh HSB).lt) (uh HSB).lt).mono ?_
 rintro e w3 ⟨hk, ao, c, g, rfl, hIR, hgl⟩
 rw [uh HM] at hIR hgl ⊢
 have hB3 := (uh HB2).trans hk
 replace HFS := hide ((uh HFS).below hB3)
 replace HSB := hide ((uh HSB).below hB3 (uh HSB).lt)
 replace HZ := hide ((uh HZ).below hB3)
 replace HKP := hide ((uh HKP).ofBelow hB3)
 have HB3 := hide hB3
 have hz13 := hB3.size
 clear hk hB3
 rw [show [(a : Int), (b : Int)].length = 2 from rfl]
 obtain ⟨oi, rfl, hA0, hA1⟩ := irow_at hIR (by simp)
 have HA0 := hide hA0
 have HA1 := hide (hA1 (by simp))
 have hgi := hgl (by simp)
 clear hIR hgl hA0 hA1
 obtain ⟨⟨c0, c1, c2⟩, _⟩ := three_at (uh HSB).h
 have HC0 := hide c0
 have HC1 := hide c1
 have HC2 := hide c2
 clear c0 c1 c2
 go_wp2_with fail
 have hloR : lo ≤ w3.heap.size := by have h1 := (uh HKP).size; omega
 replace HFS := hide ((uh HFS).below (Below.refl _ _).drew)
 refine wp_region_noPanic ?_
 refine wp_region_held_drew (S := fun W => Kp [gp, gq, gR] w3 W) (by kernel_rfl) ((Kp.refl _ _).drew) (fun hHeld => ?_)
 have HH := hide hHeld
 clear hHeld
 refine tkW 0 (v := ?_) ?_ (uh HH) ?_
 rotate_left 1
 ·intro W1 hSW; have hc0 := hSW.cell (uh HC0) (by simp; omega); have hc1 := hSW.cell (uh HC1) (by simp; omega); have hc2 := hSW.cell (uh HC2) (by simp; omega); clear hSW; go_simp; all_goals (with_reducible rfl)
 (try simp only [layB])
 refine tkL 1 (uh HH) ?_
 (try simp only [layB])
 refine tkL 2 (uh HH) ?_
 (try simp only [layB])
 refine tkL 3 (uh HH) ?_
 (try simp only [layB])
 refine tkW 4 (v := ?_) ?_ (uh HH) ?_
 rotate_left 1
 ·intro W1 hSW; have hc0 := hSW.cell (uh HA1) (by simp; omega); clear hSW; go_simp; all_goals (with_reducible rfl)
 (try simp only [layB])
 refine tkW 5 (v := ?_) ?_ (uh HH) ?_
 rotate_left 1
 ·intro W1 hSW; have hc0 := hSW.cell (uh HC0) (by simp; omega); have hc1 := hSW.cell (uh HC1) (by simp; omega); have hc2 := hSW.cell (uh HC2) (by simp; omega); clear hSW; go_simp; all_goals (with_reducible rfl)
 (try simp only [layB])
 refine tkL 6 (uh HH) ?_
 (try simp only [layB])
 refine tkL 7 (uh HH) ?_
 (try simp only [layB])
 refine tkW 8 (v := ?_) ?_ (uh HH) ?_
 rotate_left 1
 ·intro W1 hSW; have hc0 := hSW.cell (uh HA1) (by simp; omega); clear hSW; go_simp; all_goals (with_reducible rfl)
 (try simp only [layB])
 refine tkL 9 (uh HH) ?_
 (try simp only [layB])
 refine tkL 10 (uh HH) ?_
 (try simp only [layB])
 refine tkW 11 (v := ?_) ?_ (uh HH) ?_
 rotate_left 1
 ·intro W1 hSW; have hc0 := hSW.cell (uh HA0) (by simp; omega); clear hSW; go_simp; all_goals (with_reducible rfl)
 (try simp only [layB])
 refine wpAnyH_ready (rs := [12]) (by kernel_rfl) (by simp) ?_
 refine consL rfl (fun K hK => ?_) AllReadyH.nil
 go_simp
 refine (parted_any d hd gp gq n n n _ _ b a (by omega) (by omega) _ (uh HFS).p (uh HFS).q (smL_len _ _ _ _) (smL_len _ _ _ _) (smL_bs (uh HFS).bs) (smL_bs (uh HFS).bs) hn).mono ?_
 rintro e w31 ⟨g9, rfl, hg9, hb9, hk4⟩
 replace HFS := hide ((uh HFS).below hk4)
 have hlo5 : lo ≤ w3.heap.size := Nat.le_trans hloR (uh HH).size
 have HCL : Hid (Fr lo w31 (.slice (some ⟨g9, 0, none⟩) n n) (partL (smL (shP d) out (is) n) (smL (shQ d) out (is) n) (shQ d b) (shQ d a) n)) := .inr ⟨g9, n, by rw [partL_len], by rw [partL_len]; exact Nat.le_refl _, by unfold maxLen; omega, hb9, Nat.le_trans hlo5 hg9⟩
 have HK4 := hide hk4
 clear hk4 hb9 hlo5 hg9
 go_wp2_with fail
 refine hK.out _ _ ((uh HH).ofBelow (uh HK4)) (fun hHeld => ?_)
 clear hK K HH
 have HH := hide hHeld
 clear hHeld
 (try simp only [layB])
 clear HK4
 refine wpAnyH_ready (rs := [13]) (by kernel_rfl) (by simp) ?_
 refine consL rfl (fun K hK => ?_) AllReadyH.nil
 have hf1 := (uh HFS).hp
 have hf2 := (uh HFS).hq
 have hf3 := (uh HFS).hR
 obtain ⟨g5, hA5, hg5⟩ := (uh HCL).arg (partL_bs (smL_bs (uh HFS).bs) (smL_bs (uh HFS).bs))
 have HA5 := hide hA5
 clear hA5
 go_simp
 refine (put_any d hd gp gq gR n n n N N _ _ _ (b) (by omega) hbN _ g5 _ _ (uh HFS).p (uh HFS).q (smL_len _ _ _ _) (smL_len _ _ _ _) (smL_bs (uh HFS).bs) (smL_bs (uh HFS).bs) (uh HFS).pq (uh HA5) (partL_len _ _ _ _ _) (fun _ => ⟨by omega, by omega, by omega⟩) hn (uh HFS).R (by rw [(uh HFS).cs]; exact Nat.le_refl _)).mono ?_
 rintro e w32 ⟨⟨u9, rfl⟩, hp9, hq9, hR9, hk9⟩
 replace HFS := hide ((uh HFS).put (i := b) hbN (uh HNB) (uh HCL) (partL_len _ _ _ _ _) (partL_bs (smL_bs (uh HFS).bs) (smL_bs (uh HFS).bs)) hp9 hq9 hR9 hk9)
 have HK4 := hide hk9
 clear hp9 hq9 hR9 hk9 HA5 hg5 HCL hf1 hf2 hf3
 go_wp2_with fail
 refine hK.out _ _ ((uh HH).trans (uh HK4) (by simp)) (fun hHeld => ?_)
 clear hK K HH
 have HH := hide hHeld
 clear hHeld
 (try simp only [layB])
 clear HK4
 refine wpAnyH_done (by kernel_rfl) ?_ _
 refine NoPanic.normal ?_
 replace HKP := hide ((uh HKP).trans (uh HH) (by simp))
 replace HSB := hide ((uh HSB).kp (uh HH) (by simp; omega))
 replace HZ := hide ((uh HZ).keepK (uh HH) (fun h => by have := uh HZN h; simp; omega))
 replace HA0 := hide ((uh HH).cell (uh HA0) (by simp; omega))
 clear HH hloR
 go_wp2_with fail
 (try go_step3)
 obtain ⟨⟨c0, c1, c2⟩, _⟩ := three_at (uh HSB).h
 have HC0 := hide c0
 have HC1 := hide c1
 have HC2 := hide c2
 clear c0 c1 c2
 go_wp2_with fail
 have hloR : lo ≤ w32.heap.size := by have h1 := (uh HKP).size; omega
 replace HFS := hide ((uh HFS).below (Below.refl _ _).drew)
 refine wp_region_noPanic ?_
 refine wp_region_held_drew (S := fun W => Kp [gp, gq, gR] w32 W) (by kernel_rfl) ((Kp.refl _ _).drew) (fun hHeld => ?_)
 have HH := hide hHeld
 clear hHeld
 refine tkW 0 (v := ?_) ?_ (uh HH) ?_
 rotate_left 1
 ·intro W1 hSW; have hc0 := hSW.cell (uh HC0) (by simp; omega); have hc1 := hSW.cell (uh HC1) (by simp; omega); have hc2 := hSW.cell (uh HC2) (by simp; omega); clear hSW; go_simp; all_goals (with_reducible rfl)
 (try simp only [layB])
 refine tkL 1 (uh HH) ?_
 (try simp only [layB])
 refine tkL 2 (uh HH) ?_
 (try simp only [layB])
 refine tkL 3 (uh HH) ?_
 (try simp only [layB])
 refine tkW 4 (v := ?_) ?_ (uh HH) ?_
 rotate_left 1
 ·intro W1 hSW; have hc0 := hSW.cell (uh HA0) (by simp; omega); clear hSW; go_simp; all_goals (with_reducible rfl)
 (try simp only [layB])
 refine tkL 5 (uh HH) ?_
 (try simp only [layB])
 refine tkW 6 (v := ?_) ?_ (uh HH) ?_
 rotate_left 1
 ·intro W1 hSW; have hc0 := hSW.cell (uh HC1) (by simp; omega); clear hSW; go_simp; all_goals (with_reducible rfl)
 (try simp only [layB])
 refine wpAnyH_ready (rs := [7]) (by kernel_rfl) (by simp) ?_
 refine consL rfl (fun K hK => ?_) AllReadyH.nil
 go_simp
 refine (cloneB_any5 _ gp _ _ ((uh HFS).argP hn) (by rw [smL_len]; exact hn)).mono ?_
 rintro e w33 ⟨v5, rfl, hCL, hk4⟩
 replace HFS := hide ((uh HFS).below hk4)
 have hlo5 : lo ≤ w32.heap.size := Nat.le_trans hloR (uh HH).size
 have HCL := hide (hCL.lower hlo5)
 have HK4 := hide hk4
 clear hk4 hCL hlo5
 go_wp2_with fail
 refine hK.out _ _ ((uh HH).ofBelow (uh HK4)) (fun hHeld => ?_)
 clear hK K HH
 have HH := hide hHeld
 clear hHeld
 (try simp only [layB])
 clear HK4
 refine wpAnyH_ready (rs := [8]) (by kernel_rfl) (by simp) ?_
 refine consL rfl (fun K hK => ?_) AllReadyH.nil
 have hf1 := (uh HFS).hp
 have hf2 := (uh HFS).hq
 have hf3 := (uh HFS).hR
 obtain ⟨g5, hA5, hg5⟩ := (uh HCL).arg (smL_bs (uh HFS).bs)
 have HA5 := hide hA5
 clear hA5
 go_simp
 refine (put_any d hd gp gq gR n n n N N _ _ _ (a) (by omega) haN _ g5 _ _ (uh HFS).p (uh HFS).q (smL_len _ _ _ _) (smL_len _ _ _ _) (smL_bs (uh HFS).bs) (smL_bs (uh HFS).bs) (uh HFS).pq (uh HA5) (smL_len _ _ _ _) (fun _ => ⟨by omega, by omega, by omega⟩) hn (uh HFS).R (by rw [(uh HFS).cs]; exact Nat.le_refl _)).mono ?_
 rintro e w34 ⟨⟨u9, rfl⟩, hp9, hq9, hR9, hk9⟩
 replace HFS := hide ((uh HFS).put (i := a) haN (fun hm => by rcases List.mem_append.1 hm with h | h; exact uh HNA h; exact hab (List.mem_singleton.1 h)) (uh HCL) (smL_len _ _ _ _) (smL_bs (uh HFS).bs) hp9 hq9 hR9 hk9)
 have HK4 := hide hk9
 clear hp9 hq9 hR9 hk9 HA5 hg5 HCL hf1 hf2 hf3
 go_wp2_with fail
 refine hK.out _ _ ((uh HH).trans (uh HK4) (by simp)) (fun hHeld => ?_)
 clear hK K HH
 have HH := hide hHeld
 clear hHeld
 (try simp only [layB])
 clear HK4
 refine wpAnyH_done (by kernel_rfl) ?_ _
 refine NoPanic.normal ?_
 replace HKP := hide ((uh HKP).trans (uh HH) (by simp))
 replace HSB := hide ((uh HSB).kp (uh HH) (by simp; omega))
 replace HZ := hide ((uh HZ).keepK (uh HH) (fun h => by have := uh HZN h; simp; omega))
 clear HH hloR
 go_wp2_with fail
 (try go_step3)
 obtain ⟨⟨c0, c1, c2⟩, _⟩ := three_at (uh HSB).h
 have HC0 := hide c0
 have HC1 := hide c1
 have HC2 := hide c2
 go_wp2_with fail
 refine (second_any d hd _ _ _ _ _ _ _).mono ?_
 rintro e w35 ⟨rfl, hk4⟩
 replace HFS := hide ((uh HFS).below hk4)
 replace HSB := hide ((uh HSB).below hk4 (uh HSB).lt)
 replace HZ := hide ((uh HZ).below hk4)
 replace HKP := hide ((uh HKP).ofBelow hk4)
 replace HC0 := hide ((hk4.cell (block_lt_of_cell (uh HC0))).trans (uh HC0))
 replace HC1 := hide ((hk4.cell (block_lt_of_cell (uh HC1))).trans (uh HC1))
 replace HC2 := hide ((hk4.cell (block_lt_of_cell (uh HC2))).trans (uh HC2))
 clear hk4 c0 c1 c2
 go_wp2_with fail
 refine (contains_any _ gz zs _ w35 (uh HZ)).mono ?_
 rintro e w0 ⟨rfl, hw0⟩
 subst hw0
 by_cases hD : ((d + 1 : Nat) : Int) ∈ zs
 ·exact absurd hD (uh HDN)
 have hdd : decide ((d : Int) + 1 ∈ zs) = false := by simpa using hD
 rw [hdd]
 have HD := hide hD
 clear hdd hD
 go_wp2_with fail
 (try simp only [Exit.jump])
 (try simp only [Exit.noGoto_normal])
 (try simp only [Exit.then])
 go_wp2
 (try simp only [Exit.jump])
 (try simp only [Exit.noGoto_normal])
 go_end0
 have hjs : jsOf d zs = [b, a] := by unfold jsOf; rw [uh HM]; rw [if_neg (uh HD)]; simp
 have hFF := uh HFS
 rw [show (is ++ [b] ++ [a]) = is ++ jsOf d zs from by simp [hjs]] at hFF
 exact ⟨⟨_, rfl⟩, _, _, hFF, uh HKP, done_two (uh HM) (uh HD) hd had hbd hab (by rw [uh HOL]; omega) (by rw [uh HOL]; omega) (uh HNA) (uh HNB) (uh HOB)⟩
end Go.Proofs.YtjdikhelabibnaaGreat
