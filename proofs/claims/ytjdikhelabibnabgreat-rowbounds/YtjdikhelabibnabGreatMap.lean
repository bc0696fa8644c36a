/-
  rs.sums.fill: rows that are lost are made, from what the sums lack.
-/
import Derived.Test.YtjdikhelabibnabGreatMan
import Derived.Test.YtjdikhelabibnabGreatMao
import Derived.ScopeJumps
import Derived.WalkMore
namespace Go.Proofs.YtjdikhelabibnabGreat
open Go.RowKit

theorem addF_self {P : List Nat} (h : Bs P) : addF P P 1 = List.replicate P.length 0 := by
  refine eq_of_cf (by rw [addF_len]; simp) (fun j => ?_)
  rw [cf_addF, cf_replicate]
  split
  · rw [gmul_one (h j), Nat.xor_self]
  · rfl
theorem addF_none {P r : List Nat} : addF P r 0 = P := by
  refine eq_of_cf (addF_len _ _ _) (fun j => ?_)
  rw [cf_addF]
  split
  · rw [gmul_zero, Nat.xor_zero]
  · rw [cf_ge (by omega)]
theorem shQ_ne {d i j : Nat} (hd : d ≤ 14) (hi : i ≤ d) (hj : j ≤ d) (hne : i ≠ j) : shQ d i ^^^ shQ d j ≠ 0 := by
  rw [Ne, xor_nil]
  have hE : ∀ {a b : Nat}, a ≤ 14 → b ≤ 14 → E a = E b → a = b := fun ha hb h => by
    have h1 : L (E _) = L (E _) := congrArg L h
    rw [L_E (by omega), L_E (by omega)] at h1
    exact h1
  unfold shQ
  have n1 : i ≠ d + 1 := by omega
  have n2 : j ≠ d + 1 := by omega
  rw [if_neg n1, if_neg n2]
  by_cases e1 : i = d
  · rw [if_pos e1]
    by_cases e2 : j = d
    · omega
    · rw [if_neg e2]
      have := E_ne j
      omega
  · rw [if_neg e1]
    by_cases e2 : j = d
    · rw [if_pos e2]
      have := E_ne i
      omega
    · rw [if_neg e2]
      exact fun h => hne (hE (by omega) (by omega) h)
theorem two_zero {P Q : List Nat} {a b n : Nat} (hP : Bs P) (hQ : Bs Q) (ha : a < 256) (hb : b < 256) (hne : a ^^^ b ≠ 0) (hl1 : P.length = n) (hl2 : Q.length = n) : addF (addF Q (partL P Q a b n) a) (addF P (partL P Q a b n) 1) b = List.replicate n 0 := by
  refine eq_of_cf (by rw [addF_len, addF_len, hl2]; simp) (fun k => ?_)
  rw [cf_addF, addF_len, hl2, cf_replicate]
  by_cases hk : k < n
  · rw [if_pos hk, cf_addF, if_pos (by omega), cf_addF, if_pos (by omega)]
    have hx : cf (partL P Q a b n) k = partF P Q a b k := by unfold partL; rw [cf_fillK, if_pos hk, if_pos hk]
    have hxl : partF P Q a b k < 256 := gmul_lt (xor_lt (hQ k) (gmul_lt (hP k)))
    rw [hx, gmul_one hxl, xor_gmul (hP k) hxl hb]
    have hs : a ^^^ b < 256 := xor_lt ha hb
    have hT : cf Q k ^^^ gmul (cf P k) b < 256 := xor_lt (hQ k) (gmul_lt (hP k))
    have hm : gmul (partF P Q a b k) (a ^^^ b) = cf Q k ^^^ gmul (cf P k) b := by
      unfold partF
      rw [gmul_assoc hT (pw_lt _ _) hs, gmul_comm (pw_lt _ _) hs, gmul_inv hs hne, gmul_one hT]
    rw [gmul_xor] at hm
    generalize gmul (partF P Q a b k) a = u at *
    generalize gmul (partF P Q a b k) b = v at *
    generalize gmul (cf P k) b = t at *
    generalize cf Q k = q at *
    have e : q ^^^ u ^^^ (t ^^^ v) = (u ^^^ v) ^^^ (q ^^^ t) := by
      rw [Nat.xor_assoc, Nat.xor_comm (u ^^^ v), ← Nat.xor_assoc u, Nat.xor_comm u t, Nat.xor_assoc t, ← Nat.xor_assoc]
    rw [e, hm, Nat.xor_self]
  · rw [if_neg hk]

theorem getD_set {l : List (List Nat)} {i j : Nat} {r : List Nat} (hi : i < l.length) : (l.set i r).getD j [] = if i = j then r else l.getD j [] := by
  rw [List.getD_eq_getElem?_getD, List.getD_eq_getElem?_getD, List.getElem?_set]
  by_cases e : i = j
  · subst e; simp [hi]
  · rw [if_neg e, if_neg e]
theorem sm_set {c : Nat → Nat} {l : List (List Nat)} {is : List Nat} {i k : Nat} {r : List Nat} (hi : i < l.length) (h : i ∉ is) : sm c (l.set i r) is k = sm c l is k := xsum_congr (fun j hj => by
  show gmul (rc (l.set i r) j k) (c j) = _
  unfold rc
  rw [getD_set hi, if_neg (fun e => h (by rw [e]; exact hj))])
theorem addF_set {c : Nat → Nat} {l : List (List Nat)} {is : List Nat} {i n : Nat} {r : List Nat} (hi : i < l.length) (h : i ∉ is) : smL c (l.set i r) (is ++ [i]) n = addF (smL c l is n) r (c i) := by
  rw [← addF_smL, getD_set hi, if_pos rfl]
  congr 1
  exact List.map_congr_left (fun k _ => sm_set hi h)

/-- The rows so far: those of is are there, and in the sums. -/
structure FSt (d : Nat) (W : World) (lo gp gq gR n N : Nat) (is : List Nat) (cur : Array Value) (out : List (List Nat)) : Prop where
  p : Blk W gp (smL (shP d) out is n)
  q : Blk W gq (smL (shQ d) out is n)
  R : W.heap[gR]? = some (.cells cur 33 (0, 0))
  len : out.length = N
  cs : cur.size = N
  rows : ∀ i, i ∈ is → i < N ∧ (out.getD i []).length = n ∧ ∃ v, cur[i]? = some v ∧ Fr lo W v (out.getD i [])
  bs : ∀ i, Bs (out.getD i [])
  hp : gp < lo
  hq : gq < lo
  hR : gR < lo
  pq : gp ≠ gq

theorem Fr.kp {S : List Nat} {n : Nat} {w w' : World} {v : Value} {s : List Nat} (h : Fr n w v s) (k : Kp S w w') (hs : ∀ x ∈ S, x < n) : Fr n w' v s := by
  rcases h with h | ⟨g, c, h1, h2, h3, h4, h5⟩
  · exact .inl h
  · exact .inr ⟨g, c, h1, h2, h3, h4.of (k.block g h4.lt (fun hm => by have := hs g hm; omega)), h5⟩
theorem FSt.below {d lo gp gq gR n N : Nat} {W W' : World} {is : List Nat} {cur : Array Value} {out : List (List Nat)} (h : FSt d W lo gp gq gR n N is cur out) (k : Below W.heap.size W W') : FSt d W' lo gp gq gR n N is cur out :=
  ⟨h.p.below k h.p.lt, h.q.below k h.q.lt, (k.block gR (lt_of_block h.R)).trans h.R, h.len, h.cs, fun i hi => by
    obtain ⟨h1, h2, v, h3, h4⟩ := h.rows i hi
    exact ⟨h1, h2, v, h3, h4.below k (Nat.le_refl _)⟩, h.bs, h.hp, h.hq, h.hR, h.pq⟩
theorem FSt.put {d lo gp gq gR n N : Nat} {W W' : World} {is : List Nat} {cur : Array Value} {out : List (List Nat)} (h : FSt d W lo gp gq gR n N is cur out) {i : Nat} {r : List Nat} {v : Value} (hi : i < N) (hni : i ∉ is) (hF : Fr lo W v r) (hl : r.length = n) (hb : Bs r)
    (hp : Blk W' gp (addF (smL (shP d) out is n) r (shP d i))) (hq : Blk W' gq (addF (smL (shQ d) out is n) r (shQ d i))) (hR : W'.heap[gR]? = some (.cells (cur.setIfInBounds i v) 33 (0, 0))) (hk : Kp [gp, gq, gR] W W') :
    FSt d W' lo gp gq gR n N (is ++ [i]) (cur.setIfInBounds i v) (out.set i r) := by
  have hio : i < out.length := by rw [h.len]; exact hi
  have hS : ∀ x ∈ [gp, gq, gR], x < lo := by
    have := h.hp
    have := h.hq
    have := h.hR
    intro x hx
    simp at hx
    omega
  refine ⟨by rw [addF_set hio hni]; exact hp, by rw [addF_set hio hni]; exact hq, hR, by simp [h.len], by simp [h.cs], fun j hj => ?_, fun j => ?_, h.hp, h.hq, h.hR, h.pq⟩
  · rw [getD_set hio]
    by_cases e : i = j
    · subst e
      rw [if_pos rfl]
      exact ⟨hi, hl, v, by simp [h.cs, hi], hF.kp hk hS⟩
    · rw [if_neg e]
      have hj' : j ∈ is := by
        rcases List.mem_append.1 hj with h | h
        · exact h
        · exact absurd (List.mem_singleton.1 h).symm e
      obtain ⟨h1, h2, v', h3, h4⟩ := h.rows j hj'
      exact ⟨h1, h2, v', by rw [Array.getElem?_setIfInBounds, if_neg e]; exact h3, h4.kp hk hS⟩
  · rw [getD_set hio]
    split
    · exact hb
    · exact h.bs j

theorem Fr.lower {n m : Nat} {w : World} {v : Value} {s : List Nat} (h : Fr n w v s) (hm : m ≤ n) : Fr m w v s := by
  rcases h with h | ⟨g, c, h1, h2, h3, h4, h5⟩
  · exact .inl h
  · exact .inr ⟨g, c, h1, h2, h3, h4, by omega⟩
theorem FSt.argP {d lo gp gq gR n N : Nat} {W : World} {is : List Nat} {cur : Array Value} {out : List (List Nat)} (h : FSt d W lo gp gq gR n N is cur out) (hn : n ≤ 100000) : Arg W (.slice (some ⟨gp, 0, none⟩) n n) gp (smL (shP d) out is n) := by
  have := h.p.arg (c := n) (smL_bs h.bs) (by rw [smL_len]; exact Nat.le_refl _) (by unfold maxLen; omega)
  rwa [smL_len] at this
theorem FSt.argQ {d lo gp gq gR n N : Nat} {W : World} {is : List Nat} {cur : Array Value} {out : List (List Nat)} (h : FSt d W lo gp gq gR n N is cur out) (hn : n ≤ 100000) : Arg W (.slice (some ⟨gq, 0, none⟩) n n) gq (smL (shQ d) out is n) := by
  have := h.q.arg (c := n) (smL_bs h.bs) (by rw [smL_len]; exact Nat.le_refl _) (by unfold maxLen; omega)
  rwa [smL_len] at this
theorem partL_len (P Q : List Nat) (a b n : Nat) : (partL P Q a b n).length = n := fillK_len _ _ _
theorem partL_bs {P Q : List Nat} {a b n : Nat} (hP : Bs P) (hQ : Bs Q) : Bs (partL P Q a b n) := fillK_bs (fun k => gmul_lt (xor_lt (hQ k) (gmul_lt (hP k))))
theorem irow_at {w : World} {ao : Option Addr} {g : Nat} {zs : List Int} (h : IRow w ao g zs) (h0 : 0 < zs.length) : ∃ o, ao = some ⟨g, o, none⟩ ∧ w.cell? ⟨g, o, none⟩ = some (.int .i64 (zs.getD 0 0)) ∧ (1 < zs.length → w.cell? ⟨g, o + 1, none⟩ = some (.int .i64 (zs.getD 1 0))) := by
  obtain ⟨o, h1, h2⟩ := irow_some' h h0
  exact ⟨o, h1, h2 0 h0, fun h3 => h2 1 h3⟩

/-- In what order the rows are made. -/
def jsOf (d : Nat) (zs : List Int) : List Nat := (inP d zs).reverse.map Int.toNat ++ (if ((d + 1 : Nat) : Int) ∈ zs then [d + 1] else [])
/-- What fill leaves. -/
structure Done (d n : Nat) (zs : List Int) (is : List Nat) (out out' : List (List Nat)) : Prop where
  same : ∀ i, i ∉ jsOf d zs → out'.getD i [] = out.getD i []
  pz : inP d zs ≠ [] → smL (shP d) out' (is ++ jsOf d zs) n = List.replicate n 0
  qz : ((inP d zs).length = 2 ∨ ((d + 1 : Nat) : Int) ∈ zs) → smL (shQ d) out' (is ++ jsOf d zs) n = List.replicate n 0

end Go.Proofs.YtjdikhelabibnabGreat
