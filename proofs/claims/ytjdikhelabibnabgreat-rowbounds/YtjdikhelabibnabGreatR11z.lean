/-
  Rows of which one page is wrong, or stands elsewhere, or is blank: what Decode tells of them, by itself.
-/
import Derived.Test.YtjdikhelabibnabGreatR11x
namespace Go.Proofs.YtjdikhelabibnabGreat
open Go Go.RowKit Go.Shelf

theorem getD_ext11 {l l' : List (List Nat)} (hl : l.length = l'.length) (h : ∀ i, i < l.length → l.getD i [] = l'.getD i []) : l = l' := by
  refine List.ext_getElem hl (fun i h1 h2 => ?_)
  have := h i h1
  rw [List.getD_eq_getElem?_getD, List.getD_eq_getElem?_getD, List.getElem?_eq_getElem h1, List.getElem?_eq_getElem h2] at this
  exact this
theorem getD_set11 {l : List (List Nat)} {k : Nat} (hk : k < l.length) (x : List Nat) (j : Nat) : (l.set k x).getD j [] = if k = j then x else l.getD j [] := by
  rw [List.getD_eq_getElem?_getD, List.getD_eq_getElem?_getD, List.getElem?_set]
  by_cases e : k = j
  · rw [if_pos e, if_pos e, if_pos (by omega)]; rfl
  · rw [if_neg e, if_neg e]
/-- One lost, another one wrong: told. -/
theorem detect11 {l t x : List (List Nat)} {d s i k : Nat} {bad : List Nat} (hl : l.length = d) (h2 : 2 ≤ d) (h14 : d ≤ 14) (hs : ∀ i, i < d → (l.getD i []).length = s) (hb : ∀ i, Bs (l.getD i [])) (hi : i < d + 2) (hk : k < d + 2) (hik : i ≠ k) (hbl : bad.length = s)
    (ht : t = (withP l).set k bad) (hx : IsFix t [(i : Int)] x s) (hne : bad ≠ (withP l).getD k []) : chk x = false := by
  obtain ⟨f1, f2, f3, f4⟩ := withP_facts hl h2 h14 hs hb
  have hwl : (withP l).length = d + 2 := by rw [withP_len, hl]
  have htl : t.length = d + 2 := by rw [ht, List.length_set, hwl]
  have hxl : x.length = d + 2 := by rw [hx.len, htl]
  have hkw : k < (withP l).length := by rw [hwl]; exact hk
  cases hc : chk x with
  | false => rfl
  | true =>
    exfalso
    obtain ⟨hok, hp, hq⟩ := chk_parts hc
    have hsz : size x = s := hx.sz 0 (by rw [htl]; omega)
    rw [hsz, hxl, show d + 2 - 2 = d from by omega] at hp hq
    have hpk2 : pk [(i : Int), (k : Int)] (d + 2) = true := pk_of ⟨by simp, by simp; omega, by simp; omega⟩
    have hxk : x.getD k [] = bad := by
      rw [hx.same k (by rw [htl]; exact hk) (by simp [keep]; omega), ht, getD_set11 hkw, if_pos rfl]
    refine hne (eq_of_cf (by rw [hbl, f1 k hk]) (fun c => ?_))
    by_cases hcs : c < s
    · have h0 := supp_zero (d := d) (N := d + 2) (zs := [(i : Int), (k : Int)]) (e := fun j => rc x j c ^^^ rc (withP l) j c) (by omega) rfl hpk2 (fun j => xor_lt (hx.bs j c) (f2 j c)) (fun j hj hkj => by
        have hji : i ≠ j := fun e2 => by rw [← e2] at hkj; simp [keep] at hkj
        have hjk : k ≠ j := fun e2 => by rw [← e2] at hkj; simp [keep] at hkj
        show rc x j c ^^^ rc (withP l) j c = 0
        unfold rc
        rw [hx.same j (by rw [htl]; exact hj) (by simp [keep]; omega), ht, getD_set11 hkw, if_neg hjk, Nat.xor_self])
        (fun _ => by rw [sm_diff (shP_lt _) hx.bs f2, hp c hcs, f3 c hcs, Nat.xor_self]) (fun _ => by rw [sm_diff (shQ_lt _) hx.bs f2, hq c hcs, f4 c hcs, Nat.xor_self]) k hk
      have h1 := xor_nil.1 h0
      unfold rc at h1
      rw [hxk] at h1
      exact h1
    · rw [cf_ge (by rw [hbl]; omega), cf_ge (by rw [f1 k hk]; omega)]
theorem chk_nil : chk [] = false := by
  cases h : chk [] with
  | false => rfl
  | true =>
    obtain ⟨h1, -, -⟩ := chk_parts h
    simp [okC] at h1
/-- None lost, or one, and another one wrong: what is made of it isn't right. -/
theorem wrong_chk {a b c : Int} {n : Nat} {S : List EV} {bad : List Nat} {l : List (List Nat)} {k : Nat} {zs : List Int} (hok : ∀ i, (S.getD i zEV).Ok) (h4 : 4 ≤ n) (h6 : n ≤ 6) (hk : k < n + 2) (hbl : bad.length = 48) (hbb : Bs bad) (hne : bad ≠ (encL n a b c S).getD k [])
    (hz : zs = [] ∨ ∃ j : Nat, zs = [(j : Int)] ∧ j < n + 2 ∧ j ≠ k) (hll : l.length = n + 2) (hl : ∀ i, i < n + 2 → keep zs i = true → l.getD i [] = ((encL n a b c S).set k bad).getD i []) : chk (fixL l zs) = false := by
  obtain ⟨f1, f2, f3, f4⟩ := encL_facts (a := a) (b := b) (c := c) (d := n) hok (by omega) (by omega)
  have hel : (encL n a b c S).length = n + 2 := encL_len _ _ _ _ _
  have htl : ((encL n a b c S).set k bad).length = n + 2 := by rw [List.length_set, hel]
  have hbs : ∀ i, Bs (((encL n a b c S).set k bad).getD i []) := fun i => by
    rw [getD_set11 (by rw [hel]; exact hk)]
    split
    · exact hbb
    · exact f2 i
  have hsz : ∀ i, i < n + 2 → (((encL n a b c S).set k bad).getD i []).length = 48 := fun i hi => by
    rw [getD_set11 (by rw [hel]; exact hk)]
    split
    · exact hbl
    · exact f1 i hi
  by_cases hex : ∃ out m, IsFix l zs out m
  · obtain ⟨m, hm⟩ : ∃ m, IsFix l zs (fixL l zs) m := pickL_spec (P := fun out => ∃ m, IsFix l zs out m) hex
    generalize fixL l zs = x at hm ⊢
    have hx : IsFix ((encL n a b c S).set k bad) zs x m := hm.other (by rw [htl, hll]) (fun i hi hki => (hl i (by rw [← hll]; exact hi) hki).symm)
    have hxl : x.length = n + 2 := by rw [hx.len, htl]
    have hm48 : m = 48 := by
      obtain ⟨j, hj, hkj⟩ : ∃ j, j < n + 2 ∧ keep zs j = true := by
        rcases hz with rfl | ⟨j, rfl, hj, -⟩
        · exact ⟨0, by omega, by simp [keep]⟩
        · by_cases h0 : j = 0
          · exact ⟨1, by omega, by simp [keep]; omega⟩
          · exact ⟨0, by omega, by simp [keep]; omega⟩
      rw [← hx.szl j (by rw [htl]; exact hj) hkj]; exact hsz j hj
    subst hm48
    have hd1 := fun (i : Nat) (hi : i < n + 2) (hik : i ≠ k) (h : IsFix ((encL n a b c S).set k bad) [(i : Int)] x 48) => detect11 (l := dataL n a b c S) (dataL_len _ _ _ _ _) (by omega) (by omega) (fun _ hi => dataL_sz hok hi) (dataL_bs hok) hi hk hik hbl rfl h hne
    rcases hz with rfl | ⟨j, rfl, hj, hjk⟩
    · cases hc : chk x with
      | false => rfl
      | true =>
        obtain ⟨-, hp, hq⟩ := chk_parts hc
        have hsx : size x = 48 := hx.sz 0 (by rw [htl]; omega)
        rw [hsx, hxl] at hp hq
        obtain ⟨i, hi, hik⟩ : ∃ i, i < n + 2 ∧ i ≠ k := by
          by_cases h0 : k = 0
          · exact ⟨1, by omega, by omega⟩
          · exact ⟨0, by omega, by omega⟩
        have hI : IsFix ((encL n a b c S).set k bad) [(i : Int)] x 48 := ⟨hx.len, fun q hq' _ => hsz q (by rw [← htl]; exact hq'), hx.sz, fun q hq' _ => hx.same q hq' (by simp [keep]), hx.bs, fun _ => by rw [htl]; exact hp, fun _ => by rw [htl]; exact hq⟩
        rw [← hd1 i hi hik hI, hc]
    · exact hd1 j hj hjk hx
  · have : fixL l zs = [] := by unfold fixL pickL; rw [dif_neg hex]
    rw [this]; exact chk_nil

/-- The pages of an encoded row: what Decode makes of them, wherever it is looked for. -/
theorem decF_enc {d : Nat} {a b c sup at' : Int} {S : List EV} (hok : ∀ i, (S.getD i zEV).Ok) (h4 : 4 ≤ d) (h6 : d ≤ 6) {A : Nat → Option Addr} {C gf : Nat → Nat} {most : Int} (hm : 0 ≤ most ∧ most ≤ 2) :
    decF sup at' (pagesL A C gf (encL d a b c S) (d + 2) []) most = rowF sup at' (encL d a b c S) := by
  obtain ⟨f1, f2, f3, f4⟩ := encL_facts (a := a) (b := b) (c := c) (d := d) hok (by omega) (by omega)
  have hlen : (pagesL A C gf (encL d a b c S) (d + 2) []).length = d + 2 := pagesL_len _ _ _ _ _ _
  have hlo : lostG (pagesL A C gf (encL d a b c S) (d + 2) []) = [] := by
    rw [pagesL_lost]; simp
  have hmem : ∀ p ∈ pagesL A C gf (encL d a b c S) (d + 2) [], ∃ i, i < d + 2 ∧ p = ⟨2, A i, C i, gf i, (encL d a b c S).getD i []⟩ := fun p hp => by
    obtain ⟨i, hi, rfl⟩ := List.mem_map.1 hp
    exact ⟨i, List.mem_range.1 hi, by rw [if_neg (by simp)]⟩
  have hany : (pagesL A C gf (encL d a b c S) (d + 2) []).any (fun p => p.st == 0) = false := by
    rw [List.any_eq_false]
    intro p hp
    obtain ⟨i, -, rfl⟩ := hmem p hp
    simp
  have hall : (pagesL A C gf (encL d a b c S) (d + 2) []).all (fun p => p.st == 0) = false := by
    rw [Bool.eq_false_iff]
    intro h
    have h0 := getD_mem11 (z := zPV) (i := 0) (l := pagesL A C gf (encL d a b c S) (d + 2) []) (by rw [hlen]; omega)
    have hz := List.all_eq_true.1 h _ h0
    have := List.any_eq_false.1 hany _ h0
    rw [hz] at this
    exact absurd rfl this
  have hodd : (pagesL A C gf (encL d a b c S) (d + 2) []).any oddP = false := by
    rw [List.any_eq_false]
    intro p hp
    obtain ⟨i, hi, rfl⟩ := hmem p hp
    simp [oddP]
    simpa using f1 i hi
  have hx : (pagesL A C gf (encL d a b c S) (d + 2) []).map (·.x) = encL d a b c S := by
    refine getD_ext11 (by rw [List.length_map, hlen, encL_len]) (fun i hi => ?_)
    rw [List.length_map, hlen] at hi
    rw [getD_map11, pagesL_get hi, if_neg (by simp)]
  unfold decF
  rw [if_neg (by rw [hlen]; exact fun h => h ⟨⟨by omega, by omega⟩, hm⟩), hall, hany, hlo, hodd, hx]
  simp only [Bool.false_eq_true, if_false]
  rw [if_neg (by simp; omega)]
  have hfix : fixL (encL d a b c S) (ints []) = encL d a b c S :=
    fixL_of (n := 48) (by rw [encL_len]; omega) (by rw [encL_len]; omega) (pk_of ⟨by simp [ints], by simp [ints], by simp [ints]⟩) (by simp [ints])
      ⟨rfl, fun i hi _ => f1 i (by rw [encL_len] at hi; exact hi), fun i hi => f1 i (by rw [encL_len] at hi; exact hi), fun _ _ _ => rfl, f2, by rw [encL_len]; exact fun _ => f3, by rw [encL_len]; exact fun _ => f4⟩
  rw [hfix, encL_chk hok (by omega) (by omega), if_pos rfl]
/-- It is looked for elsewhere. -/
theorem rowF_else {d : Nat} {a b c sup at' : Int} {S : List EV} (hok : ∀ i, (S.getD i zEV).Ok) (hoe : okL S) (h4 : 4 ≤ d) (h6 : d ≤ 6) (hh : okH a b c) (hne : b ≠ sup ∨ c ≠ at') : rowF sup at' (encL d a b c S) = (zRow, 5) := by
  obtain ⟨q1, q2, q3, q4, -, -⟩ := back_nbE (i := ((0 : Nat) : Int)) (hok 0) hh.1 hh.2.1 ⟨hh.2.2.1, hh.2.2.2⟩ ⟨by omega, by omega⟩ (okL_get hoe 0)
  unfold rowF
  rw [if_neg]
  intro h
  obtain ⟨-, g1, g2, -, -⟩ := h 0 (by rw [encL_len]; omega)
  rw [encL_get (by omega)] at g1 g2
  rcases hne with h | h
  · exact h (q3.symm.trans g1)
  · exact h (q4.symm.trans g2)
/-- A good page that is wrong, none lost or another one. -/
theorem decF_wrong {d : Nat} {a b c sup at' : Int} {S : List EV} (hok : ∀ i, (S.getD i zEV).Ok) (h4 : 4 ≤ d) (h6 : d ≤ 6) {A : Nat → Option Addr} {C gf : Nat → Nat} {k : Nat} {bad : List Nat} (hk : k < d + 2) (hbl : bad.length = 48) (hbb : Bs bad) (hne : bad ≠ (encL d a b c S).getD k [])
    {lost : List Nat} (hz : lost = [] ∨ ∃ j : Nat, lost = [j] ∧ j < d + 2 ∧ j ≠ k) {most : Int} (hm : 1 ≤ most ∧ most ≤ 2) : decF sup at' (pagesL A C gf ((encL d a b c S).set k bad) (d + 2) lost) most = (zRow, 5) := by
  obtain ⟨f1, f2, f3, f4⟩ := encL_facts (a := a) (b := b) (c := c) (d := d) hok (by omega) (by omega)
  have hel : (encL d a b c S).length = d + 2 := encL_len _ _ _ _ _
  have hlen : (pagesL A C gf ((encL d a b c S).set k bad) (d + 2) lost).length = d + 2 := pagesL_len _ _ _ _ _ _
  have hnd : lost.Nodup := by rcases hz with rfl | ⟨j, rfl, -, -⟩ <;> simp
  have hlt : ∀ i ∈ lost, i < d + 2 := by
    rcases hz with rfl | ⟨j, rfl, hj, -⟩
    · simp
    · intro i hi; rw [List.mem_singleton.1 hi]; exact hj
  have hl1 : lost.length ≤ 1 := by rcases hz with rfl | ⟨j, rfl, -, -⟩ <;> simp
  have hkl : k ∉ lost := by
    rcases hz with rfl | ⟨j, rfl, -, hjk⟩
    · simp
    · intro h; exact hjk (List.mem_singleton.1 h).symm
  have hnb : ∀ p ∈ pagesL A C gf ((encL d a b c S).set k bad) (d + 2) lost, p.st ≠ 0 := fun p hp => by
    rcases pagesL_mem hp with rfl | ⟨i, -, rfl⟩
    · simp [lostP]
    · simp
  have hlo : lostG (pagesL A C gf ((encL d a b c S).set k bad) (d + 2) lost) = lost := by
    rw [pagesL_lost]
    rcases hz with rfl | ⟨j, rfl, hj, -⟩
    · simp
    · refine List.Perm.eq_of_pairwise (le := (· ≤ ·)) (fun a b _ _ h1 h2 => Nat.le_antisymm h1 h2) (List.Pairwise.filter _ List.pairwise_le_range) (by simp) ((List.perm_ext_iff_of_nodup (List.Pairwise.filter _ List.nodup_range) (by simp)).2 (fun i => ?_))
      rw [List.mem_filter, List.mem_range, decide_eq_true_eq]
      exact ⟨fun h => h.2, fun h => ⟨by rw [List.mem_singleton.1 h]; exact hj, h⟩⟩
  have hany : (pagesL A C gf ((encL d a b c S).set k bad) (d + 2) lost).any (fun p => p.st == 0) = false := by
    rw [List.any_eq_false]
    intro p hp
    simpa using hnb p hp
  have hall : (pagesL A C gf ((encL d a b c S).set k bad) (d + 2) lost).all (fun p => p.st == 0) = false := by
    rw [Bool.eq_false_iff]
    intro h
    have hz := List.all_eq_true.1 h _ (getD_mem11 (z := zPV) (i := 0) (by rw [hlen]; omega))
    exact hnb _ (getD_mem11 (z := zPV) (i := 0) (by rw [hlen]; omega)) (by simpa using hz)
  have hchk : chk (fixL ((pagesL A C gf ((encL d a b c S).set k bad) (d + 2) lost).map (·.x)) (ints lost)) = false := by
    refine wrong_chk (a := a) (b := b) (c := c) (S := S) (bad := bad) (k := k) hok h4 h6 hk hbl hbb hne (by
      rcases hz with rfl | ⟨j, rfl, h1, h2⟩
      · exact .inl rfl
      · exact .inr ⟨j, rfl, h1, h2⟩) (by rw [List.length_map, hlen]) (fun i hi hki => ?_)
    rw [getD_map11, pagesL_get hi, if_neg (fun h => ?_)]
    unfold keep at hki
    simp [ints] at hki
    exact hki i h rfl
  unfold decF
  rw [if_neg (by rw [hlen]; exact fun h => h ⟨⟨by omega, by omega⟩, by omega, by omega⟩), hall, hany, hlo, hchk]
  simp only [Bool.false_eq_true, if_false]
  rw [if_neg (by omega)]
  simp
/-- Some are blank. -/
theorem decF_blank {d : Nat} {sup at' : Int} {P : List PV} (hl : P.length = d) (h6 : 6 ≤ d) (h8 : d ≤ 8) {most : Int} (hm : 0 ≤ most ∧ most ≤ 2) (hs : ∃ i, i < d ∧ (P.getD i zPV).st = 0) :
    decF sup at' P most = if ∀ i, i < d → (P.getD i zPV).st = 0 then (zRow, 2) else (zRow, 5) := by
  obtain ⟨i, hi, h0⟩ := hs
  have hc : (6 ≤ P.length ∧ P.length ≤ 8) ∧ 0 ≤ most ∧ most ≤ 2 := by rw [hl]; exact ⟨⟨h6, h8⟩, hm⟩
  by_cases h : ∀ i, i < d → (P.getD i zPV).st = 0
  · rw [if_pos h]
    refine decF_sta2 hc (staF_all ?_) (by decide)
    rw [List.any_eq_false]
    intro p hp
    obtain ⟨j, hj, he⟩ := mem_getD11 (z := zPV) hp
    rw [← he, h j (by rw [← hl]; exact hj)]
    decide
  · rw [if_neg h]
    refine decF_sta2 hc (staF_some ?_ (by rw [hl]; exact hi) h0) (by decide)
    rw [List.any_eq_true]
    obtain ⟨j, hj⟩ := Classical.not_forall.1 h
    obtain ⟨hj1, hj2⟩ := Classical.not_imp.1 hj
    exact ⟨_, getD_mem11 (z := zPV) (by rw [hl]; exact hj1), by simpa using hj2⟩
theorem turned_eq11 {r y : List Nat} {J : Nat} (hy : Bs y) (hJ : J ≤ r.length) : addK r y 1 J = r ↔ ¬ ∃ c, c < J ∧ cf y c ≠ 0 := by
  constructor
  · rintro e ⟨c, hc, hne⟩
    have h1 := congrArg (fun s => cf s c) e
    simp only [cf_addK] at h1
    rw [if_pos (by omega), if_pos hc, gmul_one (hy c)] at h1
    have h2 := congrArg (fun z => cf r c ^^^ z) h1
    simp only [← Nat.xor_assoc, Nat.xor_self, Nat.zero_xor] at h2
    exact hne h2
  · intro h
    refine eq_of_cf (addK_len _ _ _ _) (fun c => ?_)
    rw [cf_addK]
    by_cases h1 : c < r.length
    · rw [if_pos h1]
      split
      · rename_i h2
        have : cf y c = 0 := by
          by_cases h3 : cf y c = 0
          · exact h3
          · exact absurd ⟨c, h2, h3⟩ h
        rw [this, zero_gmul (by omega), Nat.xor_zero]
      · rfl
    · rw [if_neg h1, cf_ge (by omega)]
/-- A slice is stored where one stood: bytes stay. -/
theorem Arg.setslot {w : World} {v : Value} {g : Nat} {s : List Nat} (h : Arg w v g s) {p : Addr} {x : Value} (hc : w.cell? p = some x) (hx : ∀ z, x ≠ .int .u8 z) (u : Value) : Arg (w.setCell p u) v g s := by
  obtain ⟨⟨ao, c, h1, h2, h3, h4, h5⟩, hb⟩ := h
  refine ⟨⟨ao, c, h1, h2, h3, h4, ?_⟩, hb⟩
  rcases h5 with h | ⟨o, h6, h7⟩
  · exact .inl h
  · refine .inr ⟨o, h6, fun j hj => ?_⟩
    rw [World.cell?_setCell_other]
    · exact h7 j hj
    · intro e
      have := h7 j hj
      rw [← e, hc] at this
      exact hx _ (Option.some.inj this)
theorem ownR_blk11 {base : Nat} {w : World} {v : Value} {ps : List (Option Addr × Nat)} {l : List (List Nat)} {n : Nat} (h : OwnR base w v ps l) (hl : l.length = n) (h0 : 0 < n) : ∃ g cap A C, v = .slice (some ⟨g, 0, none⟩) n cap ∧ base ≤ g ∧ n ≤ cap ∧ cap ≤ maxLen ∧ RArg w (.slice (some ⟨g, 0, none⟩) n cap) g A C l ∧ ∃ cur, w.heap[g]? = some (.cells cur 33 (0, 0)) := by
  rcases h.shape with ⟨_, h2⟩ | ⟨g, cap, h1, h2, h3, h4, h5, ⟨cur, h6, -⟩, h7⟩
  · rw [h2] at hl; simp at hl; omega
  · rw [hl] at h1 h4
    exact ⟨g, cap, psA ps, psC ps, h1, h2, h4, h5, ⟨⟨some ⟨g, 0, none⟩, cap, by rw [hl], by rw [hl]; exact h4, h5, (fun h => by cases h), .inr ⟨0, rfl, fun j hj => by rw [Nat.zero_add]; exact h7 j hj⟩⟩, h.rows⟩, cur, h6⟩
/-- A row of rows, one of which is another one from now on. -/
theorem RArg.put11 {w : World} {N cap G k : Nat} {A : Nat → Option Addr} {C : Nat → Nat} {l : List (List Nat)} (h : RArg w (.slice (some ⟨G, 0, none⟩) N cap) G A C l) (hN : l.length = N) (hk : k < N) {a : Option Addr} {c g : Nat} {s : List Nat} (hs : Arg w (.slice a s.length c) g s) :
    RArg (w.setCell ⟨G, k, none⟩ (.slice a s.length c)) (.slice (some ⟨G, 0, none⟩) N cap) G (fun i => if i = k then a else A i) (fun i => if i = k then c else C i) (l.set k s) := by
  obtain ⟨⟨ao, c', h1, h2, h3, h4, h5⟩, hb⟩ := h
  have hv : ∀ j, j < N → w.cell? ⟨G, j, none⟩ = some (.slice (A j) (l.getD j []).length (C j)) := by
    rcases h5 with h | ⟨o, h6, h7⟩
    · omega
    · have : ao = some ⟨G, 0, none⟩ := by cases h1; rfl
      rw [this] at h6
      cases h6
      intro j hj
      have := h7 j (by omega)
      rw [Nat.zero_add] at this
      exact this
  have hck := hv k hk
  refine ⟨⟨some ⟨G, 0, none⟩, cap, by rw [List.length_set, hN], by rw [List.length_set, hN]; cases h1; omega, by cases h1; exact h3, (fun h => by cases h), .inr ⟨0, rfl, fun j hj => ?_⟩⟩, fun i hi => ?_⟩
  · rw [List.length_set, hN] at hj
    rw [Nat.zero_add]
    dsimp only
    rw [getD_set11 (by omega)]
    by_cases e : j = k
    · subst e
      rw [if_pos rfl, if_pos rfl, if_pos rfl]
      exact World.cell?_setCell_same' _ _ _ (by rw [hck]; rfl)
    · rw [if_neg e, if_neg (fun e2 => e e2.symm), if_neg e, World.cell?_setCell_other]
      · exact hv j hj
      · intro e2; cases e2; exact e rfl
  · rw [List.length_set] at hi
    rw [getD_set11 (by omega)]
    by_cases e : i = k
    · subst e
      rw [if_pos rfl, if_pos rfl, if_pos rfl]
      exact ⟨g, hs.setslot hck (by intro z h; cases h) _⟩
    · rw [if_neg e, if_neg (fun e2 => e e2.symm), if_neg e]
      obtain ⟨g2, h6⟩ := hb i hi
      exact ⟨g2, h6.setslot hck (by intro z h; cases h) _⟩
/-- A page's bytes are other ones from now on. -/
theorem PgBlk.putB {base : Nat} {w : World} {v : Value} {G : Nat} {P : List PV} (h : PgBlk base w v G P) {j : Nat} (hj : j < P.length) {a : Option Addr} {c g : Nat} {s : List Nat} (hs : Arg w (.slice a s.length c) g s) :
    PgBlk base (w.setCell ⟨G, j * 2 + 1, none⟩ (.slice a s.length c)) v G (P.set j ⟨(P.getD j zPV).st, a, c, g, s⟩) := by
  have hcell : w.cell? ⟨G, j * 2 + 1, none⟩ = some (P.getD j zPV).b := h.blk.cell hj (j := 1) rfl
  obtain ⟨cur, h1, h2, h3⟩ := h.blk
  have hgd : ∀ i, (P.set j ⟨(P.getD j zPV).st, a, c, g, s⟩).getD i zPV = if j = i then ⟨(P.getD j zPV).st, a, c, g, s⟩ else P.getD i zPV := fun i => by
    rw [List.getD_eq_getElem?_getD, List.getElem?_set]
    by_cases e : j = i
    · rw [if_pos e, if_pos e, if_pos (by omega)]; rfl
    · rw [if_neg e, if_neg e, ← List.getD_eq_getElem?_getD]
  refine ⟨⟨cur.setIfInBounds (j * 2 + 1) (.slice a s.length c), ?_, ?_, fun i hi => ?_⟩, ?_, h.le, fun p hp => ?_⟩
  · rw [setCell_eq_setRow w G (j * 2 + 1) cur 35 (0, 0) _ h1]
    exact setRow_heap _ _ _ _ _ _ h1
  · rw [List.length_set, Array.size_setIfInBounds]; exact h2
  · rw [List.length_set] at hi
    obtain ⟨h4, h5⟩ := h3 i hi
    refine ⟨rfl, fun q u hu => ?_⟩
    have hq : q < 2 := by have := (List.getElem?_eq_some_iff.1 hu).1; simpa [PV.cs] using this
    dsimp only at hu
    rw [hgd] at hu
    rw [Array.getElem?_setIfInBounds]
    by_cases e : j = i
    · subst e
      rw [if_pos rfl] at hu
      by_cases e1 : q = 1
      · subst e1
        rw [if_pos rfl, if_pos (by have := RowM.at_lt (m := 2) hj (show 1 < 2 by omega); omega)]
        simpa [PV.cs, PV.b] using hu
      · have e0 : q = 0 := by omega
        subst e0
        rw [if_neg (by omega)]
        refine h5 0 u ?_
        simpa [PV.cs] using hu
    · rw [if_neg e] at hu
      rw [if_neg (by have := RowM.ne_at (show 1 < 2 by omega) hq e; omega)]
      exact h5 q u hu
  · rw [List.length_set]; exact h.ex
  · obtain ⟨i, hi, he⟩ := mem_getD11 (z := zPV) hp
    rw [List.length_set] at hi
    rw [hgd] at he
    rw [← he]
    by_cases e : j = i
    · rw [if_pos e]
      exact hs.setslot hcell (by intro z hz; cases hz) _
    · rw [if_neg e]
      exact (h.ok _ (getD_mem11 hi)).setslot hcell (by intro z hz; cases hz) _

end Go.Proofs.YtjdikhelabibnabGreat
