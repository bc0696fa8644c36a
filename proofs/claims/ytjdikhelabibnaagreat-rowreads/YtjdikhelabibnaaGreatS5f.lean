/-
  rs.picks; slices.Clone; rs.sums.fill's own function, slices.DeleteFunc with it.
-/
import Derived.Test.YtjdikhelabibnaaGreatB6k
import Derived.Test.YtjdikhelabibnaaGreatS5e
import Derived.Test.YtjdikhelabibnaaGreatRw5
namespace Go.Proofs.YtjdikhelabibnaaGreat
open Go.RowKit

theorem ZArg.take {w : World} {ao : Option Addr} {n c g : Nat} {zs : List Int} (h : ZArg w (.slice ao n c) g zs) (i : Nat) (hi : i ≤ zs.length) : ZArg w (.slice ao i c) g (zs.take i) := by
  obtain ⟨⟨ao', c', h1, h2, h3, h4, h5⟩, hb⟩ := h
  cases h1
  have hl : (zs.take i).length = i := by simp; omega
  refine ⟨⟨ao, c, by rw [hl], by omega, h3, h4, ?_⟩, fun z hz => hb z (List.mem_of_mem_take hz)⟩
  rcases h5 with h0 | ⟨o, ho, hc⟩
  · left; rw [h0]; simp
  · refine .inr ⟨o, ho, fun j hj => ?_⟩
    rw [hl] at hj
    rw [hc j (by omega)]
    simp [List.getD_eq_getElem?_getD, hj]

/-- Numbers that may be lost. -/
def pk (zs : List Int) (N : Nat) : Bool := decide (zs.length ≤ 2) && decide (∀ z ∈ zs, 0 ≤ z ∧ z < (N : Int)) && decide zs.Nodup
theorem pk_parts {zs : List Int} {N : Nat} (h : pk zs N = true) : zs.length ≤ 2 ∧ (∀ z ∈ zs, 0 ≤ z ∧ z < (N : Int)) ∧ zs.Nodup := by
  unfold pk at h
  rw [Bool.and_eq_true, Bool.and_eq_true, decide_eq_true_eq, decide_eq_true_eq, decide_eq_true_eq] at h
  exact ⟨h.1.1, h.1.2, h.2⟩
theorem pk_not {zs : List Int} {N : Nat} (h : ¬ (zs.length ≤ 2 ∧ (∀ z ∈ zs, 0 ≤ z ∧ z < (N : Int)) ∧ zs.Nodup)) : pk zs N = false := by
  cases hp : pk zs N with
  | false => rfl
  | true => exact absurd (pk_parts hp) h
theorem pk_of {zs : List Int} {N : Nat} (h : zs.length ≤ 2 ∧ (∀ z ∈ zs, 0 ≤ z ∧ z < (N : Int)) ∧ zs.Nodup) : pk zs N = true := by
  unfold pk
  rw [decide_eq_true h.1, decide_eq_true h.2.1, decide_eq_true h.2.2]
  rfl

set_option maxRecDepth 100000 in
set_option maxHeartbeats 4000000 in
theorem picks_any (v : Value) (g : Nat) (zs : List Int) (N : Nat) (w : World) (hA : ZArg w v g zs) :
    Calls Tryz.prog 97 #[v, .int .i64 (N : Int)] w fun e w' => e = .returned (.bool (pk zs N)) ∧ w' = w := by
  obtain ⟨ao, c, hv, hc1, hc2, hnil, hr⟩ := hA.ex
  have HA := hide hA
  have HR := hide hr
  subst hv
  obtain ⟨n, hn⟩ : ∃ n, zs.length = n := ⟨_, rfl⟩
  rw [hn] at hc1 HA ⊢
  have HN := hide hn
  have hnm : (n : Int) ≤ 9223372036854775807 := by unfold maxLen at hc2; omega
  clear hr hnil hn hA
  by_cases h2 : 2 < n
  · have e1 : (2 : Int) < (n : Int) := by omega
    have HF : Hid (pk zs N = false) := pk_not (fun h => by have := h.1; rw [unhide HN] at this; omega)
    go_enter Tryz.func97, Tryz.ntmps97
    go_wp2_with fail
    go_ret
    rw [unhide HF]
    exact ⟨rfl, rfl⟩
  have e1 : (n : Int) ≤ 2 := by omega
  go_enter Tryz.func97, Tryz.ntmps97
  go_wp2_with fail
  go_loop [12] (fun p => ∃ i : Nat, p = .int .i64 i ∧ i ≤ n ∧ (∀ z ∈ zs.take i, 0 ≤ z ∧ z < (N : Int)) ∧ (zs.take i).Nodup) (fun p => n - (intOf p).toNat)
  case atStart => exact ⟨0, rfl, by omega, by simp, by simp⟩
  case round =>
    obtain ⟨i, rfl, hi, hz, hnd⟩ := hrel
    have HZ := hide hz
    have HND := hide hnd
    clear hz hnd
    by_cases hlt : i < n
    · have hi1 : (i : Int) < (n : Int) := by omega
      obtain ⟨o, rfl, hcl⟩ := irow_some' (unhide HR) (by rw [unhide HN]; omega)
      have hc := hcl i (by rw [unhide HN]; exact hlt)
      have hil : i < zs.length := by rw [unhide HN]; exact hlt
      have HM : Hid (zs.getD i 0 ∈ zs) := getD_mem hil
      have HT : Hid (zs.take (i + 1) = zs.take i ++ [zs.getD i 0]) := take_snoc _ _ hil
      obtain ⟨y, hy⟩ : ∃ y, zs.getD i 0 = y := ⟨_, rfl⟩
      rw [hy] at hc HM HT
      clear hcl hy hil
      have hic : (i : Int) ≤ (c : Int) := by omega
      by_cases y0 : y < 0
      · have HF : Hid (pk zs N = false) := pk_not (fun h => by have := h.2.1 y (unhide HM); omega)
        have d1 : decide (y < 0) = true := by simpa using y0
        go_wp2_with fail
        go_ret
        rw [unhide HF]
        exact ⟨rfl, rfl⟩
      · have d1 : decide (y < 0) = false := by simpa using y0
        have y0' : (0 : Int) ≤ y := by omega
        by_cases yN : (N : Int) ≤ y
        · have HF : Hid (pk zs N = false) := pk_not (fun h => by have := h.2.1 y (unhide HM); omega)
          go_wp2_with fail
          go_ret
          rw [unhide HF]
          exact ⟨rfl, rfl⟩
        · have yN' : y < (N : Int) := by omega
          go_wp2_with fail
          refine (contains_any _ g (zs.take i) y w ((unhide HA).take i (by rw [unhide HN]; exact hi))).mono ?_
          rintro e w' ⟨rfl, hw'⟩
          subst hw'
          by_cases hin : y ∈ zs.take i
          · have HF : Hid (pk zs N = false) := pk_not (fun h => by
              have h2 : (zs.take (i + 1)).Nodup := h.2.2.sublist (List.take_sublist _ _)
              rw [unhide HT, List.nodup_append] at h2
              exact h2.2.2 y hin y (by simp) rfl)
            have hd : decide (y ∈ zs.take i) = true := by simpa using hin
            rw [hd]
            clear hd hin
            go_wp2_with fail
            go_ret
            rw [unhide HF]
            exact ⟨rfl, rfl⟩
          · have hd : decide (y ∈ zs.take i) = false := by simpa using hin
            rw [hd]
            have HIN := hide hin
            clear hd hin
            go_wp2_with fail
            go_round
            case rel =>
              refine ⟨i + 1, by go_num, by omega, ?_, ?_⟩
              · rw [unhide HT]
                intro z hz
                rcases List.mem_append.1 hz with h | h
                · exact unhide HZ z h
                · rw [List.mem_singleton.1 h]; exact ⟨y0', yN'⟩
              · rw [unhide HT, List.nodup_append]
                exact ⟨unhide HND, by simp, fun a ha b hb e => by rw [List.mem_singleton.1 hb] at e; rw [e] at ha; exact unhide HIN ha⟩
            case measure => simp [intOf]; omega
    · have hi2 : i = n := by omega
      subst hi2
      have HF : Hid (pk zs N = true) := by
        have h1 := unhide HZ
        have h2 := unhide HND
        rw [← unhide HN, List.take_length] at h1 h2
        exact pk_of ⟨by rw [unhide HN]; omega, h1, h2⟩
      go_wp2_with fail
      go_ret
      rw [unhide HF]
      exact ⟨rfl, rfl⟩

section
variable {P : Program} (w : World)
/-- Values of one cell go behind what the call owns. -/
theorem run_append_one (base : Nat) (t ty e : TypeId) (i : TypeInfo) (z : Value) (by' : Nat) (ht : P.underlying t = some (.slice e)) (hi : P.info? e = some i) (hz : i.zero = some z) (hsize : i.size = 1) (hby : i.bytes = by') (hz1 : z.cells.size = 1) (hby8 : by' ≤ 24)
    (v : Value) (n : Nat) (xs : List Value) (hown : w.ownsRow base e 1 v n xs) (ao : Option Addr) (m c : Nat) (news : List Value) (hl : news.length = m) (hsrc : ∀ j u, news[j]? = some u → ∃ g o, ao = some ⟨g, o, none⟩ ∧ w.cell? ⟨g, o + j, none⟩ = some u) (hone : ∀ u ∈ news, u.oneCell' = true) (hnil : ao = none → m = 0 ∧ c = 0)
    (hb : n + m ≤ 1000000) (hbase : base ≤ w.heap.size) :
    ∃ v' w', (Builtin.append_ #[t, t] ty #[v, .slice ao m c]).run P w = .ok v' w' ∧ w'.ownsRow base e 1 v' (n + m) (xs ++ news) ∧ w.grownBy w' v.ownBlock := by
  cases ao with
  | none =>
    obtain ⟨rfl, rfl⟩ := hnil rfl
    have hz0 : news = [] := List.eq_nil_of_length_eq_zero hl
    subst hz0
    exact ⟨v, w, run_append_owned_none (P := P) w base t ty e i 1 ht hi v n xs hown, by simpa using hown, World.grownBy.refl _ _⟩
  | some ad =>
    obtain ⟨v', w', h1, h2, h3, _⟩ := run_append_own (P := P) w base t ty e i z 1 by' ht hi hz hsize hby hz1 (by decide) v n xs hown ad m c news (by simp [hl]) (by
      intro j u hu
      obtain ⟨g, o, ho, hc⟩ := hsrc j u hu
      cases ho
      rw [Addr.add_lit]
      exact hc) hone (by unfold maxLen; omega) (Nat.le_trans (Nat.mul_le_mul hb hby8) (by decide)) hbase
    exact ⟨v', w', h1, h2, h3⟩

theorem wpList_append_one {ops : Array Oper} {rest : List Oper} {o : Oper} {a : Act} {Q : Exit → Act → World → Prop} (hgd : o.guard = none) (s x : Operand) (t : TypeId)
    (ho : o.op = .call { callee := .builtin .append, args := #[s, x], argTypes := #[t, t] })
    (base : Nat) (e : TypeId) (i : TypeInfo) (z : Value) (by' : Nat) (ht : P.underlying t = some (.slice e)) (hi : P.info? e = some i) (hz : i.zero = some z) (hsize : i.size = 1) (hby : i.bytes = by') (hz1 : z.cells.size = 1) (hby8 : by' ≤ 24)
    (v : Value) (n : Nat) (xs : List Value) (hs : a.eval s = v) (hown : w.ownsRow base e 1 v n xs) (ao : Option Addr) (m c : Nat) (news : List Value) (hx : a.eval x = .slice ao m c) (hl : news.length = m) (hsrc : ∀ j u, news[j]? = some u → ∃ g o, ao = some ⟨g, o, none⟩ ∧ w.cell? ⟨g, o + j, none⟩ = some u) (hone : ∀ u ∈ news, u.oneCell' = true)
    (hnil : ao = none → m = 0 ∧ c = 0) (hb : n + m ≤ 1000000) (hbase : base ≤ w.heap.size)
    (h : ∀ v' w', w'.ownsRow base e 1 v' (n + m) (xs ++ news) → w.grownBy w' v.ownBlock → wpList P ops Q rest (a.put o.dst v') w') : wpList P ops Q (o :: rest) a w := by
  refine wpList_plain hgd fun K hK => ?_
  obtain ⟨v', w', hr, h2, h3⟩ := run_append_one (P := P) w base t o.type e i z by' ht hi hz hsize hby hz1 hby8 v n xs hown ao m c news hl hsrc hone hnil hb hbase
  unfold Oper.wp
  simp [execOp, ho, resolve, invoke, builtin, hs, hx, hr, Result.andThen]
  exact hK _ _ (h v' w' h2 h3)
end

theorem infoI5 : (Tryz.prog.info? 3).map (fun i => (i.zero, i.size, i.bytes)) = some (some (.int .i64 0), 1, 8) := by kernel_rfl

/-- Ints that the call owns: block g begins with them; or none. -/
def IBlk (w : World) (g : Nat) (zs : List Int) : Prop := ∃ cur, w.heap[g]? = some (.cells cur 3 (0, 0)) ∧ ∀ j, j < zs.length → cur[j]? = some (.int .i64 (zs.getD j 0))
def ZFr (n : Nat) (w : World) (v : Value) (zs : List Int) : Prop := (zs = [] ∧ ∃ ao c, v = .slice ao 0 c ∧ c ≤ maxLen ∧ (ao = none → c = 0)) ∨ ∃ g c, v = .slice (some ⟨g, 0, none⟩) zs.length c ∧ zs.length ≤ c ∧ c ≤ maxLen ∧ IBlk w g zs ∧ n ≤ g
theorem IBlk.lt {w : World} {g : Nat} {zs : List Int} (h : IBlk w g zs) : g < w.heap.size := by
  obtain ⟨cur, h, _⟩ := h
  exact lt_of_block h
theorem IBlk.cell {w : World} {g : Nat} {zs : List Int} (h : IBlk w g zs) {j : Nat} (hj : j < zs.length) : w.cell? ⟨g, j, none⟩ = some (.int .i64 (zs.getD j 0)) := by
  obtain ⟨cur, h, hc⟩ := h
  simp [World.cell?, h, hc j hj]
theorem IBlk.free {w : World} {g : Nat} {zs : List Int} (h : IBlk w g zs) {j : Nat} : w.frozen? ⟨g, j, none⟩ = false := by
  obtain ⟨cur, h, hc⟩ := h
  simp [World.frozen?, h]
theorem IBlk.of {w w' : World} {g : Nat} {zs : List Int} (h : IBlk w g zs) (e : w'.heap[g]? = w.heap[g]?) : IBlk w' g zs := by
  obtain ⟨cur, h, hc⟩ := h
  exact ⟨cur, e.trans h, hc⟩
theorem owns_zfr {w : World} {base : Nat} {v : Value} {n : Nat} {zs : List Int} (hn : zs.length = n) (h : w.ownsRow base 3 1 v n (zs.map (Value.int .i64))) : ZFr base w v zs := by
  subst hn
  rcases h.2 with ⟨h', h0⟩ | ⟨g, cap, cur, rfl, hb, hg, h1, h2, h3, h4⟩
  · exact .inl ⟨List.eq_nil_of_length_eq_zero h0, none, 0, h', by simp, fun _ => rfl⟩
  · refine .inr ⟨g, cap, rfl, h1, h2, ⟨cur, hg, fun j hj => ?_⟩, hb⟩
    have e : (cur.toList.take (zs.length * 1))[j]? = (zs.map (Value.int .i64))[j]? := by rw [h4]
    rw [List.getElem?_take, if_pos (by omega), Array.getElem?_toList] at e
    rw [e, List.getElem?_map, List.getD_eq_getElem?_getD, List.getElem?_eq_getElem hj]
    rfl

set_option maxRecDepth 100000 in
set_option maxHeartbeats 2000000 in
theorem cloneI_any (v : Value) (g : Nat) (zs : List Int) (w : World) (hA : ZArg w v g zs) (hs : zs.length ≤ 1000) :
    Calls Tryz.prog 135 #[v] w fun e w' => ∃ v', e = .returned v' ∧ ZFr w.heap.size w' v' zs ∧ Below w.heap.size w w' := by
  obtain ⟨ao, c, hv, hc1, hc2, hnil, hr⟩ := hA.ex
  subst hv
  obtain ⟨i0, hi0, hz0, hz1, hz2⟩ := info_parts infoI5
  have HI := hide hi0
  have HR := hide hr
  have HN := hide hnil
  clear hi0 hr hnil hA
  cases ao with
  | none =>
    have h0 : zs = [] := by
      rcases unhide HR with h | ⟨o, h, _⟩
      · exact h
      · cases h
    have hc0 := unhide HN rfl
    subst h0
    subst hc0
    have hq : ∀ w : World, (binOp .eql 34 (.slice none 0 0) (.slice none 0 0)).run Tryz.prog w = .ok (.bool true) w := fun _ => by kernel_rfl
    rw [show ([] : List Int).length = 0 from rfl]
    go_enter Tryz.func135, Tryz.ntmps135
    go_wp2_with fail
    go_ret
    exact ⟨_, rfl, .inl ⟨rfl, none, 0, rfl, by simp, fun _ => rfl⟩, Below.refl _ _⟩
  | some ad =>
    obtain ⟨n, hn⟩ : ∃ n, zs.length = n := ⟨_, rfl⟩
    rw [hn] at hc1 ⊢
    have HL := hide hn
    rw [hn] at hs
    clear hn
    have hq : ∀ w : World, (binOp .eql 34 (.slice (some ad) n c) (.slice none 0 0)).run Tryz.prog w = .ok (.bool false) w := fun _ => by kernel_rfl
    have HE := hide (own_none w 3)
    have HKE : Hid (Below w.heap.size w (w.alloc (.cells #[] 3))) := (Below.refl _ _).alloc (Nat.le_refl _) _
    have HSRC : Hid (∀ j u, (zs.map (Value.int .i64))[j]? = some u → ∃ g o, some ad = some ⟨g, o, none⟩ ∧ (w.alloc (.cells #[] 3)).cell? ⟨g, o + j, none⟩ = some u) := fun j u hu => by
      rcases unhide HR with h | ⟨o, h, hc⟩
      · rw [h] at hu; simp at hu
      · have hj : j < zs.length := by have := (List.getElem?_eq_some_iff.1 hu).1; simpa using this
        refine ⟨g, o, h, ?_⟩
        rw [List.getElem?_map, List.getElem?_eq_getElem hj] at hu
        cases hu
        refine ((unhide HKE).cell (block_lt_of_cell (hc j hj))).trans ?_
        rw [hc j hj, List.getD_eq_getElem?_getD, List.getElem?_eq_getElem hj]
        rfl
    go_enter Tryz.func135, Tryz.ntmps135
    go_wp2_with (at_builtin; refine wpList_append_one _ rfl _ _ 34 rfl w.heap.size 3 i0 (.int .i64 0) 8 Tryz.underlying34 (unhide HI) hz0 hz1 hz2 rfl (by omega) (.slice (some ⟨w.heap.size, 0, none⟩) 0 0) 0 [] rfl (unhide HE) (some ad) n c (zs.map (Value.int .i64)) rfl (by rw [List.length_map]; exact unhide HL) (unhide HSRC) (ints_oneCell _ _) (fun h => by cases h) (by omega) (by simp) ?_)
    intro v2 w2 ho hg
    have HB := hide (below_grown (unhide HKE) hg (by simp) (fun k hk => by have e2 : w.heap.size = k := Option.some.inj hk; omega))
    have HF := hide (owns_zfr (unhide HL) ho)
    clear ho hg
    go_wp2_with fail
    go_ret
    exact ⟨_, rfl, unhide HF, unhide HB⟩

set_option maxRecDepth 100000 in
set_option maxHeartbeats 2000000 in
theorem cloneB_any5 (v : Value) (g : Nat) (s : List Nat) (w : World) (hA : Arg w v g s) (hs : s.length ≤ 100000) :
    Calls Tryz.prog 99 #[v] w fun e w' => ∃ v', e = .returned v' ∧ Fr w.heap.size w' v' s ∧ Below w.heap.size w w' := by
  obtain ⟨ao, c, hv, hc1, hc2, hnil, hr⟩ := hA.ex
  subst hv
  obtain ⟨i0, hi0, hz0, hz1, hz2⟩ := info_parts infoE
  have HI := hide hi0
  have HR := hide hr
  have HN := hide hnil
  clear hi0 hr hnil hA
  cases ao with
  | none =>
    have h0 : s = [] := by
      rcases unhide HR with h | ⟨o, h, _⟩
      · exact List.eq_nil_of_length_eq_zero (by rw [← ints_len, h]; rfl)
      · cases h
    have hc0 := unhide HN rfl
    subst h0
    subst hc0
    have hq : ∀ w : World, (binOp .eql 47 (.slice none 0 0) (.slice none 0 0)).run Tryz.prog w = .ok (.bool true) w := fun _ => by kernel_rfl
    rw [show ([] : List Nat).length = 0 from rfl]
    go_enter Tryz.func99, Tryz.ntmps99
    go_wp2_with fail
    go_ret
    exact ⟨_, rfl, .inl ⟨rfl, rfl⟩, Below.refl _ _⟩
  | some ad =>
    obtain ⟨n, hn⟩ : ∃ n, s.length = n := ⟨_, rfl⟩
    rw [hn] at hc1 ⊢
    have HL := hide hn
    rw [hn] at hs
    clear hn
    have hq : ∀ w : World, (binOp .eql 47 (.slice (some ad) n c) (.slice none 0 0)).run Tryz.prog w = .ok (.bool false) w := fun _ => by kernel_rfl
    have HE := hide (own_none w 5)
    have HKE : Hid (Below w.heap.size w (w.alloc (.cells #[] 5))) := (Below.refl _ _).alloc (Nat.le_refl _) _
    have HSRC : Hid (Row (w.alloc (.cells #[] 5)) (some ad) g (ints s)) := (unhide HR).below (unhide HKE)
    go_enter Tryz.func99, Tryz.ntmps99
    go_wp2_with (at_builtin; refine wpList_append_row _ rfl _ _ 47 rfl w.heap.size 5 i0 Tryz.underlying47 (unhide HI) hz0 hz1 hz2 (.slice (some ⟨w.heap.size, 0, none⟩) 0 0) 0 [] rfl (unhide HE) (some ad) g n c (ints s) rfl (by rw [ints_len]; exact unhide HL) (unhide HSRC) (fun h => by cases h) (by omega) (by simp) ?_)
    intro v2 w2 ho hg _
    have HB := hide (below_grown (unhide HKE) hg (by simp) (fun k hk => by have e2 : w.heap.size = k := Option.some.inj hk; omega))
    have HF := hide (owns_fr ho).2
    clear ho hg
    go_wp2_with fail
    go_ret
    exact ⟨_, rfl, unhide HF, unhide HB⟩

/-- The struct of the sums lies in block b. -/
structure SBox (w : World) (b d : Nat) (vp vq : Value) : Prop where
  h : w.heap[b]? = some (.cells #[.int .i64 (d : Int), vp, vq] 103 (0, 0))
theorem SBox.below {n : Nat} {w w' : World} {b d : Nat} {vp vq : Value} (h : SBox w b d vp vq) (k : Below n w w') (hn : b < n) : SBox w' b d vp vq := ⟨(k.block b hn).trans h.h⟩
theorem SBox.kp {S : List Nat} {w w' : World} {b d : Nat} {vp vq : Value} (h : SBox w b d vp vq) (k : Kp S w w') (hn : b ∉ S) : SBox w' b d vp vq := ⟨k.heap h.h hn⟩
theorem SBox.lt {w : World} {b d : Nat} {vp vq : Value} (h : SBox w b d vp vq) : b < w.heap.size := lt_of_block h.h

set_option maxHeartbeats 1000000 in
theorem fill1_any (z : Int) (b d : Nat) (hd : d ≤ 14) (po qo : Option Addr) (np cp nq cq : Nat) (w : World) (hB : SBox w b d (.slice po np cp) (.slice qo nq cq)) :
    Calls Tryz.prog 136 #[.int .i64 z, .pointer (some ⟨b, 0, none⟩)] w fun e w' => e = .returned (.bool (z == ((d + 1 : Nat) : Int))) ∧ Below w.heap.size w w' := by
  obtain ⟨⟨c0, c1, c2⟩, _⟩ := three_at hB.h
  go_enter Tryz.func136, Tryz.ntmps136
  go_wp2_with fail
  refine (second_any d hd po qo np cp nq cq w).mono ?_
  rintro e w2 ⟨rfl, hk⟩
  have HK := hide hk
  clear hk
  go_wp2_with fail
  go_ret
  exact ⟨rfl, unhide HK⟩

set_option maxRecDepth 100000 in
set_option maxHeartbeats 2000000 in
theorem ifi_any (v : Value) (g : Nat) (zs : List Int) (b d : Nat) (hd : d ≤ 14) (po qo : Option Addr) (np cp nq cq : Nat) (w : World) (hA : ZArg w v g zs) (hB : SBox w b d (.slice po np cp) (.slice qo nq cq)) :
    Calls Tryz.prog 150 #[v, .func (.func 136) #[] #[.pointer (some ⟨b, 0, none⟩)]] w fun e w' => Below w.heap.size w w' ∧ ((e = .returned (.int .i64 (-1)) ∧ ((d + 1 : Nat) : Int) ∉ zs) ∨ ∃ i : Nat, e = .returned (.int .i64 (i : Int)) ∧ i < zs.length ∧ zs.getD i 0 = ((d + 1 : Nat) : Int) ∧ ((d + 1 : Nat) : Int) ∉ zs.take i) := by
  obtain ⟨⟨ao, c, rfl, hc1, hc2, hnil, hr⟩, hbd⟩ := hA
  have HR := hide hr
  have HSB := hide hB
  obtain ⟨n, hn⟩ : ∃ n, zs.length = n := ⟨_, rfl⟩
  rw [hn] at hc1 ⊢
  have HN := hide hn
  have hnm : (n : Int) ≤ 9223372036854775807 := by unfold maxLen at hc2; omega
  clear hr hnil hn hbd hB
  go_enter Tryz.func150, Tryz.ntmps150
  go_wp2_with fail
  go_loopw [8] (fun p wr => ∃ i : Nat, p = .int .i64 i ∧ i ≤ n ∧ ((d + 1 : Nat) : Int) ∉ zs.take i ∧ Below w.heap.size w wr) (fun p _ => n - (intOf p).toNat)
  case atStart => exact ⟨0, rfl, by omega, by simp, Below.refl _ _⟩
  case round =>
    obtain ⟨i, rfl, hi, hz, hK⟩ := hrel
    have HZ := hide hz
    have HK := hide hK
    clear hz hK
    by_cases hlt : i < n
    · have hi1 : (i : Int) < (n : Int) := by omega
      obtain ⟨o, rfl, hcl⟩ := irow_some' ((unhide HR).below (unhide HK)) (by rw [unhide HN]; omega)
      have hc := hcl i (by rw [unhide HN]; exact hlt)
      have HT : Hid (zs.getD i 0 ≠ ((d + 1 : Nat) : Int) → ((d + 1 : Nat) : Int) ∉ zs.take (i + 1)) := fun hne h => by
        rcases (take_getD (by rw [unhide HN]; exact hlt) _).1 h with h | h
        · exact unhide HZ h
        · exact hne h
      obtain ⟨y, hy⟩ : ∃ y, zs.getD i 0 = y := ⟨_, rfl⟩
      rw [hy] at hc HT
      have HY := hide hy
      clear hcl hy
      go_wp2_with fail
      refine (fill1_any y b d hd po qo np cp nq cq wr ((unhide HSB).below (unhide HK) (unhide HSB).lt)).mono ?_
      rintro e w2 ⟨rfl, hk⟩
      have HK2 := hide ((unhide HK).trans (hk.mono (unhide HK).size))
      clear hk
      by_cases he : y = ((d + 1 : Nat) : Int)
      · have he1 : (y == ((d + 1 : Nat) : Int)) = true := by rw [he]; simp
        have HE := hide he
        clear he
        rw [he1]
        clear he1
        go_wp2_with fail
        go_ret
        exact ⟨unhide HK2, .inr ⟨i, rfl, hlt, by rw [unhide HY]; exact unhide HE, unhide HZ⟩⟩
      · have he1 : (y == ((d + 1 : Nat) : Int)) = false := by rw [beq_eq_false_iff_ne]; exact he
        have HE := hide he
        clear he
        rw [he1]
        clear he1
        go_wp2_with fail
        go_roundw
        case rel => exact ⟨i + 1, by go_num, by omega, unhide HT (unhide HE), unhide HK2⟩
        case measure => simp [intOf]; omega
    · have hi2 : i = n := by omega
      subst hi2
      go_wp2_with fail
      go_ret
      exact ⟨unhide HK, .inl ⟨rfl, by have h := unhide HZ; rwa [← unhide HN, List.take_length] at h⟩⟩

end Go.Proofs.YtjdikhelabibnaaGreat
