/-
  Ints of any kind that a call owns; appended to, also in a region that draws its order.
  The laws' own Noise.
  Both tellings of Encode, whatever they are handed.
-/
import Derived.Test.YtkhpoomajebgoaaMah
import Derived.Test.YtkhpoomajebgoaaMai
import Derived.Test.YtkhpoomajebgoaaMaj
import Derived.Test.YtkhpoomajebgoaaMaz
namespace Go.Proofs.Ytkhpoomajebgoaa
open Go.RowKit Go.Shelf

/-- The call owns these numbers. -/
def OwnZ (base : Nat) (w : World) (v : Value) (zs : List Int) : Prop := w.ownsRow base 3 1 v zs.length (zs.map (Value.int .i64))
theorem OwnZ.nil (base : Nat) (w : World) : OwnZ base w (.slice none 0 0) [] := World.ownsRow_nil _ _ _ _
theorem OwnZ.none (w : World) : OwnZ w.heap.size (w.alloc (.cells #[] 3)) (.slice (some ⟨w.heap.size, 0, none⟩) 0 0) [] := own_none w 3
theorem OwnZ.snoc {base : Nat} {w : World} {v : Value} {l : List Int} {k : Int} (h : w.ownsRow base 3 1 v (l.length + 1) (l.map (Value.int .i64) ++ [.int .i64 k])) : OwnZ base w v (l ++ [k]) := by
  unfold OwnZ
  rw [List.length_append, List.map_append]
  exact h
theorem OwnZ.keep {base : Nat} {w w' : World} {v : Value} {l : List Int} (h : OwnZ base w v l) (k : ∀ b, base ≤ b → b < w.heap.size → w'.heap[b]? = w.heap[b]?) : OwnZ base w' v l := by
  refine ⟨h.1, ?_⟩
  rcases h.2 with h' | ⟨g, cap, cur, h1, h2, h3, h4⟩
  · exact .inl h'
  · exact .inr ⟨g, cap, cur, h1, h2, (k g h2 (Array.getElem?_eq_some_iff.1 h3).1).trans h3, h4⟩
theorem OwnZ.below {base : Nat} {w w' : World} {v : Value} {l : List Int} (h : OwnZ base w v l) (k : Below w.heap.size w w') : OwnZ base w' v l := h.keep (fun b _ hb => k.block b hb)
theorem OwnZ.row {base : Nat} {w : World} {v : Value} {l : List Int} (h : OwnZ base w v l) (k : Nat) (hk : v.ownBlock = some k) : base ≤ k := by
  rcases h.2 with ⟨h1, _⟩ | ⟨g, cap, cur, h1, h2, _⟩
  · rw [h1] at hk; cases hk
  · rw [h1] at hk; cases hk; exact h2
theorem OwnZ.za {base : Nat} {w : World} {v : Value} {l : List Int} (h : OwnZ base w v l) (hb : ∀ z ∈ l, -9223372036854775808 ≤ z ∧ z ≤ 9223372036854775807) : ∃ ao c g, v = .slice ao l.length c ∧ ZArg w (.slice ao l.length c) g l ∧ (ao = Option.none → c = 0) := by
  rcases h.2 with ⟨h', h0⟩ | ⟨g, cap, cur, h1, h2, h3, h4, h5, h6, h7⟩
  · have hl : l = [] := List.eq_nil_of_length_eq_zero h0
    subst hl
    exact ⟨Option.none, 0, 0, h', ⟨⟨Option.none, 0, rfl, by simp, by simp, fun _ => rfl, .inl rfl⟩, hb⟩, fun _ => rfl⟩
  · refine ⟨some ⟨g, 0, Option.none⟩, cap, g, h1, ⟨⟨some ⟨g, 0, Option.none⟩, cap, rfl, h4, h5, (fun h => by cases h), .inr ⟨0, rfl, fun j hj => ?_⟩⟩, hb⟩, fun h => by cases h⟩
    have e : (cur.toList.take (l.length * 1))[j]? = (l.map (Value.int .i64))[j]? := by rw [h7]
    rw [List.getElem?_take, if_pos (by omega), Array.getElem?_toList] at e
    have h8 : cur[j]? = some (.int .i64 (l.getD j 0)) := by
      rw [e, List.getElem?_map, List.getElem?_eq_getElem hj, List.getD_eq_getElem?_getD, List.getElem?_eq_getElem hj]
      rfl
    rw [Nat.zero_add]
    simp [World.cell?, h3, h8]

theorem zarg_in {w : World} {ao : Option Addr} {g len cap : Nat} {zs : List Int} (l : zs.length = len) (r : IRow w ao g zs) (b : ∀ z ∈ zs, -9223372036854775808 ≤ z ∧ z ≤ 9223372036854775807) (c : len ≤ cap) (n : ao = none → len = 0 ∧ cap = 0) (m : cap ≤ maxLen) : ZArg w (.slice ao len cap) g zs :=
  ⟨⟨ao, cap, by rw [l], by omega, m, fun h => (n h).2, r⟩, b⟩

section
/-- Ints from wherever they lie go behind what the call owns. -/
theorem run_append_z (w : World) (base : Nat) (ty : TypeId) (v : Value) (xs zs : List Int) (hown : OwnZ base w v xs) (ao : Option Addr) (g m c : Nat) (hl : zs.length = m) (hrow : IRow w ao g zs) (hnil : ao = none → m = 0 ∧ c = 0) (hb : xs.length + m ≤ 1000000) (hbase : base ≤ w.heap.size) :
    ∃ v' w', (Builtin.append_ #[23, 23] ty #[v, .slice ao m c]).run Try.prog w = .ok v' w' ∧ OwnZ base w' v' (xs ++ zs) ∧ w.grownBy w' v.ownBlock := by
  obtain ⟨i0, hi, hz0, hz1, hz2⟩ := info_parts infoI
  cases ao with
  | none =>
    obtain ⟨rfl, rfl⟩ := hnil rfl
    have h0 : zs = [] := List.eq_nil_of_length_eq_zero hl
    subst h0
    exact ⟨v, w, run_append_owned_none (P := Try.prog) w base 23 ty 3 i0 1 Try.underlying23 hi v _ _ hown, by simpa using hown, World.grownBy.refl _ _⟩
  | some ad =>
    obtain ⟨v', w', h1, h2, h3, _⟩ := run_append_own (P := Try.prog) w base 23 ty 3 i0 (.int .i64 0) 1 8 Try.underlying23 hi hz0 hz1 hz2 rfl (by decide) v _ _ hown ad m c (zs.map (Value.int .i64)) (by simp [hl]) (by
      intro j u hu
      obtain ⟨hj, hu⟩ := List.getElem?_eq_some_iff.1 hu
      simp only [List.length_map] at hj
      rcases hrow with rfl | ⟨o, ho, hc⟩
      · simp at hj
      · cases ho
        rw [Addr.add_lit, hc j hj]
        simp [← hu, List.getD_eq_getElem?_getD, hj]) (ints_oneCell _ _) (by unfold maxLen; omega) (by omega) hbase
    refine ⟨v', w', h1, ?_, h3⟩
    unfold OwnZ
    rw [List.length_append, hl, List.map_append]
    exact h2

theorem wp_append_z {o : Oper} {a : Act} {w : World} {K : Act → World → Prop} {Q : Exit → Act → World → Prop} (s x : Operand) (ho : o.op = .call { callee := .builtin .append, args := #[s, x], argTypes := #[23, 23] })
    (base : Nat) (v : Value) (xs zs : List Int) (hs : a.eval s = v) (hown : OwnZ base w v xs) (ao : Option Addr) (g m c : Nat) (hx : a.eval x = .slice ao m c) (hl : zs.length = m) (hrow : IRow w ao g zs) (hnil : ao = none → m = 0 ∧ c = 0) (hb : xs.length + m ≤ 1000000) (hbase : base ≤ w.heap.size)
    (hK : ∀ v' w', OwnZ base w' v' (xs ++ zs) → w.grownBy w' v.ownBlock → K (a.put o.dst v') w') : o.wp Try.prog a w K Q := by
  obtain ⟨v', w', hr, h2, h3⟩ := run_append_z w base o.type v xs zs hown ao g m c hl hrow hnil hb hbase
  unfold Oper.wp
  simp [execOp, ho, resolve, invoke, builtin, hs, hx, hr, Result.andThen]
  exact hK _ _ h2 h3

theorem wp_append_b {o : Oper} {a : Act} {w : World} {K : Act → World → Prop} {Q : Exit → Act → World → Prop} (s x : Operand) (ho : o.op = .call { callee := .builtin .append, args := #[s, x], argTypes := #[22, 22] })
    (base : Nat) (v : Value) (n : Nat) (xs : List Value) (zs : List Int) (hs : a.eval s = v) (hown : w.ownsRow base 5 1 v n xs) (ao : Option Addr) (g m c : Nat) (hx : a.eval x = .slice ao m c) (hl : zs.length = m) (hrow : Row w ao g zs) (hnil : ao = none → m = 0 ∧ c = 0) (hb : n + m ≤ 1000000) (hbase : base ≤ w.heap.size)
    (hK : ∀ v' w', w'.ownsRow base 5 1 v' (n + m) (xs ++ zs.map (Value.int .u8)) → w.grownBy w' v.ownBlock → K (a.put o.dst v') w') : o.wp Try.prog a w K Q := by
  obtain ⟨i0, hi, hz0, hz1, hz2⟩ := info_parts infoE
  obtain ⟨v', w', hr, h2, h3, _⟩ := run_append_row (P := Try.prog) w base 22 o.type 5 i0 Try.underlying22 hi hz0 hz1 hz2 v n xs hown ao g m c zs hl hrow hnil hb hbase
  unfold Oper.wp
  simp [execOp, ho, resolve, invoke, builtin, hs, hx, hr, Result.andThen]
  exact hK _ _ h2 h3
end

end Go.Proofs.Ytkhpoomajebgoaa

namespace Go.Proofs.Ytkhpoomajebgoaa
open Go.RowKit Go.Shelf

theorem OwnZ.shape {base : Nat} {w : World} {v : Value} {l : List Int} (h : OwnZ base w v l) : ∃ o c, v = .slice o l.length c := by
  rcases h.2 with ⟨h1, h2⟩ | ⟨g, cap, cur, h1, _⟩
  · exact ⟨Option.none, 0, by rw [h1, h2]⟩
  · exact ⟨_, _, h1⟩
theorem ownz_len {base : Nat} {w : World} {v : Value} {l : List Int} {n : Nat} (h : OwnZ base w v l) (hl : l.length = n) : w.ownsRow base 3 1 v n (l.map (Value.int .i64)) := by
  subst hl
  exact h
theorem below_at {n : Nat} {w w' : World} (h : Below n w w') (hn : w.heap.size ≤ n) : Below w.heap.size w w' := h.mono hn
theorem out_next {pre src : List Nat} {m i : Nat} (h : i < src.length) : ints (pre ++ (src.take i).map (fun a => m + a)) ++ [((m + cf src i : Nat) : Int)] = ints (pre ++ (src.take (i + 1)).map (fun a => m + a)) := by
  obtain ⟨h1, h2⟩ := List.getElem?_eq_some_iff.1 (cf_get h)
  rw [List.take_succ_eq_append_getElem h, h2]
  simp [ints]
theorem half_next {zs : List Int} {i : Nat} (h : i < zs.length) : (zs.take i).map (fun z => z.tdiv 224) ++ [(zs.getD i 0).tdiv 224] = (zs.take (i + 1)).map (fun z => z.tdiv 224) := by
  rw [List.take_succ_eq_append_getElem h, List.map_append, List.map_cons, List.map_nil, List.getD_eq_getElem?_getD, List.getElem?_eq_getElem h]
  rfl
theorem tdiv_bd {z : Int} (h : -9223372036854775808 ≤ z ∧ z ≤ 9223372036854775807) : -9223372036854775808 ≤ z.tdiv 224 ∧ z.tdiv 224 ≤ 9223372036854775807 := by
  have h1 : (z.tdiv 224).natAbs = z.natAbs / 224 := Int.natAbs_tdiv z 224
  have h2 : z.natAbs / 224 ≤ z.natAbs := Nat.div_le_self _ _
  constructor <;> omega

set_option maxRecDepth 100000 in
set_option maxHeartbeats 16000000 in
theorem noise_any {w : World} (ao : Option Addr) (g len cap : Nat) (zs : List Int) (hz : zs.length = len) (hr : IRow w ao g zs) (hcap : len ≤ cap) (hm : cap ≤ maxLen) (hb : ∀ z ∈ zs, -9223372036854775808 ≤ z ∧ z ≤ 9223372036854775807) (hsz : len * 8 ≤ 140737488351232) (most : Nat) (hmo : most ≤ 5) :
    Calls Try.prog 18 #[.slice ao len cap, .int .i64 (most : Int)] w fun e w' => ∃ v A B, e = .returned v ∧ Pl A ∧ Pl B ∧ A.length ≤ most ∧ B.length ≤ most ∧ OwnI w.heap.size w' v (psOf A B []) ∧ Below w.heap.size w w' := by
  obtain ⟨i0, hi0, hz0, hzz1, hz2⟩ := info_parts infoI
  have HI := hide hi0
  have HR := hide hr
  have HZ := hide hz
  have HBO := hide hb
  have hlen : (len : Int) ≤ 9223372036854775807 := by unfold maxLen at hm; omega
  clear hi0 hr hz hb
  go_enter Try.func18, Try.ntmps18
  go_wp2_with fail
  refine (places_any ao g len cap zs (unhide HZ) (unhide HR) hcap hm (unhide HBO) 224 most (by omega) (by omega) (by omega)).mono ?_
  rintro e w2 ⟨v2, A, rfl, hAn, hAl, hAm, hOA, hk⟩
  have HPA : Hid (Pl A) := ⟨hAn, hAl⟩
  have HLTA := hide hAl
  obtain ⟨ka, ca, gA, rfl, hZA⟩ := hOA.za (fun k h => by have := hAl k h; omega)
  have HZA0 := hide hZA
  have HT := hide hk
  have hw2 := hk.size
  have HR2 := hide (IRow.below hk (unhide HR))
  clear hOA hk hZA hAn hAl HR
  have HOH : Hid (OwnZ w2.heap.size w2 (.slice none 0 0) ((zs.take 0).map (fun z => z.tdiv 224))) := OwnZ.nil _ _
  go_wp2_with fail
  go_loopw [7, 8] (fun v p wr => ∃ i : Nat, p = .int .i64 (i : Int) ∧ i ≤ len ∧ OwnZ w2.heap.size wr v ((zs.take i).map (fun z => z.tdiv 224)) ∧ Below w2.heap.size w2 wr) (fun _ p _ => len - (intOf p).toNat)
  case atStart => exact ⟨0, rfl, by omega, unhide HOH, Below.refl _ _⟩
  case round =>
    obtain ⟨i, rfl, hi, hO, hK⟩ := hrel
    obtain ⟨vo, vc, hv⟩ := OwnZ.shape hO
    rw [List.length_map, List.length_take, unhide HZ, Nat.min_eq_left hi] at hv
    have HO := hide hO
    have HK := hide hK
    have hwz := hK.size
    clear hO hK
    by_cases hlt : i < len
    · have hi1 : (i : Int) < (len : Int) := by omega
      have hir := IRow.below (unhide HK) (unhide HR2)
      obtain ⟨so, rfl, hcl⟩ := irow_some' hir (by rw [unhide HZ]; omega)
      have hc := hcl i (by rw [unhide HZ]; exact hlt)
      have hbz := tdiv_bd (unhide HBO _ (getD_mem (zs := zs) (i := i) (by rw [unhide HZ]; exact hlt)))
      have hnx := half_next (zs := zs) (i := i) (by rw [unhide HZ]; exact hlt)
      obtain ⟨z, hzz⟩ : ∃ z, zs.getD i 0 = z := ⟨_, rfl⟩
      rw [hzz] at hc hbz hnx
      obtain ⟨y, hy⟩ : ∃ y, z.tdiv 224 = y := ⟨_, rfl⟩
      rw [hy] at hbz hnx
      have hwy : IntKind.i64.wrap y = y := IntWalk.i64_in _ ⟨by omega, by omega⟩
      have HNX := hide hnx
      subst hv
      have HAL := hide ((Below.refl _ wr).alloc (Nat.le_refl _) (.cells #[.int .i64 y] 3))
      have HO2 := hide (OwnZ.below (unhide HO) (unhide HAL))
      have HC2 := hide (cell_new' wr (.int .i64 y) 3).1
      have hll : ((zs.take i).map (fun z => z.tdiv 224)).length = i := by rw [List.length_map, List.length_take, unhide HZ, Nat.min_eq_left hi]
      obtain ⟨ly, hly⟩ : ∃ ly, (zs.take i).map (fun z => z.tdiv 224) = ly := ⟨_, rfl⟩
      rw [hly] at hll HO2 HNX
      have HLL := hide hll
      clear hir hcl hnx hzz hll HO hly
      go_wp2_with (at_builtin; refine wpList_append_own _ rfl _ _ 23 rfl w2.heap.size 3 i0 (.int .i64 0) 1 8 Try.underlying23 (unhide HI) hz0 hzz1 hz2 rfl (by decide) (.slice vo i vc) i _ rfl (ownz_len (unhide HO2) (unhide HLL)) ⟨wr.heap.size, 0, none⟩ 1 1 [.int .i64 y] rfl (by simp) (one_at (unhide HC2)) (ints_oneCell .i64 [y]) (by unfold maxLen; omega) (by omega) (by simp; omega) ?_)
      intro v' w' ho hg _
      have hO3 : OwnZ w2.heap.size w' v' ((zs.take (i + 1)).map (fun z => z.tdiv 224)) := by
        rw [← unhide HNX]
        refine OwnZ.snoc ?_
        rw [unhide HLL]
        exact ho
      have HO3 := hide hO3
      have HK3 : Hid (Below w2.heap.size w2 w') := ((unhide HK).trans ((unhide HAL).mono hwz)).grown hg (by simp; omega) (fun b e => OwnZ.row (unhide HO2) b e)
      clear ho hg hO3
      go_wp2_with fail
      go_roundw
      case rel => exact ⟨i + 1, by go_num, by omega, unhide HO3, unhide HK3⟩
      case measure => simp [intOf]; omega
    · have hi2 : i = len := by omega
      subst hi2
      have hO := unhide HO
      rw [List.take_of_length_le (by rw [unhide HZ]; omega)] at hO
      obtain ⟨vo2, vc2, gh, hv2, hZH, hnn⟩ := hO.za (by
        intro z hz
        obtain ⟨z0, h1, rfl⟩ := List.mem_map.1 hz
        exact tdiv_bd (unhide HBO z0 h1))
      rw [List.length_map, unhide HZ] at hv2 hZH
      have HZH := hide hZH
      subst hv
      cases hv2
      have hir := zarg_row hZH
      obtain ⟨ao9, c9, hv9, h91, h92, h93, h94⟩ := hZH.ex
      rw [List.length_map, unhide HZ] at hv9 h91
      cases hv9
      have hwr := hwz
      have HBH : Hid (∀ z ∈ zs.map (fun z => z.tdiv 224), -9223372036854775808 ≤ z ∧ z ≤ 9223372036854775807) := hZH.bd
      have HIR := hide hir
      clear hO hZH hnn hir h93 h94
      go_wp2_with fail
      refine (places_any vo gh i vc (zs.map (fun z => z.tdiv 224)) (by rw [List.length_map]; exact unhide HZ) (unhide HIR) h91 h92 (unhide HBH) 224 most (by omega) (by omega) (by omega)).mono ?_
      rintro e w4 ⟨v4, B, rfl, hBn, hBl, hBm, hOB, hk⟩
      have HPB : Hid (Pl B) := ⟨hBn, hBl⟩
      have HLTB := hide hBl
      obtain ⟨kb, cb, gB, rfl, hZB⟩ := hOB.za (fun k h => by have := hBl k h; omega)
      have HZB0 := hide hZB
      have hkw : Below w2.heap.size w2 w4 := (unhide HK).trans (hk.mono hwz)
      have HZA := hide ((unhide HZA0).below hkw)
      have HT4 := hide ((unhide HT).trans (hkw.mono hw2))
      have hw4 := (unhide HT4).size
      clear hOB hk hZB hBn hBl hkw HBH HIR HZH HO HK
      have HOA0 : Hid (OwnZ w4.heap.size w4 (.slice none 0 0) (ints ([] ++ (A.take 0).map (fun a => 32 + a)))) := OwnZ.nil _ _
      go_wp2_with fail
      go_loopw [5, 10] (fun v p wr => ∃ i : Nat, p = .int .i64 (i : Int) ∧ i ≤ A.length ∧ OwnZ w4.heap.size wr v (ints ([] ++ (A.take i).map (fun a => 32 + a))) ∧ Below w4.heap.size w4 wr) (fun _ p _ => A.length - (intOf p).toNat)
      case atStart => exact ⟨0, rfl, by omega, unhide HOA0, Below.refl _ _⟩
      case round =>
        obtain ⟨i, rfl, hi, hO, hK⟩ := hrel
        obtain ⟨vo, vc, hv⟩ := OwnZ.shape hO
        rw [ints_len] at hv
        have HO := hide hO
        have HK := hide hK
        have hwz := hK.size
        clear hO hK
        by_cases hlt : i < A.length
        · have hi1 : (i : Int) < (A.length : Int) := by omega
          have hir := zarg_row ((unhide HZA).below (unhide HK))
          obtain ⟨so, rfl, hcl⟩ := irow_some' hir (by rw [ints_len]; omega)
          have hc := hcl i (by rw [ints_len]; exact hlt)
          rw [ints_getD] at hc
          have hk224 := (unhide HLTA) (cf A i) (cf_memb hlt)
          obtain ⟨k, hkk⟩ : ∃ k, cf A i = k := ⟨_, rfl⟩
          rw [hkk] at hc hk224
          have hnx : ints ([] ++ (A.take i).map (fun a => 32 + a)) ++ [((32 + k : Nat) : Int)] = ints ([] ++ (A.take (i + 1)).map (fun a => 32 + a)) := by
            rw [← hkk, out_next hlt]
          have HNX := hide hnx
          have hle : ([] ++ (A.take i).map (fun a => 32 + a)).length ≤ 20 := by
            simp only [List.length_append, List.length_map, List.length_take, List.length_nil]
            omega
          subst hv
          clear hir hcl hkk hnx
          have hw : IntKind.i64.wrap (32 + (k : Int)) = ((32 + k : Nat) : Int) := by rw [IntWalk.i64_in _ ⟨by omega, by omega⟩]; omega
          have hw' : 32 + (k : Int) = ((32 + k : Nat) : Int) := by omega
          obtain ⟨y, hy⟩ : ∃ y : Int, ((32 + k : Nat) : Int) = y := ⟨_, rfl⟩
          rw [hy] at hw hw' HNX
          have HAL := hide ((Below.refl _ wr).alloc (Nat.le_refl _) (.cells #[.int .i64 y] 3))
          have HO2 := hide (OwnZ.below (unhide HO) (unhide HAL))
          have HC2 := hide (cell_new' wr (.int .i64 y) 3).1
          obtain ⟨nl, hnl⟩ : ∃ nl, ([] ++ (A.take i).map (fun a => 32 + a)).length = nl := ⟨_, rfl⟩
          rw [hnl] at hle ⊢
          rw [hnl] at HO2
          obtain ⟨ly, hly⟩ : ∃ ly, ints ([] ++ (A.take i).map (fun a => 32 + a)) = ly := ⟨_, rfl⟩
          have HNL : Hid (ly.length = nl) := by show _ = _; rw [← hly, ints_len]; exact hnl
          rw [hly] at HO2 HNX
          clear hnl hy HO hly
          go_wp2_with (at_builtin; refine wpList_append_own _ rfl _ _ 23 rfl w4.heap.size 3 i0 (.int .i64 0) 1 8 Try.underlying23 (unhide HI) hz0 hzz1 hz2 rfl (by decide) (.slice vo nl vc) nl _ rfl (ownz_len (unhide HO2) (unhide HNL)) ⟨wr.heap.size, 0, none⟩ 1 1 [.int .i64 y] rfl (by simp) (one_at (unhide HC2)) (ints_oneCell .i64 [y]) (by unfold maxLen; omega) (by omega) (by simp; omega) ?_)
          intro v' w' ho hg _
          have hO3 : OwnZ w4.heap.size w' v' (ints ([] ++ (A.take (i + 1)).map (fun a => 32 + a))) := by
            rw [← unhide HNX]
            refine OwnZ.snoc ?_
            rw [unhide HNL]
            exact ho
          have HO3 := hide hO3
          have HK3 : Hid (Below w4.heap.size w4 w') := ((unhide HK).trans ((unhide HAL).mono (by omega))).grown hg (by simp; omega) (fun b e => OwnZ.row (unhide HO2) b e)
          clear ho hg hO3
          go_wp2_with fail
          go_roundw
          case rel => exact ⟨i + 1, by go_num, by omega, unhide HO3, unhide HK3⟩
          case measure => simp [intOf]; omega
        · have hi2 : i = A.length := by omega
          subst hi2
          have hi1 : ¬ (A.length : Int) < (A.length : Int) := by omega
          have HO9 := HO
          rw [List.take_length] at HO9
          have hvl : ([] ++ (A.take A.length).map (fun a => 32 + a)).length = A.length := by simp
          rw [hvl] at hv
          have hwa2 := hwz
          have HK4x := hide (unhide HK)
          have HT5 := hide ((unhide HT4).trans ((unhide HK).mono hw4))
          have HOB0 : Hid (OwnZ w4.heap.size wr (.slice vo A.length vc) (ints ((A.map (fun a => 32 + a)) ++ (B.take 0).map (fun b => 256 + b)))) := by
            show OwnZ _ _ _ _
            have h := unhide HO9
            rw [hv] at h
            simpa using h
          subst hv
          clear HO9 HO HOA0
          obtain ⟨wx, hwx⟩ : ∃ wx, wr = wx := ⟨_, rfl⟩
          rw [hwx] at HOB0 HK4x HT5 hwa2 ⊢
          clear hwx HK
          go_wp2_with fail
          go_loopw [5, 11] (fun v p wr => ∃ i : Nat, p = .int .i64 (i : Int) ∧ i ≤ B.length ∧ OwnZ w4.heap.size wr v (ints ((A.map (fun a => 32 + a)) ++ (B.take i).map (fun a => 256 + a))) ∧ Below w4.heap.size wx wr) (fun _ p _ => B.length - (intOf p).toNat)
          case atStart => exact ⟨0, rfl, by omega, unhide HOB0, Below.refl _ _⟩
          case round =>
            obtain ⟨i, rfl, hi, hO, hK⟩ := hrel
            obtain ⟨vo, vc, hv⟩ := OwnZ.shape hO
            rw [ints_len] at hv
            have HO := hide hO
            have HK := hide hK
            have hwz := hK.size
            clear hO hK
            by_cases hlt : i < B.length
            · have hi1 : (i : Int) < (B.length : Int) := by omega
              have hir := zarg_row ((unhide HZB0).below ((unhide HK4x).trans (unhide HK)))
              obtain ⟨so, rfl, hcl⟩ := irow_some' hir (by rw [ints_len]; omega)
              have hc := hcl i (by rw [ints_len]; exact hlt)
              rw [ints_getD] at hc
              have hk224 := (unhide HLTB) (cf B i) (cf_memb hlt)
              obtain ⟨k, hkk⟩ : ∃ k, cf B i = k := ⟨_, rfl⟩
              rw [hkk] at hc hk224
              have hnx : ints ((A.map (fun a => 32 + a)) ++ (B.take i).map (fun a => 256 + a)) ++ [((256 + k : Nat) : Int)] = ints ((A.map (fun a => 32 + a)) ++ (B.take (i + 1)).map (fun a => 256 + a)) := by
                rw [← hkk, out_next hlt]
              have HNX := hide hnx
              have hle : ((A.map (fun a => 32 + a)) ++ (B.take i).map (fun a => 256 + a)).length ≤ 20 := by
                simp only [List.length_append, List.length_map, List.length_take]
                omega
              subst hv
              clear hir hcl hkk hnx
              have hw : IntKind.i64.wrap (256 + (k : Int)) = ((256 + k : Nat) : Int) := by rw [IntWalk.i64_in _ ⟨by omega, by omega⟩]; omega
              have hw' : 256 + (k : Int) = ((256 + k : Nat) : Int) := by omega
              obtain ⟨y, hy⟩ : ∃ y : Int, ((256 + k : Nat) : Int) = y := ⟨_, rfl⟩
              rw [hy] at hw hw' HNX
              have HAL := hide ((Below.refl _ wr).alloc (Nat.le_refl _) (.cells #[.int .i64 y] 3))
              have HO2 := hide (OwnZ.below (unhide HO) (unhide HAL))
              have HC2 := hide (cell_new' wr (.int .i64 y) 3).1
              obtain ⟨nl, hnl⟩ : ∃ nl, ((A.map (fun a => 32 + a)) ++ (B.take i).map (fun a => 256 + a)).length = nl := ⟨_, rfl⟩
              rw [hnl] at hle ⊢
              rw [hnl] at HO2
              obtain ⟨ly, hly⟩ : ∃ ly, ints ((A.map (fun a => 32 + a)) ++ (B.take i).map (fun a => 256 + a)) = ly := ⟨_, rfl⟩
              have HNL : Hid (ly.length = nl) := by show _ = _; rw [← hly, ints_len]; exact hnl
              rw [hly] at HO2 HNX
              clear hnl hy HO hly
              go_wp2_with (at_builtin; refine wpList_append_own _ rfl _ _ 23 rfl w4.heap.size 3 i0 (.int .i64 0) 1 8 Try.underlying23 (unhide HI) hz0 hzz1 hz2 rfl (by decide) (.slice vo nl vc) nl _ rfl (ownz_len (unhide HO2) (unhide HNL)) ⟨wr.heap.size, 0, none⟩ 1 1 [.int .i64 y] rfl (by simp) (one_at (unhide HC2)) (ints_oneCell .i64 [y]) (by unfold maxLen; omega) (by omega) (by simp; omega) ?_)
              intro v' w' ho hg _
              have hO3 : OwnZ w4.heap.size w' v' (ints ((A.map (fun a => 32 + a)) ++ (B.take (i + 1)).map (fun a => 256 + a))) := by
                rw [← unhide HNX]
                refine OwnZ.snoc ?_
                rw [unhide HNL]
                exact ho
              have HO3 := hide hO3
              have HK3 : Hid (Below w4.heap.size wx w') := ((unhide HK).trans ((unhide HAL).mono (by omega))).grown hg (by simp; omega) (fun b e => OwnZ.row (unhide HO2) b e)
              clear ho hg hO3
              go_wp2_with fail
              go_roundw
              case rel => exact ⟨i + 1, by go_num, by omega, unhide HO3, unhide HK3⟩
              case measure => simp [intOf]; omega
            · have hi2 : i = B.length := by omega
              subst hi2
              have hi1 : ¬ (B.length : Int) < (B.length : Int) := by omega
              have HO9 := HO
              rw [List.take_length] at HO9
              have hO9 : OwnI w4.heap.size wr (.slice vo (A.length + B.length) vc) (psOf A B []) := by
                have h := unhide HO9
                rw [hv] at h
                have e : (A.map (fun a => 32 + a)) ++ B.map (fun b => 256 + b) = psOf A B [] := by simp [psOf]
                rw [e] at h
                unfold OwnZ at h
                rw [ints_len] at h
                have hl : ((A.map (fun a => 32 + a)) ++ (B.take B.length).map (fun b => 256 + b)).length = A.length + B.length := by simp
                rw [hl] at h
                exact h
              have HO10 := hide hO9
              have HT6 := hide ((unhide HT5).trans ((unhide HK).mono (by omega)))
              have hvl : ((A.map (fun a => 32 + a)) ++ (B.take B.length).map (fun b => 256 + b)).length = A.length + B.length := by simp
              rw [hvl] at hv
              subst hv
              clear hO9 HO9 HO HK
              go_wp2
              go_ret
              exact ⟨_, rfl, A, unhide HPA, B, unhide HPB, hAm, hBm, (unhide HO10).mono (by omega), unhide HT6⟩

end Go.Proofs.Ytkhpoomajebgoaa

namespace Go.Proofs.Ytkhpoomajebgoaa
open Go.RowKit Go.Shelf

def encP (d : List Nat) : List Nat := if d.length = 48 then pageF d else []
theorem encP_bs {d : List Nat} (h : Bs d) : Bs (encP d) := by
  unfold encP
  split
  · exact pageF_bs h
  · exact Bs.nil
theorem encP_yes {d : List Nat} (h : d.length = 48) : encP d = pageF d := if_pos h
theorem pencode_u (v : Value) (g : Nat) (d : List Nat) (w : World) (hA : Arg w v g d) :
    Calls Try.prog 11 #[v] w fun e w' => ∃ v', e = .returned v' ∧ Fr w.heap.size w' v' (encP d) ∧ Below w.heap.size w w' := by
  by_cases h : d.length = 48
  · rw [encP_yes h]; exact pencode_any v g d w hA h
  · refine (pencode_not v g d w hA h).mono ?_
    rintro e w' ⟨rfl, rfl⟩
    exact ⟨_, rfl, .inl ⟨if_neg h, rfl⟩, Below.refl _ _⟩
theorem rpencode_u (v : Value) (g : Nat) (d : List Nat) (w : World) (hA : Arg w v g d) :
    Calls Try.prog 13 #[v] w fun e w' => ∃ v', e = .returned v' ∧ Fr w.heap.size w' v' (encP d) ∧ Below w.heap.size w w' := by
  by_cases h : d.length = 48
  · rw [encP_yes h]; exact rpencode_any v g d w hA h
  · refine (rpencode_not v g d w hA h).mono ?_
    rintro e w' ⟨rfl, rfl⟩
    exact ⟨_, rfl, .inl ⟨if_neg h, rfl⟩, Below.refl _ _⟩
end Go.Proofs.Ytkhpoomajebgoaa
