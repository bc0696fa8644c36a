/-
  The laws' own same, Slots (ramekinlaw11).
  The laws' own known (ramekinlaw11).
  The laws' own Started, SameRow.
  The laws' own Encode (ramekinref11).
  What Encode answers, to be used by the laws.
-/
import Derived.Test.YtjdikhelabibnabGreatMbg
import Derived.Test.YtjdikhelabibnabGreatMav
import Derived.Test.YtjdikhelabibnabGreatMam
import Derived.Test.YtjdikhelabibnabGreatMba
import Derived.Test.YtjdikhelabibnabGreatMas
import Derived.Test.YtjdikhelabibnabGreatMar
namespace Go.Proofs.YtjdikhelabibnabGreat
open Go Go.RowKit Go.Shelf

/-- The good slot of a slot. -/
def gdV (e : EV) : EV := ⟨gdK e.k, gdLb e.k e.l, gdS e.k e.s, gdD e.k e.d⟩
theorem gd_ok11 (k l s : Int) (d : List Nat) : okE (gdK k) (gdLb k l) (gdS k s) (gdD k d) := by
  unfold gdK gdLb gdS gdD okE
  refine ⟨⟨by omega, by omega⟩, fun h => ?_, fun h => ?_, fun h => ?_⟩
  · rw [if_pos h, if_pos h]; omega
  · rw [if_neg h, if_neg h]; exact ⟨rfl, rfl⟩
  · rw [if_neg h]
theorem gdV_ok {e : EV} (h : e.Ok) : (gdV e).Ok := ⟨gdD_len h.len, fun j => by
  show cf (gdD e.k e.d) j < 256
  unfold gdD
  split
  · exact h.bs j
  · exact zEV_ok.bs j⟩
theorem EV.cs_arr {e : EV} : e.cs.toArray = e.ar := by simp [EV.cs, EV.ar]
/-- The good slots of the first slots. -/
def gdSl (l : List EV) (m : Nat) : List EV := (l.take m).map gdV
theorem gdSl_len (l : List EV) (m : Nat) : (gdSl l m).length = min m l.length := by simp [gdSl]
theorem gdSl_ok {l : List EV} (h : ∀ e ∈ l, e.Ok) (m : Nat) : ∀ e ∈ gdSl l m, e.Ok := by
  intro e he
  obtain ⟨x, hx, rfl⟩ := List.mem_map.1 he
  exact gdV_ok (h x (List.mem_of_mem_take hx))
theorem gdSl_snoc {l : List EV} {m : Nat} (h : m < l.length) : gdSl l (m + 1) = gdSl l m ++ [gdV (l.getD m zEV)] := by
  rw [gdSl, gdSl, List.take_add_one, List.map_append, List.getElem?_eq_getElem h, List.getD_eq_getElem?_getD, List.getElem?_eq_getElem h]
  rfl
set_option maxRecDepth 100000 in
set_option maxHeartbeats 8000000 in
theorem slots11_any (ao : Option Addr) (n c G : Nat) (l : List EV) (M : Nat) (hM : M ≤ 1000) (w : World) (hL : EArg w (.slice ao n c) G l) :
    Calls Tryz.prog 8 #[.slice ao n c, .int .i64 (M : Int)] w fun e w' => ∃ v, e = .returned v ∧ OwnE w.heap.size w' v (gdSl l M) ∧ Below w.heap.size w w' := by
  obtain ⟨ao', c', hv, hnc, hcm, -, hr⟩ := hL.ex
  obtain ⟨rfl, hnl, rfl⟩ : ao = ao' ∧ n = l.length ∧ c = c' := by cases hv; exact ⟨rfl, rfl, rfl⟩
  have HOK : Hid (∀ i, (l.getD i zEV).Ok) := hL.get_ok
  have HNL := hide hnl
  have HR := hide hr
  have hnm : (n : Int) ≤ 9223372036854775807 := by unfold maxLen at hcm; omega
  clear hv hr hL hnl hnc hcm
  go_enter Tryz.func8, Tryz.ntmps8
  go_wp2_with fail
  go_loopw [5, 6] (fun v i wr => ∃ (k : Nat), k ≤ M ∧ k ≤ n ∧ i = .int .i64 k ∧ OwnE w.heap.size wr v (gdSl l k) ∧ Below w.heap.size w wr) (fun _ i _ => n - (intOf i).toNat)
  case atStart => exact ⟨0, by omega, by omega, rfl, OwnE.nil _ _, Below.refl _ _⟩
  case round =>
    obtain ⟨k, hkM, hkn, rfl, hO, hB⟩ := hrel
    obtain ⟨va, vc, hv, -⟩ := hO.1.shape
    have hlk : (gdSl l k).length = k := by rw [gdSl_len, ← unhide HNL]; omega
    rw [hlk] at hv
    subst hv
    have HO := hide hO
    have HB := hide hB
    have HLK2 := hide hlk
    clear hO hB hlk
    have HFIN : Hid (k = n ∨ k = M → gdSl l k = gdSl l M) := by
      rintro (h | h)
      · unfold gdSl
        rw [h, unhide HNL, List.take_length, List.take_of_length_le (by rw [← unhide HNL]; omega)]
      · rw [h]
    by_cases hlt : k < n
    · have hi1 : (k : Int) < (n : Int) := by omega
      by_cases hlm : k < M
      · have hi2 : (k : Int) < (M : Int) := by omega
        have hlt2 : k < l.length := by rw [← unhide HNL]; exact hlt
        obtain ⟨o, rfl, hcl⟩ := (unhide HR) (fun h => by rw [h] at hlt2; simp at hlt2)
        have HCL : Hid (wr.rangeAt G (o + k * 19) (l.getD k zEV).cs) := fun j v hv => ((unhide HB).cell (block_lt_of_cell (hcl k hlt2 j v hv))).trans (hcl k hlt2 j v hv)
        clear hcl
        have hoe := (unhide HOK) k
        have hsn := gdSl_snoc hlt2
        obtain ⟨e, he⟩ : ∃ e, l.getD k zEV = e := ⟨_, rfl⟩
        rw [he] at HCL hoe hsn
        have HOE := hide hoe
        have HSN := hide hsn
        clear hoe hsn he hlt2
        go_wp2_with (refine wpList_load_mid rfl 46 _ rfl G (o + k * 19) rfl e.cs _ (unhide HCL) Tryz.underlying46 (by rfl) (by rw [sizeTE, EV.cs_len (unhide HOE)]) ?_)
        rw [EV.cs_arr]
        refine (good_any e.k e.l e.s e.d (unhide HOE).len wr).mono ?_
        rintro x w5 ⟨rfl, hk5⟩
        obtain ⟨e2, he2⟩ : ∃ e2 : EV, e2 = gdV e := ⟨_, rfl⟩
        have hea : entA (gdK e.k) (gdLb e.k e.l) (gdS e.k e.s) (gdD e.k e.d) = e2.ar := by rw [he2]; rfl
        have hok2 : e2.Ok := by rw [he2]; exact gdV_ok (unhide HOE)
        rw [hea]
        have hal := (Below.refl w5.heap.size w5).alloc (Nat.le_refl _) (.cells e2.ar 46)
        have hk6 := hk5.trans (hal.mono hk5.size)
        obtain ⟨v9, w9, hr9, ho9, hg9⟩ := run_append_ev (w5.alloc (.cells e2.ar 46)) w.heap.size 22 (.slice va k vc) (gdSl l k) ((unhide HO).below hk6) w5.heap.size 0 e2 (range_ev w5 e2 46) hok2 (by rw [unhide HLK2]; omega) (by have := (unhide HB).size; have := hk6.size; omega)
        have hB9 : Below w.heap.size w w9 := ((unhide HB).trans (hk6.mono (unhide HB).size)).trans ⟨hg9.os, hg9.tape, hg9.output, hg9.size, fun q hq => hg9.block q (by have := (unhide HB).size; have := hk6.size; omega) (fun e => by have := ((unhide HO).below hk6).1.ownBlock e.symm; omega)⟩
        have HO9 : Hid (OwnE w.heap.size w9 v9 (gdSl l (k + 1))) := by
          rw [unhide HSN, ← he2]
          exact ho9
        have HRA := hide hr9
        have HB9 := hide hB9
        have HOK2 := hide hok2
        clear hr9 ho9 hg9 hB9 hk6 hal hk5 hea he2 hok2
        go_wp2_with (first | (refine wpList_build_ev11 rfl _ rfl e2 (unhide HOK2) rfl ?_) | (at_builtin; refine wpList_append_run rfl _ _ _ _ _ rfl _ _ rfl rfl (unhide HRA) ?_))
        go_roundw
        case rel => exact ⟨k + 1, by omega, by omega, by go_num, unhide HO9, unhide HB9⟩
        case measure => simp [intOf]; omega
      · have hi2 : (M : Int) ≤ (k : Int) := by omega
        go_wp2_with fail
        go_ret
        refine ⟨_, rfl, ?_, unhide HB⟩
        rw [← unhide HFIN (.inr (by omega))]
        exact unhide HO
    · have hi1 : (n : Int) ≤ (k : Int) := by omega
      go_wp2_with fail
      go_ret
      refine ⟨_, rfl, ?_, unhide HB⟩
      rw [← unhide HFIN (.inl (by omega))]
      exact unhide HO

end Go.Proofs.YtjdikhelabibnabGreat

namespace Go.Proofs.YtjdikhelabibnabGreat
open Go Go.RowKit Go.Shelf

def pages0 : Array Value := #[.int .i64 0, .slice none 0 0, .int .i64 0, .slice none 0 0, .int .i64 0, .slice none 0 0, .int .i64 0, .slice none 0 0, .int .i64 0, .slice none 0 0, .int .i64 0, .slice none 0 0]
theorem run_pages0 (w : World) : (Instr.makeSlice 30 (.int .i64 6) (.int .i64 6)).run Tryz.prog w = .ok (.slice (some ⟨w.heap.size, 0, none⟩) 6 6) (w.alloc (.cells pages0 35)) := by
  obtain ⟨i0, hi0, hz0, hz1, hz2⟩ := info_parts infoTP
  have h := run_make (P := Tryz.prog) w 30 35 i0 _ Tryz.underlying30 hi0 hz0 .i64 .i64 6 6 (by omega) (by omega) (by rw [hz2]; omega) (by omega)
  rw [hz1, show madeCells (Value.cells (.agg #[.int .i64 0, .slice none 0 0])) ((6 : Int).toNat * 2) = pages0 from by kernel_rfl] at h
  exact h
theorem arg_pages0 (w : World) : PgArg (w.alloc (.cells pages0 35)) (.slice (some ⟨w.heap.size, 0, none⟩) 6 6) w.heap.size (List.replicate 6 zPV) := by
  refine ⟨⟨_, 6, rfl, by simp, by unfold maxLen; omega, (fun h => by cases h), fun _ => ⟨0, rfl, fun i hi j v hv => ?_⟩⟩, fun p hp => ?_⟩
  · simp only [List.length_replicate] at hi
    rw [List.getD_eq_getElem?_getD, List.getElem?_replicate, if_pos hi] at hv
    refine cell_blk (World.alloc_heap_new w _) ?_
    rw [Nat.zero_add]
    have hj : j < 2 := (List.getElem?_eq_some_iff.1 hv).1
    rw [← hv]
    rcases (show i = 0 ∨ i = 1 ∨ i = 2 ∨ i = 3 ∨ i = 4 ∨ i = 5 from by omega) with rfl | rfl | rfl | rfl | rfl | rfl <;> rcases (show j = 0 ∨ j = 1 from by omega) with rfl | rfl <;> rfl
  · rw [(List.mem_replicate.1 hp).2]; exact zPV_ok _
theorem decF_pages0 : decF 0 0 (List.replicate 6 zPV) 1 = (zRow, 2) := by
  unfold decF
  rw [if_neg (by simp), if_pos (by simp [zPV])]
set_option maxRecDepth 100000 in
set_option maxHeartbeats 8000000 in
theorem known11_any (w : World) : Calls Tryz.prog 5 #[] w fun e w' => e = .returned (.bool true) ∧ Below w.heap.size w w' := by
  have hmk := run_pages0
  go_enter Tryz.func5, Tryz.ntmps5
  go_wp2_with fail
  have h0 := (Below.refl w.heap.size w).alloc (Nat.le_refl _) (.cells pages0 35)
  refine (dec11_any 0 0 (some ⟨w.heap.size, 0, none⟩) 6 6 w.heap.size (List.replicate 6 zPV) 1 (fun i => by rw [List.getD_eq_getElem?_getD, List.getElem?_replicate]; split <;> simp [zPV]) _ (arg_pages0 w)).mono ?_
  rintro x w2 ⟨hB, v, hx, ⟨sv, g, hv, hE, -⟩⟩
  rw [decF_pages0] at hx hv hE
  obtain ⟨ao, c, hs, -⟩ := hE.ex
  subst hs
  subst hv
  subst hx
  have HB := hide (h0.trans (hB.mono (Nat.le_of_lt (by simp))))
  clear h0 hB hE
  dsimp only [zRow]
  go_wp2_with fail
  refine (enc11_any 6 1 0 0 none 0 0 0 [] _ (EArg.nil _)).mono ?_
  rintro x w3 ⟨hB3, h3⟩
  rcases h3 with ⟨-, v3, ps, rfl, hO⟩ | ⟨h3, -⟩
  rotate_left 1
  · exact absurd ⟨by omega, by unfold okH; omega, by simp, by intro e he; simp at he⟩ h3
  obtain ⟨g3, c3, rfl, -⟩ := hO.some (encL_len _ _ _ _ _) (by omega)
  have h1 := (Below.refl w2.heap.size w2).alloc (Nat.le_refl _) (.cells #[.int .i64 0, .int .i64 0, .slice ao 0 c] 37)
  have HB3 := hide ((unhide HB).trans ((h1.trans (hB3.mono (Nat.le_of_lt (by simp)))).mono (unhide HB).size))
  clear hB3 hO h1
  simp only [show ((6 : Int) - 2).toNat + 2 = 6 from rfl]
  go_wp2_with fail
  go_ret
  exact ⟨rfl, unhide HB3⟩

end Go.Proofs.YtjdikhelabibnabGreat

namespace Go.Proofs.YtjdikhelabibnabGreat
open Go Go.RowKit Go.Shelf

theorem run_load_agg11 {o : Oper} {a : Act} {W : World} {ty : TypeId} {x : Operand} {ad : Addr} {cs : Array Value} (ho : o.op = .load ty x) (hx : a.eval x = .pointer (some ad)) (hl : (loadVar ty ad).run Tryz.prog W = .ok (.agg cs) W) : (execOp a.eval o).run Tryz.prog W = .ok (.value (.agg cs)) W := run_load_agg9 ho hx hl
/-- Rows are the same. -/
def sameRV (a b : RowV) : Prop := a.se = b.se ∧ a.at' = b.at' ∧ a.sl = b.sl
theorem ev_eq {a b : EV} : a = b ↔ (decide (a.k = b.k) && (decide (a.l = b.l) && (decide (a.s = b.s) && decide (a.d = b.d)))) = true := by
  obtain ⟨k, l, s, d⟩ := a
  obtain ⟨k', l', s', d'⟩ := b
  simp
end Go.Proofs.YtjdikhelabibnabGreat

namespace Go.Proofs.YtjdikhelabibnabGreat
open Go Go.RowKit Go.Shelf

theorem build_TE0 (w : World) : (Instr.build 46 #[]).run Tryz.prog w = .ok (.agg zEV.ar) w := run_build w 46 _ _ (by kernel_rfl)
theorem zEV_okE : okE zEV.k zEV.l zEV.s zEV.d := ⟨⟨by decide, by decide⟩, fun h => absurd h (by decide), fun _ => ⟨rfl, rfl⟩, fun _ => rfl⟩
theorem okL_get {l : List EV} (h : okL l) (i : Nat) : okE (l.getD i zEV).k (l.getD i zEV).l (l.getD i zEV).s (l.getD i zEV).d := by
  by_cases hi : i < l.length
  · exact h _ (getD_mem11 hi)
  · rw [show l.getD i zEV = zEV by rw [List.getD_eq_getElem?_getD, List.getElem?_eq_none (by omega)]; rfl]; exact zEV_okE
theorem okL_of {l : List EV} (h : ∀ i, i < l.length → okE (l.getD i zEV).k (l.getD i zEV).l (l.getD i zEV).s (l.getD i zEV).d) : okL l := by
  intro e he
  obtain ⟨i, hi, h2⟩ := mem_getD11 (z := zEV) he
  rw [← h2]; exact h i hi
/-- A slot that is stored whole into a block that was laid just before. -/
theorem new_ev11 {w w2 : World} {old : Array Value} (e : EV) (h : (w.alloc (.cells old 46)).setRow w.heap.size e.ar = w2) : EvAt w2 w.heap.size e ∧ Below w.heap.size w w2 ∧ w2.heap.size = w.heap.size + 1 := by
  subst h
  have h0 := World.alloc_heap_new w (.cells old 46)
  have hz : ((w.alloc (.cells old 46)).setRow w.heap.size e.ar).heap.size = (w.alloc (.cells old 46)).heap.size := by simp [World.setRow]
  exact ⟨⟨setRow_heap _ _ _ _ _ _ h0⟩, below_setRow11 ((Below.refl _ w).alloc (Nat.le_refl _) _) (Nat.le_refl _) _, by rw [hz]; simp⟩
theorem put_ev11 {w : World} {b : Nat} {e : EV} (e2 : EV) (h : EvAt w b e) : EvAt (w.setRow b e2.ar) b e2 ∧ Below b w (w.setRow b e2.ar) ∧ (w.setRow b e2.ar).heap.size = w.heap.size := by
  have h0 := h.blk
  exact ⟨⟨setRow_heap _ _ _ _ _ _ h0⟩, below_setRow11 (Below.refl _ w) (Nat.le_refl _) _, by simp [World.setRow]⟩

set_option maxRecDepth 100000 in
set_option maxHeartbeats 16000000 in
theorem renc11_any (n a b cc : Int) (ao : Option Addr) (m c g : Nat) (L : List EV) (w : World) (hL : EArg w (.slice ao m c) g L) :
    Calls Tryz.prog 7 #[.int .i64 n, .int .i64 a, .int .i64 b, .int .i64 cc, .slice ao m c] w fun e w' => EncR w w' e n a b cc L := by
  have HL := hide hL
  obtain ⟨hln, hmc, hcm, hrow⟩ := hL.mrow
  have HLN := hide hln
  have HRW := hide hrow
  have hmm : (m : Int) ≤ 9223372036854775807 := by unfold maxLen at hcm; omega
  clear hL hrow hln hmc hcm
  have HNO : Hid (¬ okRow n a b cc L → EncR w w (.returned (.tuple #[.slice none 0 0, .int .i64 1])) n a b cc L) := fun h => ⟨Below.refl _ _, .inr ⟨h, rfl⟩⟩
  by_cases q0 : n < 6
  · have := unhide HNO (fun h => by have := h.1.1; omega)
    have HX := hide this
    clear this
    go_enter Tryz.func7, Tryz.ntmps7
    go_wp2_with fail
    refine bodyPost_ret (results_tmp2 rfl _ _ _) rfl ?_
    exact unhide HX
  replace q0 : 6 ≤ n := by omega
  by_cases q1 : 8 < n
  · have := unhide HNO (fun h => by have := h.1.2; omega)
    have HX := hide this
    clear this
    go_enter Tryz.func7, Tryz.ntmps7
    go_wp2_with fail
    refine bodyPost_ret (results_tmp2 rfl _ _ _) rfl ?_
    exact unhide HX
  replace q1 : n ≤ 8 := by omega
  by_cases q2 : a < 1
  · have := unhide HNO (fun h => by have := h.2.1.1.1; omega)
    have HX := hide this
    clear this
    go_enter Tryz.func7, Tryz.ntmps7
    go_wp2_with fail
    refine bodyPost_ret (results_tmp2 rfl _ _ _) rfl ?_
    exact unhide HX
  replace q2 : 1 ≤ a := by omega
  by_cases q3 : 1099511627776 < a
  · have := unhide HNO (fun h => by have := h.2.1.1.2; omega)
    have HX := hide this
    clear this
    go_enter Tryz.func7, Tryz.ntmps7
    go_wp2_with fail
    refine bodyPost_ret (results_tmp2 rfl _ _ _) rfl ?_
    exact unhide HX
  replace q3 : a ≤ 1099511627776 := by omega
  by_cases q4 : b < 0
  · have := unhide HNO (fun h => by have := h.2.1.2.1.1; omega)
    have HX := hide this
    clear this
    go_enter Tryz.func7, Tryz.ntmps7
    go_wp2_with fail
    refine bodyPost_ret (results_tmp2 rfl _ _ _) rfl ?_
    exact unhide HX
  replace q4 : 0 ≤ b := by omega
  by_cases q5 : 255 < b
  · have := unhide HNO (fun h => by have := h.2.1.2.1.2; omega)
    have HX := hide this
    clear this
    go_enter Tryz.func7, Tryz.ntmps7
    go_wp2_with fail
    refine bodyPost_ret (results_tmp2 rfl _ _ _) rfl ?_
    exact unhide HX
  replace q5 : b ≤ 255 := by omega
  by_cases q6 : cc < 0
  · have := unhide HNO (fun h => by have := h.2.1.2.2.1; omega)
    have HX := hide this
    clear this
    go_enter Tryz.func7, Tryz.ntmps7
    go_wp2_with fail
    refine bodyPost_ret (results_tmp2 rfl _ _ _) rfl ?_
    exact unhide HX
  replace q6 : 0 ≤ cc := by omega
  by_cases q7 : 255 < cc
  · have := unhide HNO (fun h => by have := h.2.1.2.2.2; omega)
    have HX := hide this
    clear this
    go_enter Tryz.func7, Tryz.ntmps7
    go_wp2_with fail
    refine bodyPost_ret (results_tmp2 rfl _ _ _) rfl ?_
    exact unhide HX
  replace q7 : cc ≤ 255 := by omega
  obtain ⟨d, hd⟩ : ∃ d : Nat, n = (d : Int) + 2 := ⟨(n - 2).toNat, by omega⟩
  subst hd
  have hnn : (d : Int) + 2 - 2 = (d : Int) := by omega
  by_cases q8 : (d : Int) < (m : Int)
  · have := unhide HNO (fun h => by have h1 := h.2.2.1; rw [unhide HLN] at h1; omega)
    have HX := hide this
    clear this
    go_enter Tryz.func7, Tryz.ntmps7
    go_wp2_with fail
    refine bodyPost_ret (results_tmp2 rfl _ _ _) rfl ?_
    exact unhide HX
  replace q8 : (m : Int) ≤ (d : Int) := by omega
  have HOR : Hid (okL L → okRow ((d : Int) + 2) a b cc L) := fun h => ⟨⟨q0, q1⟩, ⟨⟨q2, q3⟩, ⟨q4, q5⟩, q6, q7⟩, by rw [unhide HLN]; omega, h⟩
  have HNL : Hid (¬ okL L → ¬ okRow ((d : Int) + 2) a b cc L) := fun h h2 => h h2.2.2.2
  clear HNO
  have HQ8 := hide q8
  have hd4 : 4 ≤ d := by omega
  have hd6 : d ≤ 6 := by omega
  have hbt0 := build_TE0
  have z0 : decide ((d : Int) + 2 < 6) = false := decide_eq_false (by omega)
  have z1 : decide (8 < (d : Int) + 2) = false := decide_eq_false (by omega)
  have z2 : decide (a < 1) = false := decide_eq_false (by omega)
  have z3 : decide (1099511627776 < a) = false := decide_eq_false (by omega)
  have z4 : decide (b < 0) = false := decide_eq_false (by omega)
  have z5 : decide (255 < b) = false := decide_eq_false (by omega)
  have z6 : decide (cc < 0) = false := decide_eq_false (by omega)
  have z7 : decide (255 < cc) = false := decide_eq_false (by omega)
  have z8 : decide ((d : Int) < (m : Int)) = false := decide_eq_false (by omega)
  go_enter Tryz.func7, Tryz.ntmps7
  go_wp2_with fail
  rw [show decide (d < m) = false from decide_eq_false (by omega)]
  clear z0 z1 z2 z3 z4 z5 z6 z7 z8 q0 q1 q2 q3 q4 q5 q6 q7 q8
  go_loopw [12, 13] (fun v i wr => ∃ (k : Nat), k ≤ d ∧ i = .int .i64 k ∧ OwnQ w.heap.size wr v (dataL k a b cc L) ∧ Below w.heap.size w wr ∧ ∀ j, j < k → okE (L.getD j zEV).k (L.getD j zEV).l (L.getD j zEV).s (L.getD j zEV).d) (fun _ i _ => d - (intOf i).toNat)
  case atStart => exact ⟨0, by omega, rfl, OwnQ.nil _ _, Below.refl _ _, by omega⟩
  case round =>
    obtain ⟨k, hkd, rfl, hO, hB, hz⟩ := hrel
    obtain ⟨va, vn, vc, hv⟩ := hO.vshape
    subst hv
    have HO := hide hO
    have HB := hide hB
    have HZ := hide hz
    clear hO hB hz
    by_cases hlt : k < d
    · have hi1 : (k : Int) < (d : Int) := by omega
      obtain ⟨W1, hW1⟩ : ∃ W, (wr.alloc (.cells #[.int .i64 0, .int .i64 0, .int .i64 0, .int .u8 0, .int .u8 0, .int .u8 0, .int .u8 0, .int .u8 0, .int .u8 0, .int .u8 0, .int .u8 0, .int .u8 0, .int .u8 0, .int .u8 0, .int .u8 0, .int .u8 0, .int .u8 0, .int .u8 0, .int .u8 0] 46)).setRow wr.heap.size zEV.ar = W := ⟨_, rfl⟩
      obtain ⟨n1, n2, n3⟩ := new_ev11 zEV hW1
      have HN0 := hide (World.alloc_heap_new wr (.cells #[.int .i64 0, .int .i64 0, .int .i64 0, .int .u8 0, .int .u8 0, .int .u8 0, .int .u8 0, .int .u8 0, .int .u8 0, .int .u8 0, .int .u8 0, .int .u8 0, .int .u8 0, .int .u8 0, .int .u8 0, .int .u8 0, .int .u8 0, .int .u8 0, .int .u8 0] 46))
      have HE1 := hide n1
      have HB1 := hide n2
      have HW1 := hide hW1
      have hz1 : wr.heap.size + 1 ≤ W1.heap.size := by omega
      have HOK := hide ((unhide HL).get_ok k)
      clear n1 n2 n3 hW1
      by_cases hkm : k < m
      · have hi2 : (k : Int) < (m : Int) := by omega
        have hlk : k < L.length := by rw [unhide HLN]; exact hkm
        obtain ⟨o, rfl, hcl⟩ := (unhide HRW).at (by omega)
        have HCL : Hid (W1.rangeAt g (o + k * 19) (L.getD k zEV).cs) := fun j v hv => (((unhide HB).trans ((unhide HB1).mono (unhide HB).size)).cell (block_lt_of_cell (hcl k hkm j v hv))).trans (hcl k hkm j v hv)
        clear hcl
        obtain ⟨ev, he⟩ : ∃ ev, L.getD k zEV = ev := ⟨_, rfl⟩
        rw [he] at HCL HOK
        have HE := hide he
        obtain ⟨W2, hW2⟩ : ∃ W, W1.setRow wr.heap.size ev.ar = W := ⟨_, rfl⟩
        obtain ⟨n1, n2, n3⟩ := put_ev11 ev (unhide HE1)
        rw [hW2] at n1 n2 n3
        have HE2 := hide n1
        have HB2 : Hid (Below wr.heap.size wr W2) := (unhide HB1).trans n2
        have hz2 : wr.heap.size + 1 ≤ W2.heap.size := by omega
        have HW2 := hide hW2
        clear n1 n2 n3 hW2 he hlk
        go_wp2_with (first | (refine wpList_store_row rfl 46 _ _ rfl wr.heap.size zEV.ar rfl rfl 46 #[.int .i64 0, .int .i64 0, .int .i64 0, .int .u8 0, .int .u8 0, .int .u8 0, .int .u8 0, .int .u8 0, .int .u8 0, .int .u8 0, .int .u8 0, .int .u8 0, .int .u8 0, .int .u8 0, .int .u8 0, .int .u8 0, .int .u8 0, .int .u8 0, .int .u8 0] (unhide HN0) (by rw [EV.ar_size zEV_ok]; kernel_rfl) (by rw [EV.ar_size zEV_ok]; rfl) (EV.ar_one _) ?_; rw [unhide HW1]) | (refine wpList_load_mid rfl 46 _ rfl g (o + k * 19) rfl ev.cs _ (unhide HCL) Tryz.underlying46 (by rfl) (by rw [sizeTE, EV.cs_len (unhide HOK)]) ?_; rw [EV.cs_arr]) | (refine wpList_store_row rfl 46 _ _ rfl wr.heap.size ev.ar rfl rfl 46 zEV.ar (unhide HE1).blk (by rw [EV.ar_size (unhide HOK)]; kernel_rfl) (by rw [EV.ar_size (unhide HOK), EV.ar_size zEV_ok]) (EV.ar_one _) ?_; rw [unhide HW2]) | (refine wpList_load_mid rfl 46 _ rfl wr.heap.size 0 rfl ev.cs _ (unhide HE2).range Tryz.underlying46 (by rfl) (by rw [sizeTE, EV.cs_len (unhide HOK)]) ?_; rw [EV.cs_arr]))
        refine (rcheckE_any ev.k ev.l ev.s ev.d (unhide HOK).len W2).mono ?_
        rintro x W3 ⟨rfl, hk3⟩
        have HB3 : Hid (Below wr.heap.size wr W3) := (unhide HB2).trans (hk3.mono (unhide HB2).size)
        have HE3 := hide ((unhide HE2).below hk3)
        have hz3 : wr.heap.size + 1 ≤ W3.heap.size := by have := hk3.size; omega
        clear hk3
        by_cases hok : okE ev.k ev.l ev.s ev.d
        rotate_left 1
        · have HX : Hid (EncR w W3 (.returned (.tuple #[.slice none 0 0, .int .i64 1])) ((d : Int) + 2) a b cc L) := ⟨(unhide HB).trans ((unhide HB3).mono (unhide HB).size), .inr ⟨unhide HNL (fun h => hok (by rw [← unhide HE]; exact okL_get h k)), rfl⟩⟩
          rw [chkE_not hok]
          clear hok
          go_wp2_with fail
          refine bodyPost_ret (results_tmp2 rfl _ _ _) rfl ?_
          exact unhide HX
        rw [chkE_ok hok]
        have HOE := hide hok
        clear hok
        go_wp2_with (refine wpList_load_mid rfl 46 _ rfl wr.heap.size 0 rfl ev.cs _ (unhide HE3).range Tryz.underlying46 (by rfl) (by rw [sizeTE, EV.cs_len (unhide HOK)]) ?_; rw [EV.cs_arr])
        have hrb := rbytes_any a b cc (k : Int) ev.k ev.l ev.s ev.d (unhide HOK).len W3
        unfold headA at hrb
        refine hrb.mono ?_
        rintro x W4 ⟨g4, c4, rfl, ho4, hk4⟩
        clear hrb
        have hln := nbE_len (a := a) (b := b) (c := cc) (i := (k : Int)) (unhide HOK)
        have hbs := nbE_bs (a := a) (b := b) (c := cc) (i := (k : Int)) (unhide HOK)
        rw [← nbE_ints (unhide HOK)] at ho4
        obtain ⟨-, hfr⟩ := owns_fr ho4
        obtain ⟨g4', d4, hv4, h41, h42, hb4, -⟩ := hfr.blk (by intro h; rw [h] at hln; simp at hln)
        obtain ⟨rfl, rfl⟩ : g4 = g4' ∧ c4 = d4 := by rw [hln] at hv4; cases hv4; exact ⟨rfl, rfl⟩
        have HB4 : Hid (Below wr.heap.size wr W4) := (unhide HB3).trans (hk4.mono (unhide HB3).size)
        obtain ⟨W5, hW5⟩ : ∃ W5, W4.alloc (.cells #[.slice (some ⟨g4, 0, none⟩) 48 c4] 33) = W5 := ⟨_, rfl⟩
        have hk45 : Below W4.heap.size W4 W5 := by rw [← hW5]; exact (Below.refl _ W4).alloc (Nat.le_refl _) _
        have hc5 : W5.heap[W4.heap.size]? = some (.cells #[.slice (some ⟨g4, 0, none⟩) 48 c4] 33 (0, 0)) := by rw [← hW5]; exact World.alloc_heap_new W4 _
        have hb5 := hb4.below hk45 hb4.lt
        obtain ⟨cq, hcq, -⟩ := hb5
        have hA5 := (hb4.below hk45 hb4.lt).arg hbs (c := c4) (by rw [hln]; rw [hln] at h41; exact h41) h42
        have HB5 : Hid (Below wr.heap.size wr W5) := (unhide HB4).trans (hk45.mono (unhide HB4).size)
        have HO5 := hide ((unhide HO).below (unhide HB5))
        have hz5 := (unhide HB5).size
        have hzw := (unhide HB).size
        obtain ⟨v9, w9, hr9, hq9, hg9⟩ := OwnQ.snoc (unhide HO5) (g0 := W4.heap.size) (r := nbE a b cc (k : Int) ev) (a := some ⟨g4, 0, none⟩) (c := c4) (g := g4) hA5 hcq (by rw [hln]; exact hc5) (by rw [dataL_len]; omega) (by omega)
        have HB9 : Hid (Below w.heap.size w w9) := ((unhide HB).trans ((unhide HB5).mono hzw)).trans ⟨hg9.os, hg9.tape, hg9.output, hg9.size, fun q hq => hg9.block q (by omega) (fun eq1 => by have := ((unhide HO5).block eq1.symm).1; omega)⟩
        have HO9 : Hid (OwnQ w.heap.size w9 v9 (dataL (k + 1) a b cc L)) := by rw [dataL_snoc, unhide HE]; exact hq9
        have HRA := hide hr9
        have HW5 := hide hW5
        clear hv4 hr9 hq9 hg9 hcq hA5 hc5 hk45 hW5 hb4 hfr ho4 hk4 hln hbs h41 h42 hz5 hzw
        go_wp2_with (first | (rw [unhide HW5]) | (at_builtin; refine wpList_append_run rfl _ _ _ _ _ rfl _ _ rfl rfl (unhide HRA) ?_))
        go_roundw
        case rel => exact ⟨k + 1, by omega, by go_num, unhide HO9, unhide HB9, fun j hj => by
          by_cases hjk : j = k
          · rw [hjk, unhide HE]; exact unhide HOE
          · exact unhide HZ j (by omega)⟩
        case measure => simp [intOf]; omega
      · have hi2 : (m : Int) ≤ (k : Int) := by omega
        have he : L.getD k zEV = zEV := by rw [List.getD_eq_getElem?_getD, List.getElem?_eq_none (by rw [unhide HLN]; omega)]; rfl
        rw [he] at HOK
        have HE := hide he
        clear he
        go_wp2_with (first | (refine wpList_store_row rfl 46 _ _ rfl wr.heap.size zEV.ar rfl rfl 46 #[.int .i64 0, .int .i64 0, .int .i64 0, .int .u8 0, .int .u8 0, .int .u8 0, .int .u8 0, .int .u8 0, .int .u8 0, .int .u8 0, .int .u8 0, .int .u8 0, .int .u8 0, .int .u8 0, .int .u8 0, .int .u8 0, .int .u8 0, .int .u8 0, .int .u8 0] (unhide HN0) (by rw [EV.ar_size zEV_ok]; kernel_rfl) (by rw [EV.ar_size zEV_ok]; rfl) (EV.ar_one _) ?_; rw [unhide HW1]) | (refine wpList_load_mid rfl 46 _ rfl wr.heap.size 0 rfl zEV.cs _ (unhide HE1).range Tryz.underlying46 (by rfl) (by rw [sizeTE, EV.cs_len zEV_ok]) ?_; rw [EV.cs_arr]))
        refine (rcheckE_any zEV.k zEV.l zEV.s zEV.d (unhide HOK).len W1).mono ?_
        rintro x W3 ⟨rfl, hk3⟩
        have HB3 : Hid (Below wr.heap.size wr W3) := (unhide HB1).trans (hk3.mono (unhide HB1).size)
        have HE3 := hide ((unhide HE1).below hk3)
        have hz3 : wr.heap.size + 1 ≤ W3.heap.size := by have := hk3.size; omega
        clear hk3
        by_cases hok : okE zEV.k zEV.l zEV.s zEV.d
        rotate_left 1
        · have HX : Hid (EncR w W3 (.returned (.tuple #[.slice none 0 0, .int .i64 1])) ((d : Int) + 2) a b cc L) := ⟨(unhide HB).trans ((unhide HB3).mono (unhide HB).size), .inr ⟨unhide HNL (fun h => hok (by rw [← unhide HE]; exact okL_get h k)), rfl⟩⟩
          rw [chkE_not hok]
          clear hok
          go_wp2_with fail
          refine bodyPost_ret (results_tmp2 rfl _ _ _) rfl ?_
          exact unhide HX
        rw [chkE_ok hok]
        have HOE := hide hok
        clear hok
        go_wp2_with (refine wpList_load_mid rfl 46 _ rfl wr.heap.size 0 rfl zEV.cs _ (unhide HE3).range Tryz.underlying46 (by rfl) (by rw [sizeTE, EV.cs_len (unhide HOK)]) ?_; rw [EV.cs_arr])
        have hrb := rbytes_any a b cc (k : Int) zEV.k zEV.l zEV.s zEV.d (unhide HOK).len W3
        unfold headA at hrb
        refine hrb.mono ?_
        rintro x W4 ⟨g4, c4, rfl, ho4, hk4⟩
        clear hrb
        have hln := nbE_len (a := a) (b := b) (c := cc) (i := (k : Int)) (unhide HOK)
        have hbs := nbE_bs (a := a) (b := b) (c := cc) (i := (k : Int)) (unhide HOK)
        rw [← nbE_ints (unhide HOK)] at ho4
        obtain ⟨-, hfr⟩ := owns_fr ho4
        obtain ⟨g4', d4, hv4, h41, h42, hb4, -⟩ := hfr.blk (by intro h; rw [h] at hln; simp at hln)
        obtain ⟨rfl, rfl⟩ : g4 = g4' ∧ c4 = d4 := by rw [hln] at hv4; cases hv4; exact ⟨rfl, rfl⟩
        have HB4 : Hid (Below wr.heap.size wr W4) := (unhide HB3).trans (hk4.mono (unhide HB3).size)
        obtain ⟨W5, hW5⟩ : ∃ W5, W4.alloc (.cells #[.slice (some ⟨g4, 0, none⟩) 48 c4] 33) = W5 := ⟨_, rfl⟩
        have hk45 : Below W4.heap.size W4 W5 := by rw [← hW5]; exact (Below.refl _ W4).alloc (Nat.le_refl _) _
        have hc5 : W5.heap[W4.heap.size]? = some (.cells #[.slice (some ⟨g4, 0, none⟩) 48 c4] 33 (0, 0)) := by rw [← hW5]; exact World.alloc_heap_new W4 _
        have hb5 := hb4.below hk45 hb4.lt
        obtain ⟨cq, hcq, -⟩ := hb5
        have hA5 := (hb4.below hk45 hb4.lt).arg hbs (c := c4) (by rw [hln]; rw [hln] at h41; exact h41) h42
        have HB5 : Hid (Below wr.heap.size wr W5) := (unhide HB4).trans (hk45.mono (unhide HB4).size)
        have HO5 := hide ((unhide HO).below (unhide HB5))
        have hz5 := (unhide HB5).size
        have hzw := (unhide HB).size
        obtain ⟨v9, w9, hr9, hq9, hg9⟩ := OwnQ.snoc (unhide HO5) (g0 := W4.heap.size) (r := nbE a b cc (k : Int) zEV) (a := some ⟨g4, 0, none⟩) (c := c4) (g := g4) hA5 hcq (by rw [hln]; exact hc5) (by rw [dataL_len]; omega) (by omega)
        have HB9 : Hid (Below w.heap.size w w9) := ((unhide HB).trans ((unhide HB5).mono hzw)).trans ⟨hg9.os, hg9.tape, hg9.output, hg9.size, fun q hq => hg9.block q (by omega) (fun eq1 => by have := ((unhide HO5).block eq1.symm).1; omega)⟩
        have HO9 : Hid (OwnQ w.heap.size w9 v9 (dataL (k + 1) a b cc L)) := by rw [dataL_snoc, unhide HE]; exact hq9
        have HRA := hide hr9
        have HW5 := hide hW5
        clear hv4 hr9 hq9 hg9 hcq hA5 hc5 hk45 hW5 hb4 hfr ho4 hk4 hln hbs h41 h42 hz5 hzw
        go_wp2_with (first | (rw [unhide HW5]) | (at_builtin; refine wpList_append_run rfl _ _ _ _ _ rfl _ _ rfl rfl (unhide HRA) ?_))
        go_roundw
        case rel => exact ⟨k + 1, by omega, by go_num, unhide HO9, unhide HB9, fun j hj => by
          by_cases hjk : j = k
          · rw [hjk, unhide HE]; exact unhide HOE
          · exact unhide HZ j (by omega)⟩
        case measure => simp [intOf]; omega
    · have hi1 : (d : Int) ≤ (k : Int) := by omega
      have hkd2 : k = d := by omega
      subst hkd2
      have HYES : Hid (okRow ((k : Int) + 2) a b cc L) := unhide HOR (okL_of (fun i hi => unhide HZ i (by rw [unhide HLN] at hi; omega)))
      obtain ⟨ps, hO, hOty⟩ := (unhide HO).ex
      have HTYQ := hide (fun (V : World) (hkV : Below wr.heap.size wr V) => (fun (i : Nat) (hi : i < (dataL k a b cc L).length) => (show ∃ g, Arg V (.slice (psA ps i) ((dataL k a b cc L).getD i []).length (psC ps i)) g ((dataL k a b cc L).getD i []) ∧ (Value.slice va vn vc).ownBlock ≠ some g from by
        obtain ⟨q, hA, cq, hq⟩ := hOty i hi
        refine ⟨q, hA.below hkV, fun e => ?_⟩
        obtain ⟨-, c2, hc2⟩ := ownr_block hO e
        rw [hq] at hc2
        simp at hc2)))
      clear hOty
      obtain ⟨G, hRG, -⟩ := hO.arg
      obtain ⟨f1, f2, -, -⟩ := encL_facts (a := a) (b := b) (c := cc) (l := L) (d := k) (unhide HL).get_ok (by omega) (by omega)
      have hlP : (pP (dataL k a b cc L)).length = 48 := by
        have h := f1 k (by omega)
        have e := withP_p (dataL k a b cc L)
        rw [dataL_len] at e
        rw [encL, e] at h
        exact h
      have hlQ : (pQ (dataL k a b cc L)).length = 48 := by
        have h := f1 (k + 1) (by omega)
        have e := withP_q (dataL k a b cc L)
        rw [dataL_len] at e
        rw [encL, e] at h
        exact h
      obtain ⟨hsP, hsQ⟩ := par_bs (l := dataL k a b cc L) (dataL_bs (unhide HL).get_ok)
      have HPAR := hide (rparity_any _ G _ _ (dataL k a b cc L) wr hRG (fun i => by
        by_cases hi : i < k
        · rw [dataL_sz (unhide HL).get_ok hi]; omega
        · rw [List.getD_eq_getElem?_getD, List.getElem?_eq_none (by rw [dataL_len]; omega)]; simp))
      have HO' := hide hO
      have HLP := hide hlP
      have HLQ := hide hlQ
      have HSP := hide hsP
      have HSQ := hide hsQ
      clear hO hRG f1 f2 hlP hlQ hsP hsQ
      go_wp2_with fail
      refine (unhide HPAR).mono ?_
      rintro e w7 ⟨v1, v2, rfl, hF1, hF2, hk⟩
      obtain ⟨g1, d1, hv1, h11, h12, hb1, hg1⟩ := hF1.blk (by intro e; have := unhide HLP; rw [e] at this; simp at this)
      obtain ⟨g2, d2, hv2, h21, h22, hb2, hg2⟩ := hF2.blk (by intro e; have := unhide HLQ; rw [e] at this; simp at this)
      rw [unhide HLP] at hv1 h11
      rw [unhide HLQ] at hv2 h21
      subst hv1
      subst hv2
      obtain ⟨w8, hw8⟩ : ∃ w8, w7.alloc (.cells #[.slice (some ⟨g1, 0, none⟩) 48 d1, .slice (some ⟨g2, 0, none⟩) 48 d2] 33) = w8 := ⟨_, rfl⟩
      have hk78 : Below w7.heap.size w7 w8 := by rw [← hw8]; exact (Below.refl _ w7).alloc (Nat.le_refl _) _
      have hc8 : w8.heap[w7.heap.size]? = some (.cells #[.slice (some ⟨g1, 0, none⟩) 48 d1, .slice (some ⟨g2, 0, none⟩) 48 d2] 33 (0, 0)) := by rw [← hw8]; exact World.alloc_heap_new w7 _
      have hz7 := hk.size
      have hz8 := hk78.size
      have hzw := (unhide HB).size
      have hO8 := ((unhide HO').below hk).below hk78
      obtain ⟨v9, w9, hr9, ho9, hg9⟩ := run_append_r2 w8 w.heap.size _ _ _ hO8 w7.heap.size _ _ 48 d1 48 d2 hc8 (by rw [dataL_len]; omega) (by omega)
      have hown8 := fun (k : Nat) (hk : (Value.slice va vn vc).ownBlock = some k) => ownr_block hO8 hk
      have hne : ∀ {q : Nat} {cq : Array Value}, w8.heap[q]? = some (.cells cq 5 (0, 0)) → (Value.slice va vn vc).ownBlock ≠ some q := fun hq e => by
        obtain ⟨-, cc', hcc⟩ := hown8 _ e
        rw [hq] at hcc
        simp at hcc
      have hA1 : Arg w8 (.slice (some ⟨g1, 0, none⟩) 48 d1) g1 (pP (dataL k a b cc L)) := by have h := (hb1.below hk78 hb1.lt).arg (unhide HSP) (c := d1) (by rw [unhide HLP]; exact h11) h12; rw [unhide HLP] at h; exact h
      have hA2 : Arg w8 (.slice (some ⟨g2, 0, none⟩) 48 d2) g2 (pQ (dataL k a b cc L)) := by have h := (hb2.below hk78 hb2.lt).arg (unhide HSQ) (c := d2) (by rw [unhide HLQ]; exact h21) h22; rw [unhide HLQ] at h; exact h
      have ht1 : ∃ cq, w8.heap[g1]? = some (.cells cq 5 (0, 0)) := by obtain ⟨cq, h, -⟩ := hb1.below hk78 hb1.lt; exact ⟨cq, h⟩
      have ht2 : ∃ cq, w8.heap[g2]? = some (.cells cq 5 (0, 0)) := by obtain ⟨cq, h, -⟩ := hb2.below hk78 hb2.lt; exact ⟨cq, h⟩
      obtain ⟨-, hty⟩ : True ∧ ∀ i, i < (dataL k a b cc L).length → ∃ g, Arg w8 (.slice (psA ps i) ((dataL k a b cc L).getD i []).length (psC ps i)) g ((dataL k a b cc L).getD i []) ∧ (Value.slice va vn vc).ownBlock ≠ some g := ⟨trivial, (unhide HTYQ) w8 (hk.trans (hk78.mono hz7))⟩
      have HO9 : Hid (OwnR w.heap.size w9 v9 (ps ++ [(some ⟨g1, 0, none⟩, d1)] ++ [(some ⟨g2, 0, none⟩, d2)]) (encL k a b cc L)) :=
        OwnR.snoc2 (n := 48) (m := 48) hO8 ho9 (fun i hi => by obtain ⟨q, hA, hq⟩ := hty i hi; exact ⟨q, hA.grown hg9 (fun _ => hq)⟩) (unhide HLP) (unhide HLQ)
          ⟨g1, hA1.grown hg9 (fun _ => by obtain ⟨cq, h⟩ := ht1; exact hne h)⟩ ⟨g2, hA2.grown hg9 (fun _ => by obtain ⟨cq, h⟩ := ht2; exact hne h)⟩
      have HB9 : Hid (Below w.heap.size w w9) := (((unhide HB).trans (hk.mono hzw)).trans (hk78.mono (by omega))).trans ⟨hg9.os, hg9.tape, hg9.output, hg9.size, fun k hk' => hg9.block k (by omega) (fun e => by have := (hown8 k e.symm).1; omega)⟩
      have HRA := hide hr9
      have HW8 := hide hw8
      clear hO8 ho9 hg9 hr9 hown8 hA1 hA2 ht1 ht2 hty hne hk78 hc8 hk hF1 hF2 hb1 hb2 hw8
      go_wp2_with (first | (rw [unhide HW8]) | (at_builtin; refine wpList_append_run rfl _ _ _ _ _ rfl _ _ rfl rfl (unhide HRA) ?_))
      refine bodyPost_ret (results_tmp2 rfl _ _ _) rfl ?_
      have hd9 : ((k : Int) + 2 - 2).toNat = k := by omega
      exact ⟨unhide HB9, .inl ⟨unhide HYES, v9, _, rfl, by rw [hd9]; exact unhide HO9⟩⟩

end Go.Proofs.YtjdikhelabibnabGreat

namespace Go.Proofs.YtjdikhelabibnabGreat
open Go Go.RowKit Go.Shelf

noncomputable def encE (n a b c : Int) (l : List EV) : Int := open Classical in if okRow n a b c l then 0 else 1
noncomputable def encX (n a b c : Int) (l : List EV) : List (List Nat) := open Classical in if okRow n a b c l then encL (n - 2).toNat a b c l else []
theorem encE_ok {n a b c : Int} {l : List EV} (h : okRow n a b c l) : encE n a b c l = 0 := by unfold encE; rw [if_pos h]
theorem encX_ok {n a b c : Int} {l : List EV} (h : okRow n a b c l) : encX n a b c l = encL (n - 2).toNat a b c l := by unfold encX; rw [if_pos h]
theorem encE_no {n a b c : Int} {l : List EV} (h : ¬ okRow n a b c l) : encE n a b c l = 1 := by unfold encE; rw [if_neg h]
theorem encX_no {n a b c : Int} {l : List EV} (h : ¬ okRow n a b c l) : encX n a b c l = [] := by unfold encX; rw [if_neg h]
theorem EncR.use {w w' : World} {x : Ending} {n a b c : Int} {l : List EV} (h : EncR w w' x n a b c l) : Below w.heap.size w w' ∧ ∃ ao m k G A C, x = .returned (.tuple #[.slice ao m k, .int .i64 (encE n a b c l)]) ∧ RArg w' (.slice ao m k) G A C (encX n a b c l) := by
  refine ⟨h.below, ?_⟩
  rcases h.res with ⟨h1, v, ps, h2, h3⟩ | ⟨h1, h2⟩
  · obtain ⟨G, hG, -⟩ := h3.arg
    obtain ⟨ao, c', hv, -⟩ := hG.ex
    refine ⟨ao, (encL (n - 2).toNat a b c l).length, c', G, psA ps, psC ps, ?_, ?_⟩
    · rw [h2, encE_ok h1, hv]
    · rw [encX_ok h1, ← hv]; exact hG
  · obtain ⟨G, hG, -⟩ := (OwnR.nil 0 w').arg
    exact ⟨none, 0, 0, G, _, _, by rw [h2, encE_no h1], by rw [encX_no h1]; exact hG⟩
theorem gdSl_okL {l : List EV} (m : Nat) : okL (gdSl l m) := by
  intro e he
  obtain ⟨x, hx, rfl⟩ := List.mem_map.1 he
  exact gd_ok11 _ _ _ _
theorem OwnE.arg' {base : Nat} {w : World} {v : Value} {l : List EV} (h : OwnE base w v l) : ∃ a n c g, v = .slice a n c ∧ EArg w (.slice a n c) g l := by
  obtain ⟨g, hg, -⟩ := h.arg
  obtain ⟨a, c, hv, -⟩ := hg.ex
  exact ⟨a, _, c, g, hv, by rw [← hv]; exact hg⟩

end Go.Proofs.YtjdikhelabibnabGreat
