/-
  
-/
import Derived.Test.YtjdikhelabibnaaGreatMay
import Derived.Test.YtjdikhelabibnaaGreatMav
namespace Go.Proofs.YtjdikhelabibnaaGreat
open Go.RowKit Go.Shelf
attribute [local go_sem] Oper.semAt_some
theorem rwithin11_any (v lo hi : Int) (w : World) (r : Bool) (hr : decide (lo ≤ v ∧ v ≤ hi) = r) : Calls Tryz.prog 34 #[.int .i64 v, .int .i64 lo, .int .i64 hi] w fun e w' => e = .returned (.bool r) ∧ w' = w := by
 rcases (show v < lo ∨ (lo ≤ v ∧ v ≤ hi) ∨ (lo ≤ v ∧ hi < v) by omega) with h | ⟨h, h2⟩ | ⟨h, h2⟩
 ·have e : r = false := by rw [← hr, decide_eq_false (by omega)]
  subst e
  clear hr
  go_enter Tryz.func34, Tryz.ntmps34
  go_wp2
  go_ret
  exact ⟨rfl, rfl⟩
 ·have e : r = true := by rw [← hr, decide_eq_true ⟨h, h2⟩]
  subst e
  clear hr
  go_enter Tryz.func34, Tryz.ntmps34
  go_wp2
  go_ret
  exact ⟨rfl, rfl⟩
 have e : r = false := by rw [← hr, decide_eq_false (by omega)]
 subst e
 clear hr
 go_enter Tryz.func34, Tryz.ntmps34
 go_wp2
 go_ret
 exact ⟨by show Ending.returned (.bool (decide (v ≤ hi))) = _; rw [decide_eq_false (by omega)], rfl⟩
theorem dies_any (d : Int) (w : World) (r : Bool) (hr : decide (6 ≤ d ∧ d ≤ 8) = r) : Calls Tryz.prog 22 #[.int .i64 d] w fun e w' => e = .returned (.bool r) ∧ w' = w := by
 have HR := hide hr
 clear hr
 go_enter Tryz.func22, Tryz.ntmps22
 go_wp2_with fail
 refine (rwithin11_any d 6 8 _ r (uh HR)).mono ?_
 rintro e w1 ⟨rfl, rfl⟩
 go_wp2
 go_ret
 exact ⟨rfl, rfl⟩
theorem head_new (w : World) (a b c e : Int) : ∃ W, w.alloc (.cells #[.int .i64 a, .int .i64 b, .int .i64 c, .int .i64 e] 57) = W ∧ (W.cell? ⟨w.heap.size, 0, none⟩ = some (.int .i64 a) ∧ W.cell? ⟨w.heap.size, 1, none⟩ = some (.int .i64 b) ∧ W.cell? ⟨w.heap.size, 2, none⟩ = some (.int .i64 c) ∧ W.cell? ⟨w.heap.size, 3, none⟩ = some (.int .i64 e)) ∧ Below w.heap.size w W := by
 have hn := World.alloc_heap_new w (.cells #[.int .i64 a, .int .i64 b, .int .i64 c, .int .i64 e] 57)
 exact ⟨_, rfl, ⟨cell_blk hn rfl, cell_blk hn rfl, cell_blk hn rfl, cell_blk hn rfl⟩, (Below.refl _ _).alloc (Nat.le_refl _) _⟩
def okH (a b c : Int) : Prop := (1 ≤ a ∧ a ≤ 1099511627776) ∧ (0 ≤ b ∧ b ≤ 255) ∧ 0 ≤ c ∧ c ≤ 255
instance (a b c : Int) : Decidable (okH a b c) := by unfold okH; infer_instance
set_option maxRecDepth 100000 in
theorem headM_any (a b c e : Int) (w : World) : Calls Tryz.prog 23 #[.agg (headA a b c e)] w fun x w' => x = .returned (.bool (decide (okH a b c))) ∧ Below w.heap.size w w' := by
 unfold headA
 obtain ⟨W, hW, ⟨c0, c1, c2, c3⟩, hb⟩ := head_new w a b c e
 have HB := hide hb
 clear hb
 by_cases h1 : 1 ≤ a ∧ a ≤ 1099511627776
 ·have H1 := hide (decide_eq_true h1)
  by_cases h2 : 0 ≤ b ∧ b ≤ 255
  ·have H2 := hide (decide_eq_true h2)
   obtain ⟨r, hr⟩ : ∃ r, decide (0 ≤ c ∧ c ≤ 255) = r := ⟨_, rfl⟩
   have hd : decide (okH a b c) = r := by rw [← hr]; exact decide_eq_decide.2 ⟨fun h => h.2.2, fun h => ⟨h1, h2, h⟩⟩
   rw [hd]
   have H3 := hide hr
   clear h1 h2 hd hr
   go_enter Tryz.func23, Tryz.ntmps23
   go_wp2_with fail
   refine (rwithin11_any a 1 1099511627776 _ true (uh H1)).mono ?_
   rintro x w1 ⟨rfl, rfl⟩
   go_wp2_with fail
   refine (rwithin11_any b 0 255 _ true (uh H2)).mono ?_
   rintro x w1 ⟨rfl, rfl⟩
   go_wp2_with fail
   refine (rwithin11_any c 0 255 _ r (uh H3)).mono ?_
   rintro x w1 ⟨rfl, rfl⟩
   go_wp2
   go_ret
   exact ⟨rfl, uh HB⟩
  have H2 := hide (decide_eq_false h2)
  have hd : decide (okH a b c) = false := decide_eq_false (fun h => h2 h.2.1)
  rw [hd]
  clear h1 h2 hd
  go_enter Tryz.func23, Tryz.ntmps23
  go_wp2_with fail
  refine (rwithin11_any a 1 1099511627776 _ true (uh H1)).mono ?_
  rintro x w1 ⟨rfl, rfl⟩
  go_wp2_with fail
  refine (rwithin11_any b 0 255 _ false (uh H2)).mono ?_
  rintro x w1 ⟨rfl, rfl⟩
  go_wp2
  go_ret
  exact ⟨rfl, uh HB⟩
 have H1 := hide (decide_eq_false h1)
 have hd : decide (okH a b c) = false := decide_eq_false (fun h => h1 h.1)
 rw [hd]
 clear h1 hd
 go_enter Tryz.func23, Tryz.ntmps23
 go_wp2_with fail
 refine (rwithin11_any a 1 1099511627776 _ false (uh H1)).mono ?_
 rintro x w1 ⟨rfl, rfl⟩
 go_wp2
 go_ret
 exact ⟨rfl, uh HB⟩
theorem load_hd {W : World} {B : Nat} {a b c e : Int} (h : W.heap[B]? = some (.cells #[.int .i64 a, .int .i64 b, .int .i64 c, .int .i64 e] 57 (0, 0))) : (loadVar 57 ⟨B, 0, none⟩).run Tryz.prog W = .ok (.agg #[.int .i64 a, .int .i64 b, .int .i64 c, .int .i64 e]) W :=
 run_loadVar_mid (P := Tryz.prog) _ B 0 57 [.int .i64 a, .int .i64 b, .int .i64 c, .int .i64 e] _ (fun j v hv => cell_blk h (by rw [Nat.zero_add]; simpa using hv)) Tryz.underlying57 (by rfl) (by kernel_rfl)
set_option maxRecDepth 100000 in
theorem on_any (a b c e d : Int) (w : World) : Calls Tryz.prog 27 #[.agg (headA a b c e), .int .i64 d] w fun x w' => x = .returned (.agg (headA a b c d)) ∧ Below w.heap.size w w' := by
 unfold headA
 go_enter Tryz.func27, Tryz.ntmps27
 go_wp2
 have hl := load_hd (World.alloc_heap_new (w.alloc (.cells #[.int .i64 a, .int .i64 b, .int .i64 c, .int .i64 d] 57)) (.cells #[.int .i64 a, .int .i64 b, .int .i64 c, .int .i64 d] 57))
 rw [World.size_alloc] at hl
 refine bodyPost_ret (results_cell7 rfl _ _ ⟨w.heap.size + 1, 0, none⟩ _ rfl hl) rfl ⟨rfl, ((Below.refl _ w).alloc (Nat.le_refl _) _).alloc (by simp) _⟩
theorem pg_new (w : World) (st : Int) (b : Value) : ∃ W, w.alloc (.cells #[.int .i64 st, b] 49) = W ∧ (W.cell? ⟨w.heap.size, 0, none⟩ = some (.int .i64 st) ∧ W.cell? ⟨w.heap.size, 1, none⟩ = some b) ∧ (loadVar 49 ⟨w.heap.size, 0, none⟩).run Tryz.prog W = .ok (.agg #[.int .i64 st, b]) W ∧ Below w.heap.size w W := by
 have hn := World.alloc_heap_new w (.cells #[.int .i64 st, b] 49)
 refine ⟨_, rfl, ⟨cell_blk hn rfl, cell_blk hn rfl⟩, ?_, (Below.refl _ _).alloc (Nat.le_refl _) _⟩
 refine run_loadVar_mid (P := Tryz.prog) _ w.heap.size 0 49 [.int .i64 st, b] _ (fun j v hv => ?_) Tryz.underlying49 (by rfl) sizeTP
 exact cell_blk hn (by rw [Nat.zero_add]; simpa using hv)
set_option maxRecDepth 100000 in
theorem blank_any (st : Int) (b : Value) (w : World) : Calls Tryz.prog 63 #[.agg #[.int .i64 st, b]] w fun x w' => x = .returned (.bool (st == 0)) ∧ Below w.heap.size w w' := by
 obtain ⟨W, hW, ⟨c0, c1⟩, -, hb⟩ := pg_new w st b
 have HB := hide hb
 clear hb
 go_enter Tryz.func63, Tryz.ntmps63
 go_wp2
 go_ret
 exact ⟨rfl, uh HB⟩
set_option maxRecDepth 100000 in
theorem goodp_any (st : Int) (b : Value) (w : World) : Calls Tryz.prog 67 #[.agg #[.int .i64 st, b]] w fun x w' => x = .returned (.bool (st == 2)) ∧ Below w.heap.size w w' := by
 obtain ⟨W, hW, ⟨c0, c1⟩, -, hb⟩ := pg_new w st b
 have HB := hide hb
 clear hb
 go_enter Tryz.func67, Tryz.ntmps67
 go_wp2
 go_ret
 exact ⟨rfl, uh HB⟩
set_option maxRecDepth 100000 in
theorem badp_any (st : Int) (b : Value) (w : World) : Calls Tryz.prog 64 #[.agg #[.int .i64 st, b]] w fun x w' => x = .returned (.bool (!(st == 0) && !(st == 2))) ∧ Below w.heap.size w w' := by
 obtain ⟨W, hW, ⟨c0, c1⟩, -, hb⟩ := pg_new w st b
 have HB := hide hb
 have HC0 := hide c0
 have HC1 := hide c1
 clear hb
 go_enter Tryz.func64, Tryz.ntmps64
 go_wp2_with fail
 refine (blank_any st b _).mono ?_
 rintro x w1 ⟨rfl, hk⟩
 have c0' := (hk.cell (block_lt_of_cell (uh HC0))).trans (uh HC0)
 have c1' := (hk.cell (block_lt_of_cell (uh HC1))).trans (uh HC1)
 have HB1 := hide ((uh HB).trans (hk.mono (uh HB).size))
 clear hk c0 c1
 obtain ⟨r, hr⟩ : ∃ r, (st == 0) = r := ⟨_, rfl⟩
 rw [hr]
 cases r
 ·go_wp2_with fail
  refine (goodp_any st b _).mono ?_
  rintro x w2 ⟨rfl, hk⟩
  have HB2 := hide ((uh HB1).trans (hk.mono (uh HB1).size))
  clear hk c0' c1'
  go_wp2
  go_ret
  exact ⟨by rw [hr]; rfl, uh HB2⟩
 go_wp2
 go_ret
 exact ⟨by rw [hr]; rfl, uh HB1⟩
set_option maxRecDepth 100000 in
theorem odd_any (st : Int) (bo : Option Addr) (n c : Nat) (w : World) : Calls Tryz.prog 66 #[.agg #[.int .i64 st, .slice bo n c]] w fun x w' => x = .returned (.bool ((st == 2) && !(n == 48))) ∧ Below w.heap.size w w' := by
 obtain ⟨W, hW, ⟨c0, c1⟩, -, hb⟩ := pg_new w st (.slice bo n c)
 have HB := hide hb
 have HC := hide c1
 clear hb
 go_enter Tryz.func66, Tryz.ntmps66
 go_wp2_with fail
 refine (goodp_any st _ _).mono ?_
 rintro x w1 ⟨rfl, hk⟩
 have hc1 := (hk.cell (block_lt_of_cell (uh HC))).trans (uh HC)
 have HB1 := hide ((uh HB).trans (hk.mono (uh HB).size))
 clear hk c0 c1
 obtain ⟨r, hr⟩ : ∃ r, (st == 2) = r := ⟨_, rfl⟩
 rw [hr]
 have hq : ((n : Int) != 48) = !(n == 48) := by
  by_cases h : n = 48
  ·subst h; rfl
  have h1 : ((n : Int) == 48) = false := by rw [beq_eq_false_iff_ne]; omega
  have h2 : (n == 48) = false := by rw [beq_eq_false_iff_ne]; exact h
  simp [bne, h1, h2]
 have HQ := hide hq
 clear hq
 cases r
 ·go_wp2
  go_ret
  exact ⟨by rw [hr]; rfl, uh HB1⟩
 go_wp2
 go_ret
 exact ⟨by rw [hr, ← uh HQ]; rfl, uh HB1⟩
set_option maxRecDepth 100000 in
theorem refused_any (e : EV) (he : e.Ok) (w : World) : Calls Tryz.prog 46 #[.agg (entA e.k e.l e.s e.d)] w fun x w' => x = .returned (.bool (!decide (okE e.k e.l e.s e.d))) ∧ Below w.heap.size w w' := by
 obtain ⟨W, hW, hE, hb⟩ := EntAt.new w e.k e.l e.s e.d
 have HB := hide hb
 have HBK := hide hE.blk
 have HC := hide (echeck_any e.k e.l e.s e.d he.len W)
 clear hE hb
 go_enter Tryz.func46, Tryz.ntmps46
 go_wp2_with (refine wpList_load_row rfl 44 _ rfl w.heap.size rfl 44 (entA e.k e.l e.s e.d) _ _ (uh HBK) Tryz.underlying44 rfl (by rw [sizeTE, entA_size he.len]) ?_)
 refine (uh HC).mono ?_
 rintro x w1 ⟨rfl, hk⟩
 have HB1 := hide ((uh HB).trans (hk.mono (uh HB).size))
 clear hk
 by_cases h : okE e.k e.l e.s e.d
 ·rw [chkE_ok h]
  go_wp2
  go_ret
  exact ⟨by rw [decide_eq_true h]; rfl, uh HB1⟩
 rw [chkE_not h]
 go_wp2
 go_ret
 exact ⟨by rw [decide_eq_false h]; rfl, uh HB1⟩
end Go.Proofs.YtjdikhelabibnaaGreat
