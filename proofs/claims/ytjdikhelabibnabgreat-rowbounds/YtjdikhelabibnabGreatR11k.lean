/-
  row.Decode.
-/
import Derived.Test.YtjdikhelabibnabGreatR11j
namespace Go.Proofs.YtjdikhelabibnabGreat
open Go Go.RowKit Go.Shelf
attribute [local go_sem] Oper.semAt_some

theorem results_ct11 {P : Program} {fn : Func} {p r : Tmp} {t : TypeId} (h : fn.results = #[.cell p t, .tmp r]) (tmps : Array Value) (w : World) (a : Addr) (x : Value) (hp : tmps.getD p undef = .pointer (some a)) (hx : (loadVar t a).run P w = .ok x w) :
    (results fn tmps).run P w = .ok (.tuple #[x, tmps.getD r undef]) w := by
  rw [Array.getD_eq_getD_getElem?] at hp
  simp only [results, h]
  simp [Result.andThen, hp, asAddr, hx]
theorem ev_ne_row {w : World} {v : Value} {g k : Nat} {l : List EV} {cs : Array Value} {t : TypeId} {fr : Nat × Nat} (h : EArg w v g l) (hne : l ≠ []) (hk : w.heap[k]? = some (.cells cs t fr)) (hs : cs.size ≤ 18) : g ≠ k := by
  intro e
  subst e
  obtain ⟨ao, c, -, -, -, -, hr⟩ := h.ex
  obtain ⟨o, -, h2⟩ := hr hne
  have hl : 0 < l.length := List.length_pos_iff.2 hne
  have hcl := EV.cs_len (h.get_ok 0)
  have := h2 0 hl 18 ((l.getD 0 zEV).cs[18]'(by omega)) (List.getElem?_eq_getElem (by omega))
  rw [cell_of_row _ _ _ _ _ _ hk] at this
  have := (Array.getElem?_eq_some_iff.1 this).1
  omega
/-- By the states alone. -/
theorem decF_sta {super at' : Int} {l : List PV} {most : Int} (h : (6 ≤ l.length ∧ l.length ≤ 8) ∧ 0 ≤ most ∧ most ≤ 2) (hs : staF l most ≠ 0) : decF super at' l most = (zRow, staF l most) := by
  unfold decF staF
  unfold staF at hs
  rw [if_neg (fun hn => hn h)]
  split
  · rfl
  · split
    · rfl
    · split
      · rfl
      · rename_i h1 h2 h3
        rw [if_neg h1, if_neg h2, if_neg h3] at hs
        exact absurd rfl hs
theorem sta_none {l : List PV} {most : Int} (hs : staF l most = 0) : (¬ l.all (fun p => p.st == 0) = true) ∧ (¬ l.any (fun p => p.st == 0) = true) ∧ ¬ most < ((lostG l).length : Int) := by
  unfold staF at hs
  split at hs
  · omega
  · rename_i h1
    split at hs
    · omega
    · rename_i h2
      split at hs
      · omega
      · rename_i h3
        exact ⟨h1, h2, h3⟩
theorem decF_no {super at' : Int} {l : List PV} {most : Int} (h : (6 ≤ l.length ∧ l.length ≤ 8) ∧ 0 ≤ most ∧ most ≤ 2) (hs : staF l most = 0) (hr : (!l.any oddP && chk (fixL (l.map (·.x)) (ints (lostG l)))) = false) : decF super at' l most = (zRow, 5) := by
  obtain ⟨h1, h2, h3⟩ := sta_none hs
  unfold decF
  rw [if_neg (fun hn => hn h), if_neg h1, if_neg h2, if_neg h3]
  by_cases ho : l.any oddP = true
  · rw [if_pos ho]
  · rw [if_neg ho]
    rw [Bool.not_eq_true] at ho
    rw [ho] at hr
    simp only [Bool.not_false, Bool.true_and] at hr
    rw [hr]
    rfl
theorem decF_yes {super at' : Int} {l : List PV} {most : Int} (h : (6 ≤ l.length ∧ l.length ≤ 8) ∧ 0 ≤ most ∧ most ≤ 2) (hs : staF l most = 0) (hr : (!l.any oddP && chk (fixL (l.map (·.x)) (ints (lostG l)))) = true) : decF super at' l most = rowF super at' (fixL (l.map (·.x)) (ints (lostG l))) := by
  obtain ⟨h1, h2, h3⟩ := sta_none hs
  rw [Bool.and_eq_true] at hr
  unfold decF
  rw [if_neg (fun hn => hn h), if_neg h1, if_neg h2, if_neg h3, if_neg (by intro e; rw [e] at hr; simp at hr), if_pos hr.2]

set_option maxRecDepth 100000 in
set_option maxHeartbeats 8000000 in
theorem dec11_any (super at' : Int) (ao : Option Addr) (n c g : Nat) (l : List PV) (most : Int) (hlen : ∀ i, (l.getD i zPV).x.length ≤ 100000) (w : World) (hL : PgArg w (.slice ao n c) g l) :
    Calls Tryz.prog 11 #[.int .i64 super, .int .i64 at', .slice ao n c, .int .i64 most] w fun e w' => DecW w w' e super at' l most := by
  have HL := hide hL
  obtain ⟨hln, hnc, hcm, -⟩ := hL.mrow
  have HLN := hide hln
  have HLEN := hide hlen
  have hnm : (n : Int) ≤ 9223372036854775807 := by unfold maxLen at hcm; omega
  clear hL hln hlen hnc hcm
  obtain ⟨w1, hw1⟩ : ∃ w1, w.alloc (.cells #[.int .i64 0, .int .i64 0, .slice none 0 0] 37) = w1 := ⟨_, rfl⟩
  have HT : Hid (Below w.heap.size w w1) := by rw [← hw1]; exact (Below.refl _ w).alloc (Nat.le_refl _) _
  have HQ : Hid (RwAt w1 w.heap.size 0 0 (.slice none 0 0)) := ⟨by rw [← hw1]; exact World.alloc_heap_new w _⟩
  by_cases h1 : 6 ≤ n ∧ n ≤ 8
  rotate_left 1
  · have hd : decF super at' l most = (zRow, 1) := by unfold decF; rw [if_pos (by rw [unhide HLN]; omega)]
    have HD := hide hd
    have H1 := hide (decide_eq_false (show ¬ (6 ≤ (n : Int) ∧ (n : Int) ≤ 8) by omega))
    clear hd h1
    go_enter Tryz.func11, Tryz.ntmps11
    go_wp2_with fail
    refine (dies_any (n : Int) _ false (unhide H1)).mono ?_
    rintro e w2 ⟨rfl, hw2⟩
    rw [hw2]
    clear hw2 w2
    go_wp2_with (refine wpList_store_row rfl 37 _ _ rfl w.heap.size #[.int .i64 0, .int .i64 0, .slice none 0 0] rfl rfl 37 _ (unhide HQ).blk (by kernel_rfl) rfl (one_row11 _ _ _ _ _) ?_)
    have hq : RwAt (w1.setRow w.heap.size #[.int .i64 0, .int .i64 0, .slice none 0 0]) w.heap.size 0 0 (.slice none 0 0) := ⟨setRow_heap _ _ _ _ _ _ (unhide HQ).blk⟩
    refine bodyPost_ret (results_ct11 rfl _ _ ⟨w.heap.size, 0, none⟩ _ rfl hq.load) rfl ⟨below_setRow11 (unhide HT) (Nat.le_refl _) _, _, by rw [unhide HD]; rfl, by rw [unhide HD]; exact ⟨_, 0, rfl, EArg.nil _, fun h => absurd rfl h⟩⟩
  have H1 := hide (decide_eq_true (show (6 ≤ (n : Int) ∧ (n : Int) ≤ 8) by omega))
  by_cases h2 : 0 ≤ most ∧ most ≤ 2
  rotate_left 1
  · have hd : decF super at' l most = (zRow, 1) := by unfold decF; rw [if_pos (by rw [unhide HLN]; omega)]
    have HD := hide hd
    have H2 := hide (decide_eq_false h2)
    clear hd h1 h2
    go_enter Tryz.func11, Tryz.ntmps11
    go_wp2_with fail
    refine (dies_any (n : Int) _ true (unhide H1)).mono ?_
    rintro e w2 ⟨rfl, hw2⟩
    rw [hw2]
    clear hw2 w2
    go_wp2_with fail
    refine (rwithin11_any most 0 2 _ false (unhide H2)).mono ?_
    rintro e w2 ⟨rfl, hw2⟩
    rw [hw2]
    clear hw2 w2
    go_wp2_with (refine wpList_store_row rfl 37 _ _ rfl w.heap.size #[.int .i64 0, .int .i64 0, .slice none 0 0] rfl rfl 37 _ (unhide HQ).blk (by kernel_rfl) rfl (one_row11 _ _ _ _ _) ?_)
    have hq : RwAt (w1.setRow w.heap.size #[.int .i64 0, .int .i64 0, .slice none 0 0]) w.heap.size 0 0 (.slice none 0 0) := ⟨setRow_heap _ _ _ _ _ _ (unhide HQ).blk⟩
    refine bodyPost_ret (results_ct11 rfl _ _ ⟨w.heap.size, 0, none⟩ _ rfl hq.load) rfl ⟨below_setRow11 (unhide HT) (Nat.le_refl _) _, _, by rw [unhide HD]; rfl, by rw [unhide HD]; exact ⟨_, 0, rfl, EArg.nil _, fun h => absurd rfl h⟩⟩
  have HC : Hid ((6 ≤ l.length ∧ l.length ≤ 8) ∧ 0 ≤ most ∧ most ≤ 2) := by rw [unhide HLN]; exact ⟨h1, h2⟩
  have H2 := hide (decide_eq_true h2)
  obtain ⟨h6, h8⟩ := h1
  have HM := hide h2
  clear h2
  go_enter Tryz.func11, Tryz.ntmps11
  go_wp2_with fail
  refine (dies_any (n : Int) _ true (unhide H1)).mono ?_
  rintro e w2 ⟨rfl, hw2⟩
  rw [hw2]
  clear hw2 w2
  go_wp2_with fail
  refine (rwithin11_any most 0 2 _ true (unhide H2)).mono ?_
  rintro e w2 ⟨rfl, hw2⟩
  rw [hw2]
  clear hw2 w2
  go_wp2_with fail
  refine (stM_any ao n c g l h8 most w1 ((unhide HL).below (unhide HT))).mono ?_
  rintro e w2 ⟨rfl, hk⟩
  replace HQ := hide ((unhide HQ).below hk)
  replace HT := hide ((unhide HT).trans (hk.mono (unhide HT).size))
  clear hk hw1
  obtain ⟨s, hs⟩ : ∃ s, staF l most = s := ⟨_, rfl⟩
  have HS := hide hs
  rw [hs]
  by_cases h0 : s = 0
  rotate_left 1
  · have hd : decF super at' l most = (zRow, s) := by rw [decF_sta (unhide HC) (by rw [hs]; exact h0), hs]
    have HD := hide hd
    have hs0 : (s != 0) = true := by simp [bne, h0]
    clear hd hs h0
    go_wp2_with (refine wpList_store_row rfl 37 _ _ rfl w.heap.size #[.int .i64 0, .int .i64 0, .slice none 0 0] rfl rfl 37 _ (unhide HQ).blk (by kernel_rfl) rfl (one_row11 _ _ _ _ _) ?_)
    have hq : RwAt (w2.setRow w.heap.size #[.int .i64 0, .int .i64 0, .slice none 0 0]) w.heap.size 0 0 (.slice none 0 0) := ⟨setRow_heap _ _ _ _ _ _ (unhide HQ).blk⟩
    refine bodyPost_ret (results_ct11 rfl _ _ ⟨w.heap.size, 0, none⟩ _ rfl hq.load) rfl ⟨below_setRow11 (unhide HT) (Nat.le_refl _) _, _, by rw [unhide HD]; rfl, by rw [unhide HD]; exact ⟨_, 0, rfl, EArg.nil _, fun h => absurd rfl h⟩⟩
  subst h0
  obtain ⟨-, hn2, hn3⟩ := sta_none hs
  have HP := hide (payO_any ao n c g l h6 h8 (unhide HLEN) (fun p hp e => hn2 (List.any_eq_true.2 ⟨p, hp, by rw [e]; rfl⟩)) (by have := (unhide HM).2; omega) w2 ((unhide HL).below (unhide HT)))
  clear hn2 hn3 hs
  go_wp2_with fail
  refine (unhide HP).mono ?_
  rintro e w3 ⟨hk, v, r, rfl, hr, hrr⟩
  replace HQ := hide ((unhide HQ).below hk)
  replace HT := hide ((unhide HT).trans (hk.mono (unhide HT).size))
  clear hk
  cases r
  · have hd : decF super at' l most = (zRow, 5) := decF_no (unhide HC) (unhide HS) hr
    have HD := hide hd
    clear hd hr hrr
    go_wp2_with (refine wpList_store_row rfl 37 _ _ rfl w.heap.size #[.int .i64 0, .int .i64 0, .slice none 0 0] rfl rfl 37 _ (unhide HQ).blk (by kernel_rfl) rfl (one_row11 _ _ _ _ _) ?_)
    have hq : RwAt (w3.setRow w.heap.size #[.int .i64 0, .int .i64 0, .slice none 0 0]) w.heap.size 0 0 (.slice none 0 0) := ⟨setRow_heap _ _ _ _ _ _ (unhide HQ).blk⟩
    refine bodyPost_ret (results_ct11 rfl _ _ ⟨w.heap.size, 0, none⟩ _ rfl hq.load) rfl ⟨below_setRow11 (unhide HT) (Nat.le_refl _) _, _, by rw [unhide HD]; rfl, by rw [unhide HD]; exact ⟨_, 0, rfl, EArg.nil _, fun h => absurd rfl h⟩⟩
  have hd : decF super at' l most = rowF super at' (fixL (l.map (·.x)) (ints (lostG l))) := decF_yes (unhide HC) (unhide HS) hr
  have HD := hide hd
  obtain ⟨hfl, hfn, G, A, C, hRG⟩ := hrr rfl
  obtain ⟨vo, vc, hv, -⟩ := hRG.ex
  rw [hfl] at hv
  subst hv
  have HRO := hide (rowO_any vo n vc G A C _ super at' h6 h8 hfl hfn w3 hRG)
  clear hd hr hrr hfl hfn hRG
  go_wp2_with fail
  refine (unhide HRO).mono ?_
  rintro e w4 ⟨hk, u, rfl, sv, g4, hu, hEA, hgb⟩
  subst hu
  replace HQ := hide ((unhide HQ).below hk)
  have hg4 : sv = sv := rfl
  obtain ⟨so, sc, hsv, -⟩ := hEA.ex
  subst hsv
  have HEA := hide hEA
  have hzT := (unhide HT).size
  have HGB : Hid ((rowF super at' (fixL (l.map (·.x)) (ints (lostG l)))).1.sl ≠ [] → w.heap.size ≤ g4) := fun h => Nat.le_trans hzT (hgb h)
  replace HT := hide ((unhide HT).trans (hk.mono (unhide HT).size))
  clear hk hEA hg4 hgb hzT
  obtain ⟨R, hR⟩ : ∃ R, rowF super at' (fixL (l.map (·.x)) (ints (lostG l))) = R := ⟨_, rfl⟩
  rw [hR] at HEA HD HGB ⊢
  clear HRO hR
  go_wp2_with (refine wpList_store_row rfl 37 _ _ rfl w.heap.size #[.int .i64 R.1.se, .int .i64 R.1.at', .slice so R.1.sl.length sc] rfl rfl 37 _ (unhide HQ).blk (by kernel_rfl) rfl (one_row11 _ _ _ _ _) ?_)
  have hq : RwAt (w4.setRow w.heap.size #[.int .i64 R.1.se, .int .i64 R.1.at', .slice so R.1.sl.length sc]) w.heap.size R.1.se R.1.at' (.slice so R.1.sl.length sc) := ⟨setRow_heap _ _ _ _ _ _ (unhide HQ).blk⟩
  refine bodyPost_ret (results_ct11 rfl _ _ ⟨w.heap.size, 0, none⟩ _ rfl hq.load) rfl ⟨below_setRow11 (unhide HT) (Nat.le_refl _) _, _, by rw [unhide HD]; rfl, by rw [unhide HD]; exact ⟨_, g4, rfl, (unhide HEA).of (fun hne => setRow_other _ _ _ _ (fun e => ev_ne_row (unhide HEA) hne (unhide HQ).blk (by simp) e)), unhide HGB⟩⟩

end Go.Proofs.YtjdikhelabibnabGreat
