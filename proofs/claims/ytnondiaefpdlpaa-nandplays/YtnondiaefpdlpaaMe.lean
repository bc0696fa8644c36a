/-
  nand: what is counted, refused, torn; power.
  nand.blankPages.
-/
import Derived.Test.YtnondiaefpdlpaaMd
import Derived.Test.YtnondiaefpdlpaaV7r
namespace Go.Proofs.Ytnondiaefpdlpaa
open Go.RowKit Go.Shelf

/-- What lies in a block of bytes stays an argument. -/
theorem Arg.ofHeap {m g : Nat} {w w' : World} {v : Value} {s : List Nat} (h : Arg w v g s) (_ : Blk w' g []) (hb : Blk w g []) (k : Kn m w w') : Arg w' v g s := by
  obtain ⟨⟨ao, c, h1, h2, h3, h4, h5⟩, hbs⟩ := h
  refine ⟨⟨ao, c, h1, h2, h3, h4, ?_⟩, hbs⟩
  obtain ⟨cur, hcur, _⟩ := hb
  have e : w'.heap[g]? = w.heap[g]? := (k.oth g _ hcur rfl).trans hcur.symm
  rcases h5 with h0 | ⟨o, rfl, hc⟩
  · exact .inl h0
  · exact .inr ⟨o, rfl, fun j hj => (World.cell?_of_block e).trans (hc j hj)⟩
/-- One more. -/
def inc (z : Int) : Int := wrap64 (z + 1)
theorem inc_in {z : Int} (h : 0 ≤ z) (h2 : z < 9223372036854775807) : inc z = z + 1 := by
  rw [inc, IntWalk.wrap64_in _ ⟨by omega, by omega⟩]

theorem mix_ones {a b : List Nat} (ha : a.length = 60) (hb : b.length = 60) (h1 : Bs a) (h2 : Bs b) : mixL a b (List.replicate 60 255) = b := by
  have hl : a.length = b.length := by omega
  have h3 := mix_all hl h1 h2
  rw [mixL, if_pos hl, mixF, if_neg (by simp)] at h3
  rw [mixL, if_pos hl, mixF, if_neg (by simp)]
  conv => rhs; rw [← h3]
  refine List.map_congr_left (fun i hi => ?_)
  have e1 : mAt (List.replicate 60 255) i = 255 := by rw [mAt, List.length_replicate, cf_rep _ (Nat.mod_lt _ (by omega))]
  have e2 : mAt [255] i = 255 := by rw [mAt, show i % [255].length = 0 from Nat.mod_one i]; rfl
  rw [e1, e2]

theorem NA.tset {m : Nat} {w : World} {L : La} {s : Nd} (h : NA m w L s) (j : Nat) (v : Value) : (w.setCell ⟨L.n, j, none⟩ v).heap[L.n]? = some (.cells ((topC L s).setIfInBounds j v) 65 (0, 0)) ∧ Kn m w (w.setCell ⟨L.n, j, none⟩ v) ∧ ∀ k : Nat, k ≠ L.n → (w.setCell ⟨L.n, j, none⟩ v).heap[k]? = w.heap[k]? :=
  ⟨heap_setCell_same w _ _ _ _ _ h.top, Kn.set w v h.low0 h.top (by decide), fun k hk => Below.heap_setCell _ _ _ _ hk⟩
theorem NA.setWrong {m : Nat} {w : World} {L : La} {s : Nd} (h : NA m w L s) (z : Int) : NA m (w.setCell ⟨L.n, 8, none⟩ (.int .i64 z)) L { s with wrong := z } ∧ Kn m w (w.setCell ⟨L.n, 8, none⟩ (.int .i64 z)) := by
  obtain ⟨h1, h2, h3⟩ := h.tset 8 (.int .i64 z)
  exact ⟨h.setTop s.dead s.left s.mask s.ops z L.mv h2 h3 h1 h.ok.lf h.msk, h2⟩
theorem NA.setOps {m : Nat} {w : World} {L : La} {s : Nd} (h : NA m w L s) (z : Int) : NA m (w.setCell ⟨L.n, 7, none⟩ (.int .i64 z)) L { s with ops := z } ∧ Kn m w (w.setCell ⟨L.n, 7, none⟩ (.int .i64 z)) := by
  obtain ⟨h1, h2, h3⟩ := h.tset 7 (.int .i64 z)
  exact ⟨h.setTop s.dead s.left s.mask z s.wrong L.mv h2 h3 h1 h.ok.lf h.msk, h2⟩
theorem NA.setDead {m : Nat} {w : World} {L : La} {s : Nd} (h : NA m w L s) (z : Bool) : NA m (w.setCell ⟨L.n, 4, none⟩ (.bool z)) L { s with dead := z } ∧ Kn m w (w.setCell ⟨L.n, 4, none⟩ (.bool z)) := by
  obtain ⟨h1, h2, h3⟩ := h.tset 4 (.bool z)
  exact ⟨h.setTop z s.left s.mask s.ops s.wrong L.mv h2 h3 h1 h.ok.lf h.msk, h2⟩
theorem NA.setLeft {m : Nat} {w : World} {L : La} {s : Nd} (h : NA m w L s) (z : Nat) (hz : z ≤ s.left) : NA m (w.setCell ⟨L.n, 5, none⟩ (.int .i64 (z : Int))) L { s with left := z } ∧ Kn m w (w.setCell ⟨L.n, 5, none⟩ (.int .i64 (z : Int))) := by
  obtain ⟨h1, h2, h3⟩ := h.tset 5 (.int .i64 (z : Int))
  obtain ⟨t, g1, g2, g3, g4⟩ := h.msk
  exact ⟨h.setTop s.dead z s.mask s.ops s.wrong L.mv h2 h3 h1 (Nat.le_trans hz h.ok.lf) ⟨t, g1, g2, g3, fun hne => g4 (by omega)⟩, h2⟩
theorem NA.setStop {m : Nat} {w : World} {L : La} {s : Nd} (h : NA m w L s) (z : Nat) (mv : Value) (mask : List Nat) (hz : z ≤ 9223372036854775807)
    (hm : ∃ t, Fr 0 w mv t ∧ Bs t ∧ t.length ≤ 60 ∧ (z ≠ 0 → ∀ a b : List Nat, a.length = 60 → b.length = 60 → mixL a b t = mixL a b mask)) :
    NA m ((w.setCell ⟨L.n, 5, none⟩ (.int .i64 (z : Int))).setCell ⟨L.n, 6, none⟩ mv) { L with mv } { s with left := z, mask } ∧ Kn m w ((w.setCell ⟨L.n, 5, none⟩ (.int .i64 (z : Int))).setCell ⟨L.n, 6, none⟩ mv) := by
  obtain ⟨h1, h2, h3⟩ := h.tset 5 (.int .i64 (z : Int))
  have g1 := heap_setCell_same (w.setCell ⟨L.n, 5, none⟩ (.int .i64 (z : Int))) L.n 6 _ _ mv h1
  have g2 : Kn m w ((w.setCell ⟨L.n, 5, none⟩ (.int .i64 (z : Int))).setCell ⟨L.n, 6, none⟩ mv) := h2.trans (Kn.set _ mv h.low0 h1 (by decide))
  exact ⟨h.setTop s.dead z mask s.ops s.wrong mv g2 (fun k hk => (Below.heap_setCell _ _ _ _ hk).trans (h3 k hk)) g1 hz hm, g2⟩

set_option maxRecDepth 100000 in
set_option maxHeartbeats 2000000 in
theorem refuse_any {m : Nat} {w : World} {L : La} {s : Nd} (h : NA m w L s) :
    Calls Try.prog 48 #[.pointer (some ⟨L.n, 0, none⟩)] w fun e w' => e = .returned (.int .i64 1) ∧ NA m w' L { s with wrong := inc s.wrong } ∧ Kn m w w' := by
  have HN := hide h
  have hc := h.cWrong
  have hf := h.tf 8
  clear h
  go_enter Try.func48, Try.ntmps48
  go_wp2_with fail
  go_ret
  have := (unhide HN).setWrong (inc s.wrong)
  exact ⟨rfl, this⟩

set_option maxRecDepth 100000 in
set_option maxHeartbeats 2000000 in
theorem Ops_any {m : Nat} {w : World} {L : La} {s : Nd} (h : NA m w L s) : Calls Try.prog 31 #[.pointer (some ⟨L.n, 0, none⟩)] w fun e w' => e = .returned (.int .i64 s.ops) ∧ w' = w := by
  have hc := h.cOps
  clear h
  go_enter Try.func31, Try.ntmps31
  go_wp2_with fail
  go_ret
  exact ⟨rfl, rfl⟩
set_option maxRecDepth 100000 in
set_option maxHeartbeats 2000000 in
theorem Wrong_any {m : Nat} {w : World} {L : La} {s : Nd} (h : NA m w L s) : Calls Try.prog 25 #[.pointer (some ⟨L.n, 0, none⟩)] w fun e w' => e = .returned (.int .i64 s.wrong) ∧ w' = w := by
  have hc := h.cWrong
  clear h
  go_enter Try.func25, Try.ntmps25
  go_wp2_with fail
  go_ret
  exact ⟨rfl, rfl⟩
set_option maxRecDepth 100000 in
set_option maxHeartbeats 2000000 in
theorem Dead_any {m : Nat} {w : World} {L : La} {s : Nd} (h : NA m w L s) : Calls Try.prog 27 #[.pointer (some ⟨L.n, 0, none⟩)] w fun e w' => e = .returned (.bool s.dead) ∧ w' = w := by
  have hc := h.cDead
  clear h
  go_enter Try.func27, Try.ntmps27
  go_wp2_with fail
  go_ret
  exact ⟨rfl, rfl⟩

set_option maxRecDepth 100000 in
set_option maxHeartbeats 2000000 in
theorem burn_any {m : Nat} {w : World} {L : La} {s : Nd} (h : NA m w L s) :
    Calls Try.prog 66 #[.pointer (some ⟨L.n, 5, none⟩)] w fun e w' => e = .returned (.bool (decide (s.left = 1))) ∧ NA m w' L { s with left := s.left - 1 } ∧ Kn m w w' := by
  have HN := hide h
  have hc := h.cLeft
  have hf := h.tf 5
  have hl := h.ok.lf
  clear h
  by_cases h0 : s.left = 0
  · have h1 : ({ s with left := s.left - 1 } : Nd) = s := by cases s; simp only at h0; subst h0; rfl
    have h2 : decide (s.left = 1) = false := by rw [h0]; rfl
    rw [h1, h2]
    rw [h0] at hc
    clear h1 h2
    go_enter Try.func66, Try.ntmps66
    go_wp2_with fail
    go_ret
    exact ⟨rfl, unhide HN, Kn.refl _ _⟩
  · have h1 : ((s.left : Int) == 0) = false := by rw [beq_eq_false_iff_ne]; omega
    obtain ⟨k, hk⟩ : ∃ k, s.left = k + 1 := ⟨s.left - 1, by omega⟩
    have h2 : IntKind.i64.wrap ((s.left : Int) - 1) = (k : Int) := by rw [IntWalk.i64_in _ ⟨by omega, by omega⟩]; omega
    have hs := (unhide HN).setLeft k (by omega)
    have hc2 := hs.1.cLeft
    rw [show s.left - 1 = k from by omega]
    have h4 : decide (s.left = 1) = ((k : Int) == 0) := by
      rw [hk]
      cases k with
      | zero => rfl
      | succ k => rw [decide_eq_false (by omega), eq_comm, beq_eq_false_iff_ne]; omega
    rw [h4]
    have HS := hide hs
    clear hs h4 h0
    generalize s.left = l at hc h1 h2 hk
    clear hk
    go_enter Try.func66, Try.ntmps66
    go_wp2_with fail
    go_ret
    exact ⟨rfl, unhide HS⟩

/-- What a Program or an Erase leaves, of what was and what should be. -/
def Nd.mixed (s : Nd) (a b : List Nat) : List Nat := if s.left = 1 then mixL a b s.mask else b
/-- A Program or an Erase begins. -/
def Nd.begun (s : Nd) : Nd := { s with ops := inc s.ops, left := s.left - 1, dead := s.dead || decide (s.left = 1) }
def Nd.err (s : Nd) : Int := if s.left = 1 then 8 else 0

set_option maxRecDepth 100000 in
set_option maxHeartbeats 2000000 in
theorem work_any {m : Nat} {w : World} {L : La} {s : Nd} (h : NA m w L s) :
    Calls Try.prog 49 #[.pointer (some ⟨L.n, 0, none⟩)] w fun e w' => ∃ dv t, e = .returned (.tuple #[dv, .int .i64 s.err]) ∧ NA m w' L s.begun ∧ Kn m w w' ∧ Fr 0 w' dv t ∧ Bs t ∧ t.length ≤ 60 ∧
      ∀ a b : List Nat, a.length = 60 → b.length = 60 → Bs a → Bs b → mixL a b t = s.mixed a b := by
  have hs := h.setOps (inc s.ops)
  have hc := h.cOps
  have hf := h.tf 7
  have HS := hide hs
  have HM := hide h.msk
  have hm := h.n_lt
  clear hs h
  by_cases h1 : s.left = 1
  · have hd : decide (s.left = 1) = true := by rw [decide_eq_true h1]
    go_enter Try.func49, Try.ntmps49
    go_wp2_with fail
    refine (burn_any (unhide HS).1).mono ?_
    rintro e w1 ⟨rfl, hN1, hK1⟩
    simp only [] at hN1
    rw [hd]
    have hs2 := hN1.setDead true
    have hc2 := hN1.cDead
    have hf2 := hN1.tf 4
    have hc3 := hs2.1.cMask
    have HS2 := hide hs2
    have HK1 := hide hK1
    clear hs2 hN1 hK1
    go_wp2_with fail
    go_returns
    obtain ⟨t, g1, g2, g3, g4⟩ := unhide HM
    have hkk := (unhide HS).2.trans ((unhide HK1).trans (unhide HS2).2)
    refine ⟨L.mv, t, by rw [Nd.err, if_pos h1]; rfl, ?_, hkk, g1.kn hkk, g2, g3, fun a b ha hb _ _ => by rw [Nd.mixed, if_pos h1]; exact g4 (by omega) a b ha hb⟩
    have := (unhide HS2).1
    rw [Nd.begun, hd, Bool.or_true]
    exact this
  · have hd : decide (s.left = 1) = false := by rw [decide_eq_false h1]
    go_enter Try.func49, Try.ntmps49
    go_wp2_with fail
    refine (burn_any (unhide HS).1).mono ?_
    rintro e w1 ⟨rfl, hN1, hK1⟩
    simp only [] at hN1
    rw [hd]
    have HN1 := hide hN1
    have HK1 := hide hK1
    clear hN1 hK1
    go_wp2_with fail
    refine (allOnes_any _).mono ?_
    rintro e w2 ⟨dv, rfl, hF, hb⟩
    have HF := hide hF
    have HB := hide hb
    clear hF hb
    go_wp2_with fail
    go_returns
    have hk2 : Kn m w1 w2 := Kn.of_below (unhide HB) (Nat.le_of_lt (unhide HN1).n_lt)
    refine ⟨dv, _, by rw [Nd.err, if_neg h1]; rfl, ?_, (unhide HS).2.trans ((unhide HK1).trans hk2), (unhide HF).low, Bs.of (fun x hx => by rw [List.eq_of_mem_replicate hx]; omega), by simp, fun a b ha hb h1' h2' => by rw [Nd.mixed, if_neg h1, mix_ones ha hb h1' h2']⟩
    rw [Nd.begun, hd, Bool.or_false]
    exact (unhide HN1).below (unhide HB)

set_option maxRecDepth 100000 in
set_option maxHeartbeats 2000000 in
theorem power_any {m : Nat} {w : World} {L : La} {s : Nd} (h : NA m w L s) :
    Calls Try.prog 17 #[.pointer (some ⟨L.n, 0, none⟩)] w fun e w' => (∃ v, e = .returned v) ∧ (∃ L', L'.n = L.n ∧ NA m w' L' { s with dead := false, left := 0 }) ∧ Kn m w w' := by
  have hs := h.setDead false
  have hc := h.cDead
  have hf := h.tf 4
  have hs2 := hs.1.setStop 0 (.slice none 0 0) s.mask (by omega) ⟨[], .inl ⟨rfl, rfl⟩, Bs.nil, by simp, fun h => absurd rfl h⟩
  rw [show ((0 : Nat) : Int) = 0 from rfl] at hs2
  have hc5 := hs.1.cLeft
  have hf5 := hs.1.tf 5
  have hc6 := hs.1.cMask
  have hf6 := hs.1.tf 6
  have HS := hide hs
  have HS2 := hide hs2
  clear hs hs2 h
  go_enter Try.func17, Try.ntmps17
  go_wp2_with fail
  go_end0
  exact ⟨⟨_, rfl⟩, ⟨{ L with mv := .slice none 0 0 }, rfl, (unhide HS2).1⟩, (unhide HS).2.trans (unhide HS2).2⟩

/-- Of a mask what is beyond a page does not count. -/
theorem mix_front {a b mask : List Nat} (ha : a.length = 60) (hb : b.length = 60) : mixL a b (mask.take 60) = mixL a b mask := by
  have hl : a.length = b.length := by omega
  rw [mixL, if_pos hl, mixL, if_pos hl]
  by_cases h : mask.length ≤ 60
  · rw [List.take_of_length_le h]
  · have h1 : mask.take 60 ≠ [] := fun e => by
      have h3 : (mask.take 60).length = 0 := by rw [e]; rfl
      rw [List.length_take] at h3
      omega
    have h2 : mask ≠ [] := by intro e; rw [e] at h; simp at h
    rw [mixF, if_neg h1, mixF, if_neg h2]
    refine List.map_congr_left (fun i hi => ?_)
    have hi := List.mem_range.1 hi
    have e1 : mAt (mask.take 60) i = mAt mask i := by
      rw [mAt, mAt, List.length_take, Nat.min_eq_left (by omega), Nat.mod_eq_of_lt (by omega), Nat.mod_eq_of_lt (by omega), cf_take, if_pos (by omega)]
    rw [e1]

set_option maxRecDepth 100000 in
set_option maxHeartbeats 2000000 in
theorem stop_any {m : Nat} {w : World} {L : La} {s : Nd} (h : NA m w L s) (k : Int) (hk : k ≤ 9223372036854775807) (v : Value) (g : Nat) (mask : List Nat) (hA : Arg w v g mask) (hg : mask ≠ [] → g < m ∨ Blk w g []) :
    Calls Try.prog 26 #[.pointer (some ⟨L.n, 0, none⟩), .int .i64 k, v] w fun e w' => (∃ v, e = .returned v) ∧ (∃ L', L'.n = L.n ∧ NA m w' L' { s with left := k.toNat, mask }) ∧ Kn m w w' := by
  have hs2 := h.setStop 0 (.slice none 0 0) mask (by omega) ⟨[], .inl ⟨rfl, rfl⟩, Bs.nil, by simp, fun h => absurd rfl h⟩
  rw [show ((0 : Nat) : Int) = 0 from rfl] at hs2
  have hc5 := h.cLeft
  have hf5 := h.tf 5
  have hc6 := h.cMask
  have hf6 := h.tf 6
  have HS2 := hide hs2
  obtain ⟨⟨ao, c, rfl, hc1, hc2, hnil, hr⟩, hbs⟩ := hA
  have HA : Hid (Arg w (.slice ao mask.length c) g mask) := ⟨⟨ao, c, rfl, hc1, hc2, hnil, hr⟩, hbs⟩
  have HG := hide hg
  clear hs2 h hr hnil hg
  by_cases h1 : k < 1
  · go_enter Try.func26, Try.ntmps26
    go_wp2_with fail
    go_returns
    have e : k.toNat = 0 := by omega
    rw [e]
    exact ⟨⟨_, rfl⟩, ⟨{ L with mv := .slice none 0 0 }, rfl, (unhide HS2).1⟩, (unhide HS2).2⟩
  · have h1' : 1 ≤ k := by omega
    have hA2 : Arg ((w.setCell ⟨L.n, 5, none⟩ (.int .i64 0)).setCell ⟨L.n, 6, none⟩ (.slice none 0 0)) (.slice ao mask.length c) g mask := by
      by_cases hm : mask = []
      · subst hm
        exact ((unhide HA).kn (unhide HS2).2 (fun h => absurd rfl h))
      · rcases unhide HG hm with h | h
        · exact (unhide HA).kn (unhide HS2).2 (fun _ => h)
        · exact (unhide HA).ofHeap (h.kn (unhide HS2).2) h (unhide HS2).2
    obtain ⟨n, hn⟩ : ∃ n, min mask.length 60 = n := ⟨_, rfl⟩
    have hn1 : n ≤ mask.length := by omega
    have hn2 : n ≤ 60 := by omega
    have hmin : ∀ W : World, (Builtin.min_ #[3, 3] 3 #[.int .i64 (mask.length : Int), .int .i64 60]).run Try.prog W = .ok (.int .i64 (n : Int)) W := fun W => by rw [min_two, show min (mask.length : Int) 60 = (n : Int) from by omega]
    have hnc : (n : Int) ≤ (c : Int) := by omega
    have htk : mask.take n = mask.take 60 := by
      by_cases e : mask.length ≤ 60
      · rw [show n = mask.length from by omega, List.take_length, List.take_of_length_le e]
      · rw [show n = 60 from by omega]
    have HF2 := hide (hA2.front hn1)
    rw [htk] at HF2
    have HTB : Hid (Bs (mask.take 60)) := hA2.front (m := n) hn1 |>.bs |> fun h => by rw [htk] at h; exact h
    clear hA2 hn htk
    generalize mask.length = ml at hc1 HA hn1 hmin
    go_enter Try.func26, Try.ntmps26
    go_wp2_with fail
    refine (cloneB_any _ g _ _ (unhide HF2) (by rw [List.length_take]; omega)).mono ?_
    rintro e w1 ⟨v1, rfl, hF, hb⟩
    have hN1 := (unhide HS2).1.below hb
    have hk1 := Kn.of_below hb (Nat.le_of_lt (unhide HS2).1.n_lt)
    have hs3 := hN1.setStop k.toNat v1 mask (by omega) ⟨mask.take 60, hF.low, unhide HTB, by rw [List.length_take]; omega, fun _ a b ha hb => mix_front ha hb⟩
    rw [show ((k.toNat : Nat) : Int) = k from by omega] at hs3
    obtain ⟨to, tc, hsh⟩ := hF.shape
    obtain ⟨tl, htl⟩ : ∃ n, (List.take 60 mask).length = n := ⟨_, rfl⟩
    rw [htl] at hsh
    subst hsh
    clear htl
    have hc5 := hN1.cLeft
    have hf5 := hN1.tf 5
    have hc6 := hN1.cMask
    have hf6 := hN1.tf 6
    have HS3 := hide hs3
    have HK1 := hide hk1
    clear hs3 hk1 hN1 hF hb
    go_wp2_with fail
    go_end0
    exact ⟨⟨_, rfl⟩, ⟨{ L with mv := .slice to tl tc }, rfl, (unhide HS3).1⟩, (unhide HS2).2.trans ((unhide HK1).trans (unhide HS3).2)⟩
end Go.Proofs.Ytnondiaefpdlpaa

namespace Go.Proofs.Ytnondiaefpdlpaa
open Go.RowKit Go.Shelf
attribute [local go_sem] Oper.semAt_some

def ones60 : List Nat := List.replicate 60 255
theorem ones60_bs : Bs ones60 := Bs.of (fun x hx => by rw [List.eq_of_mem_replicate hx]; omega)
theorem ones60_len : ones60.length = 60 := by simp [ones60]

theorem ones_shape {n : Nat} {w : World} {v : Value} (h : Fr n w v (List.replicate 60 255)) : ∃ g c, v = .slice (some ⟨g, 0, none⟩) 60 c := by
  obtain ⟨g, c, h1, _⟩ := h.blk (by simp)
  exact ⟨g, c, by rw [h1, List.length_replicate]⟩

theorem infoP : (Try.prog.info? 95).map (fun i => (i.zero, i.size, i.bytes)) = some (some (.agg #[.slice none 0 0, .slice none 0 0]), 2, 48) := by kernel_rfl

/-- Block g bears P pages. -/
def PgAt (w : World) (g P : Nat) (hv nv : Nat → Value) : Prop := ∃ cur, w.heap[g]? = some (.cells cur 95 (0, 0)) ∧ ∀ p, p < P → cur[p * 2]? = some (hv p) ∧ cur[p * 2 + 1]? = some (nv p)

theorem made_pages (P : Nat) (w : World) : ∃ cs : Array Value, (P ≤ 1000 → (Instr.makeSlice 69 (.int .i64 (P : Int)) (.int .i64 (P : Int))).run Try.prog w = .ok (.slice (some ⟨w.heap.size, 0, none⟩) P P) (w.alloc (.cells cs 95))) ∧ ∀ p, p < P → cs[p * 2]? = some (.slice none 0 0) ∧ cs[p * 2 + 1]? = some (.slice none 0 0) := by
  obtain ⟨i0, hi0, hz0, hz1, hz2⟩ := info_parts infoP
  refine ⟨madeCells (Value.cells (.agg #[.slice none 0 0, .slice none 0 0])) (P * 2), fun hP => ?_, fun p hp => ?_⟩
  · have h := run_make (P := Try.prog) w 69 95 i0 (.agg #[.slice none 0 0, .slice none 0 0]) Try.underlying69 hi0 hz0 .i64 .i64 P P (by omega) (by omega) (by rw [hz2]; omega) (by omega)
    rw [hz1, Int.toNat_natCast] at h
    exact h
  · have e1 : p * 2 < P * 2 := by omega
    have e2 : p * 2 + 1 < P * 2 := by omega
    have e3 : p * 2 % 2 = 0 := by omega
    have e4 : (p * 2 + 1) % 2 = 1 := by omega
    simp [madeCells, Value.cells, e1, e2, e3, e4]

theorem Fr.ka {n a b : Nat} {A B : World} {v : Value} {s : List Nat} (h : Fr n A v s) (k : Ka a b A B) (hb : b ≤ n) : Fr n B v s := by
  rcases h with h | ⟨g, c, h1, h2, h3, h4, h5⟩
  · exact .inl h
  · exact .inr ⟨g, c, h1, h2, h3, h4.of (k.block g h4.lt (by omega)), h5⟩
theorem PgAt.of {w w' : World} {g P : Nat} {hv nv : Nat → Value} (h : PgAt w g P hv nv) (e : w'.heap[g]? = w.heap[g]?) : PgAt w' g P hv nv := by
  obtain ⟨cur, h1, h2⟩ := h
  exact ⟨cur, e.trans h1, h2⟩
theorem PgAt.lt {w : World} {g P : Nat} {hv nv : Nat → Value} (h : PgAt w g P hv nv) : g < w.heap.size := by
  obtain ⟨cur, h1, h2⟩ := h
  exact lt_of_block h1
theorem PgAt.setH {w : World} {g P p : Nat} {hv nv : Nat → Value} (h : PgAt w g P hv nv) (hp : p < P) (v : Value) : PgAt (w.setCell ⟨g, p * 2, none⟩ v) g P (fun q => if q = p then v else hv q) nv := by
  obtain ⟨cur, h1, h2⟩ := h
  refine ⟨cur.setIfInBounds (p * 2) v, heap_setCell_same w _ _ _ _ _ h1, fun q hq => ?_⟩
  have hsz : p * 2 < cur.size := (Array.getElem?_eq_some_iff.1 (h2 p hp).1).1
  rw [Array.getElem?_setIfInBounds, Array.getElem?_setIfInBounds, if_neg (by omega : ¬ p * 2 = q * 2 + 1)]
  refine ⟨?_, (h2 q hq).2⟩
  by_cases e : q = p
  · subst e; rw [if_pos rfl, if_pos hsz]; simp
  · rw [if_neg (by omega)]; simp only [if_neg e]; exact (h2 q hq).1
theorem PgAt.c0 {w : World} {g P p : Nat} {hv nv : Nat → Value} (h : PgAt w g P hv nv) (hp : p < P) : w.cell? ⟨g, p * 2, none⟩ = some (hv p) ∧ w.frozen? ⟨g, p * 2, none⟩ = false := by
  obtain ⟨cur, h1, h2⟩ := h
  exact ⟨cell_blk h1 (h2 p hp).1, free_blk h1⟩

set_option maxRecDepth 100000 in
set_option maxHeartbeats 8000000 in
theorem blankPages_any (P : Nat) (hP : P ≤ 8) (w : World) :
    Calls Try.prog 59 #[.int .i64 (P : Int)] w fun e w' => ∃ g hv, e = .returned (.slice (some ⟨g, 0, none⟩) P P) ∧ w.heap.size ≤ g ∧ PgAt w' g P hv (fun _ => .slice none 0 0) ∧ (∀ p, p < P → Fr w.heap.size w' (hv p) ones60) ∧ Below w.heap.size w w' := by
  obtain ⟨cs, hmk0, hcs⟩ := made_pages P w
  have hmk := hmk0 (by omega)
  have HCS := hide hcs
  clear hmk0 hcs
  refine (callsIn_wide (n := 3)).1 ?_
  refine callsIn_of_wp_marks Try.func59 rfl trivial ?_ rfl
  simp only [Try.ntmps59, List.size_toArray, List.length_cons, List.length_nil, Nat.reduceAdd, Nat.reduceSub, Array.replicate_succ, Array.replicate_zero, List.push_toArray, List.append_toArray, List.nil_append, List.cons_append]
  gi_wp2
  clear hmk
  obtain ⟨w1, hw1⟩ : ∃ w1, (w.alloc (.cells cs 95)).alloc (.cells #[.slice (some ⟨w.heap.size, 0, none⟩) P P] 69) = w1 := ⟨_, rfl⟩
  have hz1 : w1.heap.size = w.heap.size + 2 := by rw [← hw1]; simp
  have hB1 : Below w.heap.size w w1 := by rw [← hw1]; exact ((Below.refl _ w).alloc (Nat.le_refl _) _).alloc (by simp) _
  have hH1 : w1.cell? ⟨w.heap.size + 1, 0, none⟩ = some (.slice (some ⟨w.heap.size, 0, none⟩) P P) := by
    rw [← hw1]
    have h := (cell_new' (w.alloc (.cells cs 95)) (.slice (some ⟨w.heap.size, 0, none⟩) P P) 69).1
    rw [World.size_alloc] at h
    exact h
  have hG1 : PgAt w1 w.heap.size P (fun _ => .slice none 0 0) (fun _ => .slice none 0 0) := ⟨cs, by rw [← hw1]; exact (Below.heap_alloc _ _ _ (by simp)).trans (World.alloc_heap_new w _), unhide HCS⟩
  rw [hw1]
  clear hw1 HCS
  have HB1 := hide hB1
  have HH1 := hide hH1
  have HG1 := hide hG1
  have hz1a := Nat.le_of_eq hz1
  have hz1b := Nat.le_of_eq hz1.symm
  clear hB1 hH1 hG1 hz1
  refine ⟨trivial, (callsIn_wide.2 (allP_any _ w1)).mono ?_⟩
  rintro e w2 ⟨rfl, hc2, hz2, hb2⟩
  have HB2 := hide ((unhide HB1).trans (hb2.mono (by omega)))
  have HH2 := hide ((hb2.cell (p := ⟨w.heap.size + 1, 0, none⟩) (by show w.heap.size + 1 < _; omega)).trans (unhide HH1))
  have HG2 := hide ((unhide HG1).of (hb2.block _ (by omega)))
  have hz2a := Nat.le_of_eq hz2
  have hz2b := Nat.le_of_eq hz2.symm
  obtain ⟨he, hq⟩ := allP_x (fun k => k = w.heap.size + 1 ∨ k = w1.heap.size) w1.heap.size (w.heap.size + 1) 0 w.heap.size P P (by omega) w2 hc2 (unhide HH2) (.inr rfl) (.inl rfl)
  have HE := hide he
  have HQ := hide hq
  have HC2 := hide hc2
  clear hc2 hz2 hb2 HB1 HH1 HG1 he hq
  gi_wp2
  refine wpIn_range_y (gf := 67) (lb := #[.pointer (some ⟨w1.heap.size, 0, none⟩)]) rfl (unhide HE) (unhide HQ) (fun k hk => by rcases hk with h | h <;> omega) (fun _ => rfl)
    (fun pre A => ∃ hv : Nat → Value, PgAt A w.heap.size P hv (fun _ => .slice none 0 0) ∧ (∀ p, p ∈ pre.map Fin.val → Fr (w2.heap.size + 2 + 0) A (hv p) ones60) ∧ A.cell? ⟨w.heap.size + 1, 0, none⟩ = some (.slice (some ⟨w.heap.size, 0, none⟩) P P) ∧ Below w.heap.size w A ∧ w2.heap.size ≤ A.heap.size)
    (fun s A B h hb => by
      obtain ⟨hv, h1, h2, h3, h4, h5⟩ := h
      have hb' := hb.below (by omega)
      exact ⟨hv, h1.of (hb'.block _ (by omega)), fun p hp => (h2 p hp).ka hb (by omega), hb.cell h3 (by dsimp only; omega), h4.trans (hb'.mono (by omega)), Nat.le_trans h5 hb.size⟩)
    ⟨_, unhide HG2, fun p hp => by simp at hp, unhide HH2, unhide HB2, Nat.le_refl _⟩ ?round ?done
  case done =>
    rintro D1 xs A hD hD2 hxs ⟨hv, h1, h2, h3, h4, h5⟩ hK
    have H1 := hide h1
    have H2 := hide h2
    have HB := hide h4
    have HX := hide hxs
    clear h1 h2 h4 hxs
    gi_wp2
    refine ⟨by simp, .inl ⟨_, _, rfl, run_takeDeferred hK, ?_⟩⟩
    refine ⟨_, results_tmp rfl _ _ _, w.heap.size, hv, rfl, Nat.le_refl _, (unhide H1).of (World.putObj_heap_other (by omega)), fun p hp => ?_, (unhide HB).trans (below_put _ _ (by omega))⟩
    have hF := unhide H2 p (by rw [unhide HX]; exact List.mem_range.2 hp)
    rcases hF with h | ⟨g, c, h1, h2, h3, h4, h5⟩
    · exact .inl h
    · exact .inr ⟨g, c, h1, h2, h3, h4.of (World.putObj_heap_other (by omega)), by omega⟩
  case round =>
    rintro l pre x A ⟨hv, h1, h2, h3, h4, h5⟩ hlen hs2A
    have hx := x.isLt
    gi_wp2
    refine ⟨⟨Ky.refl _ _ _ _, hv, h1, h2, h3, h4, h5⟩, ?_⟩
    clear h1 h2 h3 h4 h5 hv
    rintro W₂ hsz2 - - ⟨hv, h1, h2, h3, h4, h5⟩
    have hs3 : w2.heap.size + 2 + 0 ≤ W₂.heap.size := by omega
    clear hsz2 hs2A
    obtain ⟨i, hi⟩ : ∃ i, x.val = i := ⟨_, rfl⟩
    have HI := hide hi
    rw [hi] at hx ⊢
    clear hi
    have H1 := hide h1
    have H2 := hide h2
    have H3 := hide h3
    have H4 := hide h4
    clear h1 h2 h3 h4
    gi_wp2
    refine ⟨trivial, rfl, (callsIn_wide.2 (allOnes_any W₂)).mono ?_⟩
    rintro e W3 ⟨v, rfl, hF, hb⟩
    obtain ⟨go, co, rfl⟩ := ones_shape hF
    obtain ⟨v, hv0⟩ : ∃ v, Value.slice (some ⟨go, 0, none⟩) 60 co = v := ⟨_, rfl⟩
    have HV0 := hide hv0
    rw [hv0] at hF
    have hG3 := (unhide H1).of (hb.block _ (unhide H1).lt)
    obtain ⟨hc0, hf0⟩ := hG3.c0 hx
    have hG4 := hG3.setH hx v
    have hk4 : Below w.heap.size W3 (W3.setCell ⟨w.heap.size, i * 2, none⟩ v) := ⟨rfl, rfl, rfl, by simp [World.setCell], fun k hk => Below.heap_setCell _ _ _ _ (by show k ≠ w.heap.size; omega)⟩
    have hoth : ∀ k : Nat, k ≠ w.heap.size → (W3.setCell ⟨w.heap.size, i * 2, none⟩ v).heap[k]? = W3.heap[k]? := fun k hk => Below.heap_setCell _ _ _ _ hk
    have hsz4 : (W3.setCell ⟨w.heap.size, i * 2, none⟩ v).heap.size = W3.heap.size := by simp [World.setCell]
    have hlt := (unhide H1).lt
    have hR : postY w2.heap.size (fun k => k = w.heap.size + 1 ∨ k = w1.heap.size) 0 (fun pre A => ∃ hv : Nat → Value, PgAt A w.heap.size P hv (fun _ => .slice none 0 0) ∧ (∀ p, p ∈ pre.map Fin.val → Fr (w2.heap.size + 2 + 0) A (hv p) ones60) ∧ A.cell? ⟨w.heap.size + 1, 0, none⟩ = some (.slice (some ⟨w.heap.size, 0, none⟩) P P) ∧ Below w.heap.size w A ∧ w2.heap.size ≤ A.heap.size) (pre ++ [x]) W₂ .normal { tmps := #[], defers := [] } (W3.setCell ⟨w.heap.size, i * 2, none⟩ v) := by
      refine ⟨⟨by have := hb.size; omega, fun k hk hor => (hoth k (by rcases hor with h | h | h <;> omega)).trans (hb.block k hk)⟩, _, hG4, fun p hp => ?_, ?_, ((unhide H4).trans (hb.mono (unhide H4).size)).trans hk4, by have := hb.size; omega⟩
      · rw [List.map_append, List.mem_append] at hp
        have hfr : ∀ {u s}, Fr (w2.heap.size + 2 + 0) W3 u s → Fr (w2.heap.size + 2 + 0) (W3.setCell ⟨w.heap.size, i * 2, none⟩ v) u s := fun {u s} h => by
          rcases h with h | ⟨g, c, h1, h2, h3, h4, h5⟩
          · exact .inl h
          · exact .inr ⟨g, c, h1, h2, h3, h4.of (hoth g (by omega)), h5⟩
        by_cases e : p = i
        · simp only [if_pos e]
          exact hfr (hF.below (Below.refl _ _) hs3)
        · simp only [if_neg e]
          rcases hp with hp | hp
          · exact hfr ((unhide H2 p hp).below hb (Nat.le_refl _))
          · have : p = x.val := by simpa using hp
            exact absurd (this.trans (unhide HI)) e
      · exact (World.cell?_of_block (hoth _ (by show w.heap.size + 1 ≠ _; omega))).trans ((hb.cell (p := ⟨w.heap.size + 1, 0, none⟩) (by show w.heap.size + 1 < _; omega)).trans (unhide H3))
    have HR := hide hR
    rw [← hv0] at HR
    clear hv0
    clear hR hG3 hG4 hk4 hoth hsz4 hF hb
    gi_wp2
    exact unhide HR

end Go.Proofs.Ytnondiaefpdlpaa
