/-
  nand: what is counted, refused, torn; power.
-/
import Derived.Test.YtnondiaefpdlpaaV7a
import Derived.Test.YtnondiaefpdlpaaV7r
namespace Go.Proofs.Ytnondiaefpdlpaa
open Go.RowKit Go.Shelf

/-- What lies in a block of bytes stays an argument. -/
theorem Arg.ofHeap {m g : Nat} {w w' : World} {v : Value} {s : List Nat} (h : Arg w v g s) (_ : Blk w' g []) (hb : Blk w g []) (k : Kn m w w') : Arg w' v g s := by
  obtain ⟨⟨ao, c, h1, h2, h3, h4, h5⟩, hbs⟩ := h
  refine ⟨⟨ao, c, h1, h2, h3, h4, ?_⟩, hbs⟩
  obtain ⟨cur, hcur, _⟩ := hb
  have e : w'.heap[g]? = w.heap[g]? := (k.oth g _ hcur rfl).trans hcur.symm
  rcases h5 with h0 | ⟨o, rfl, hc⟩
  · exact .inl h0
  · exact .inr ⟨o, rfl, fun j hj => (World.cell?_of_block e).trans (hc j hj)⟩
/-- One more. -/
def inc (z : Int) : Int := wrap64 (z + 1)
theorem inc_in {z : Int} (h : 0 ≤ z) (h2 : z < 9223372036854775807) : inc z = z + 1 := by
  rw [inc, IntWalk.wrap64_in _ ⟨by omega, by omega⟩]

theorem mix_ones {a b : List Nat} (ha : a.length = 60) (hb : b.length = 60) (h1 : Bs a) (h2 : Bs b) : mixL a b (List.replicate 60 255) = b := by
  have hl : a.length = b.length := by omega
  have h3 := mix_all hl h1 h2
  rw [mixL, if_pos hl, mixF, if_neg (by simp)] at h3
  rw [mixL, if_pos hl, mixF, if_neg (by simp)]
  conv => rhs; rw [← h3]
  refine List.map_congr_left (fun i hi => ?_)
  have e1 : mAt (List.replicate 60 255) i = 255 := by rw [mAt, List.length_replicate, cf_rep _ (Nat.mod_lt _ (by omega))]
  have e2 : mAt [255] i = 255 := by rw [mAt, show i % [255].length = 0 from Nat.mod_one i]; rfl
  rw [e1, e2]

theorem NA.tset {m : Nat} {w : World} {L : La} {s : Nd} (h : NA m w L s) (j : Nat) (v : Value) : (w.setCell ⟨L.n, j, none⟩ v).heap[L.n]? = some (.cells ((topC L s).setIfInBounds j v) 65 (0, 0)) ∧ Kn m w (w.setCell ⟨L.n, j, none⟩ v) ∧ ∀ k : Nat, k ≠ L.n → (w.setCell ⟨L.n, j, none⟩ v).heap[k]? = w.heap[k]? :=
  ⟨heap_setCell_same w _ _ _ _ _ h.top, Kn.set w v h.low0 h.top (by decide), fun k hk => Below.heap_setCell _ _ _ _ hk⟩
theorem NA.setWrong {m : Nat} {w : World} {L : La} {s : Nd} (h : NA m w L s) (z : Int) : NA m (w.setCell ⟨L.n, 8, none⟩ (.int .i64 z)) L { s with wrong := z } ∧ Kn m w (w.setCell ⟨L.n, 8, none⟩ (.int .i64 z)) := by
  obtain ⟨h1, h2, h3⟩ := h.tset 8 (.int .i64 z)
  exact ⟨h.setTop s.dead s.left s.mask s.ops z L.mv h2 h3 h1 h.ok.lf h.msk, h2⟩
theorem NA.setOps {m : Nat} {w : World} {L : La} {s : Nd} (h : NA m w L s) (z : Int) : NA m (w.setCell ⟨L.n, 7, none⟩ (.int .i64 z)) L { s with ops := z } ∧ Kn m w (w.setCell ⟨L.n, 7, none⟩ (.int .i64 z)) := by
  obtain ⟨h1, h2, h3⟩ := h.tset 7 (.int .i64 z)
  exact ⟨h.setTop s.dead s.left s.mask z s.wrong L.mv h2 h3 h1 h.ok.lf h.msk, h2⟩
theorem NA.setDead {m : Nat} {w : World} {L : La} {s : Nd} (h : NA m w L s) (z : Bool) : NA m (w.setCell ⟨L.n, 4, none⟩ (.bool z)) L { s with dead := z } ∧ Kn m w (w.setCell ⟨L.n, 4, none⟩ (.bool z)) := by
  obtain ⟨h1, h2, h3⟩ := h.tset 4 (.bool z)
  exact ⟨h.setTop z s.left s.mask s.ops s.wrong L.mv h2 h3 h1 h.ok.lf h.msk, h2⟩
theorem NA.setLeft {m : Nat} {w : World} {L : La} {s : Nd} (h : NA m w L s) (z : Nat) (hz : z ≤ s.left) : NA m (w.setCell ⟨L.n, 5, none⟩ (.int .i64 (z : Int))) L { s with left := z } ∧ Kn m w (w.setCell ⟨L.n, 5, none⟩ (.int .i64 (z : Int))) := by
  obtain ⟨h1, h2, h3⟩ := h.tset 5 (.int .i64 (z : Int))
  obtain ⟨t, g1, g2, g3, g4⟩ := h.msk
  exact ⟨h.setTop s.dead z s.mask s.ops s.wrong L.mv h2 h3 h1 (Nat.le_trans hz h.ok.lf) ⟨t, g1, g2, g3, fun hne => g4 (by omega)⟩, h2⟩
theorem NA.setStop {m : Nat} {w : World} {L : La} {s : Nd} (h : NA m w L s) (z : Nat) (mv : Value) (mask : List Nat) (hz : z ≤ 9223372036854775807)
    (hm : ∃ t, Fr 0 w mv t ∧ Bs t ∧ t.length ≤ 60 ∧ (z ≠ 0 → ∀ a b : List Nat, a.length = 60 → b.length = 60 → mixL a b t = mixL a b mask)) :
    NA m ((w.setCell ⟨L.n, 5, none⟩ (.int .i64 (z : Int))).setCell ⟨L.n, 6, none⟩ mv) { L with mv } { s with left := z, mask } ∧ Kn m w ((w.setCell ⟨L.n, 5, none⟩ (.int .i64 (z : Int))).setCell ⟨L.n, 6, none⟩ mv) := by
  obtain ⟨h1, h2, h3⟩ := h.tset 5 (.int .i64 (z : Int))
  have g1 := heap_setCell_same (w.setCell ⟨L.n, 5, none⟩ (.int .i64 (z : Int))) L.n 6 _ _ mv h1
  have g2 : Kn m w ((w.setCell ⟨L.n, 5, none⟩ (.int .i64 (z : Int))).setCell ⟨L.n, 6, none⟩ mv) := h2.trans (Kn.set _ mv h.low0 h1 (by decide))
  exact ⟨h.setTop s.dead z mask s.ops s.wrong mv g2 (fun k hk => (Below.heap_setCell _ _ _ _ hk).trans (h3 k hk)) g1 hz hm, g2⟩

set_option maxRecDepth 100000 in
set_option maxHeartbeats 2000000 in
theorem refuse_any {m : Nat} {w : World} {L : La} {s : Nd} (h : NA m w L s) :
    Calls Try.prog 48 #[.pointer (some ⟨L.n, 0, none⟩)] w fun e w' => e = .returned (.int .i64 1) ∧ NA m w' L { s with wrong := inc s.wrong } ∧ Kn m w w' := by
  have HN := hide h
  have hc := h.cWrong
  have hf := h.tf 8
  clear h
  go_enter Try.func48, Try.ntmps48
  go_wp2_with fail
  go_ret
  have := (unhide HN).setWrong (inc s.wrong)
  exact ⟨rfl, this⟩

set_option maxRecDepth 100000 in
set_option maxHeartbeats 2000000 in
theorem Ops_any {m : Nat} {w : World} {L : La} {s : Nd} (h : NA m w L s) : Calls Try.prog 31 #[.pointer (some ⟨L.n, 0, none⟩)] w fun e w' => e = .returned (.int .i64 s.ops) ∧ w' = w := by
  have hc := h.cOps
  clear h
  go_enter Try.func31, Try.ntmps31
  go_wp2_with fail
  go_ret
  exact ⟨rfl, rfl⟩
set_option maxRecDepth 100000 in
set_option maxHeartbeats 2000000 in
theorem Wrong_any {m : Nat} {w : World} {L : La} {s : Nd} (h : NA m w L s) : Calls Try.prog 25 #[.pointer (some ⟨L.n, 0, none⟩)] w fun e w' => e = .returned (.int .i64 s.wrong) ∧ w' = w := by
  have hc := h.cWrong
  clear h
  go_enter Try.func25, Try.ntmps25
  go_wp2_with fail
  go_ret
  exact ⟨rfl, rfl⟩
set_option maxRecDepth 100000 in
set_option maxHeartbeats 2000000 in
theorem Dead_any {m : Nat} {w : World} {L : La} {s : Nd} (h : NA m w L s) : Calls Try.prog 27 #[.pointer (some ⟨L.n, 0, none⟩)] w fun e w' => e = .returned (.bool s.dead) ∧ w' = w := by
  have hc := h.cDead
  clear h
  go_enter Try.func27, Try.ntmps27
  go_wp2_with fail
  go_ret
  exact ⟨rfl, rfl⟩

set_option maxRecDepth 100000 in
set_option maxHeartbeats 2000000 in
theorem burn_any {m : Nat} {w : World} {L : La} {s : Nd} (h : NA m w L s) :
    Calls Try.prog 66 #[.pointer (some ⟨L.n, 5, none⟩)] w fun e w' => e = .returned (.bool (decide (s.left = 1))) ∧ NA m w' L { s with left := s.left - 1 } ∧ Kn m w w' := by
  have HN := hide h
  have hc := h.cLeft
  have hf := h.tf 5
  have hl := h.ok.lf
  clear h
  by_cases h0 : s.left = 0
  · have h1 : ({ s with left := s.left - 1 } : Nd) = s := by cases s; simp only at h0; subst h0; rfl
    have h2 : decide (s.left = 1) = false := by rw [h0]; rfl
    rw [h1, h2]
    rw [h0] at hc
    clear h1 h2
    go_enter Try.func66, Try.ntmps66
    go_wp2_with fail
    go_ret
    exact ⟨rfl, unhide HN, Kn.refl _ _⟩
  · have h1 : ((s.left : Int) == 0) = false := by rw [beq_eq_false_iff_ne]; omega
    obtain ⟨k, hk⟩ : ∃ k, s.left = k + 1 := ⟨s.left - 1, by omega⟩
    have h2 : IntKind.i64.wrap ((s.left : Int) - 1) = (k : Int) := by rw [IntWalk.i64_in _ ⟨by omega, by omega⟩]; omega
    have hs := (unhide HN).setLeft k (by omega)
    have hc2 := hs.1.cLeft
    rw [show s.left - 1 = k from by omega]
    have h4 : decide (s.left = 1) = ((k : Int) == 0) := by
      rw [hk]
      cases k with
      | zero => rfl
      | succ k => rw [decide_eq_false (by omega), eq_comm, beq_eq_false_iff_ne]; omega
    rw [h4]
    have HS := hide hs
    clear hs h4 h0
    generalize s.left = l at hc h1 h2 hk
    clear hk
    go_enter Try.func66, Try.ntmps66
    go_wp2_with fail
    go_ret
    exact ⟨rfl, unhide HS⟩

/-- What a Program or an Erase leaves, of what was and what should be. -/
def Nd.mixed (s : Nd) (a b : List Nat) : List Nat := if s.left = 1 then mixL a b s.mask else b
/-- A Program or an Erase begins. -/
def Nd.begun (s : Nd) : Nd := { s with ops := inc s.ops, left := s.left - 1, dead := s.dead || decide (s.left = 1) }
def Nd.err (s : Nd) : Int := if s.left = 1 then 8 else 0

set_option maxRecDepth 100000 in
set_option maxHeartbeats 2000000 in
theorem work_any {m : Nat} {w : World} {L : La} {s : Nd} (h : NA m w L s) :
    Calls Try.prog 49 #[.pointer (some ⟨L.n, 0, none⟩)] w fun e w' => ∃ dv t, e = .returned (.tuple #[dv, .int .i64 s.err]) ∧ NA m w' L s.begun ∧ Kn m w w' ∧ Fr 0 w' dv t ∧ Bs t ∧ t.length ≤ 60 ∧
      ∀ a b : List Nat, a.length = 60 → b.length = 60 → Bs a → Bs b → mixL a b t = s.mixed a b := by
  have hs := h.setOps (inc s.ops)
  have hc := h.cOps
  have hf := h.tf 7
  have HS := hide hs
  have HM := hide h.msk
  have hm := h.n_lt
  clear hs h
  by_cases h1 : s.left = 1
  · have hd : decide (s.left = 1) = true := by rw [decide_eq_true h1]
    go_enter Try.func49, Try.ntmps49
    go_wp2_with fail
    refine (burn_any (unhide HS).1).mono ?_
    rintro e w1 ⟨rfl, hN1, hK1⟩
    simp only [] at hN1
    rw [hd]
    have hs2 := hN1.setDead true
    have hc2 := hN1.cDead
    have hf2 := hN1.tf 4
    have hc3 := hs2.1.cMask
    have HS2 := hide hs2
    have HK1 := hide hK1
    clear hs2 hN1 hK1
    go_wp2_with fail
    go_returns
    obtain ⟨t, g1, g2, g3, g4⟩ := unhide HM
    have hkk := (unhide HS).2.trans ((unhide HK1).trans (unhide HS2).2)
    refine ⟨L.mv, t, by rw [Nd.err, if_pos h1]; rfl, ?_, hkk, g1.kn hkk, g2, g3, fun a b ha hb _ _ => by rw [Nd.mixed, if_pos h1]; exact g4 (by omega) a b ha hb⟩
    have := (unhide HS2).1
    rw [Nd.begun, hd, Bool.or_true]
    exact this
  · have hd : decide (s.left = 1) = false := by rw [decide_eq_false h1]
    go_enter Try.func49, Try.ntmps49
    go_wp2_with fail
    refine (burn_any (unhide HS).1).mono ?_
    rintro e w1 ⟨rfl, hN1, hK1⟩
    simp only [] at hN1
    rw [hd]
    have HN1 := hide hN1
    have HK1 := hide hK1
    clear hN1 hK1
    go_wp2_with fail
    refine (allOnes_any _).mono ?_
    rintro e w2 ⟨dv, rfl, hF, hb⟩
    have HF := hide hF
    have HB := hide hb
    clear hF hb
    go_wp2_with fail
    go_returns
    have hk2 : Kn m w1 w2 := Kn.of_below (unhide HB) (Nat.le_of_lt (unhide HN1).n_lt)
    refine ⟨dv, _, by rw [Nd.err, if_neg h1]; rfl, ?_, (unhide HS).2.trans ((unhide HK1).trans hk2), (unhide HF).low, Bs.of (fun x hx => by rw [List.eq_of_mem_replicate hx]; omega), by simp, fun a b ha hb h1' h2' => by rw [Nd.mixed, if_neg h1, mix_ones ha hb h1' h2']⟩
    rw [Nd.begun, hd, Bool.or_false]
    exact (unhide HN1).below (unhide HB)

set_option maxRecDepth 100000 in
set_option maxHeartbeats 2000000 in
theorem power_any {m : Nat} {w : World} {L : La} {s : Nd} (h : NA m w L s) :
    Calls Try.prog 17 #[.pointer (some ⟨L.n, 0, none⟩)] w fun e w' => (∃ v, e = .returned v) ∧ (∃ L', L'.n = L.n ∧ NA m w' L' { s with dead := false, left := 0 }) ∧ Kn m w w' := by
  have hs := h.setDead false
  have hc := h.cDead
  have hf := h.tf 4
  have hs2 := hs.1.setStop 0 (.slice none 0 0) s.mask (by omega) ⟨[], .inl ⟨rfl, rfl⟩, Bs.nil, by simp, fun h => absurd rfl h⟩
  rw [show ((0 : Nat) : Int) = 0 from rfl] at hs2
  have hc5 := hs.1.cLeft
  have hf5 := hs.1.tf 5
  have hc6 := hs.1.cMask
  have hf6 := hs.1.tf 6
  have HS := hide hs
  have HS2 := hide hs2
  clear hs hs2 h
  go_enter Try.func17, Try.ntmps17
  go_wp2_with fail
  go_end0
  exact ⟨⟨_, rfl⟩, ⟨{ L with mv := .slice none 0 0 }, rfl, (unhide HS2).1⟩, (unhide HS).2.trans (unhide HS2).2⟩

/-- Of a mask what is beyond a page does not count. -/
theorem mix_front {a b mask : List Nat} (ha : a.length = 60) (hb : b.length = 60) : mixL a b (mask.take 60) = mixL a b mask := by
  have hl : a.length = b.length := by omega
  rw [mixL, if_pos hl, mixL, if_pos hl]
  by_cases h : mask.length ≤ 60
  · rw [List.take_of_length_le h]
  · have h1 : mask.take 60 ≠ [] := fun e => by
      have h3 : (mask.take 60).length = 0 := by rw [e]; rfl
      rw [List.length_take] at h3
      omega
    have h2 : mask ≠ [] := by intro e; rw [e] at h; simp at h
    rw [mixF, if_neg h1, mixF, if_neg h2]
    refine List.map_congr_left (fun i hi => ?_)
    have hi := List.mem_range.1 hi
    have e1 : mAt (mask.take 60) i = mAt mask i := by
      rw [mAt, mAt, List.length_take, Nat.min_eq_left (by omega), Nat.mod_eq_of_lt (by omega), Nat.mod_eq_of_lt (by omega), cf_take, if_pos (by omega)]
    rw [e1]

set_option maxRecDepth 100000 in
set_option maxHeartbeats 2000000 in
theorem stop_any {m : Nat} {w : World} {L : La} {s : Nd} (h : NA m w L s) (k : Int) (hk : k ≤ 9223372036854775807) (v : Value) (g : Nat) (mask : List Nat) (hA : Arg w v g mask) (hg : mask ≠ [] → g < m ∨ Blk w g []) :
    Calls Try.prog 26 #[.pointer (some ⟨L.n, 0, none⟩), .int .i64 k, v] w fun e w' => (∃ v, e = .returned v) ∧ (∃ L', L'.n = L.n ∧ NA m w' L' { s with left := k.toNat, mask }) ∧ Kn m w w' := by
  have hs2 := h.setStop 0 (.slice none 0 0) mask (by omega) ⟨[], .inl ⟨rfl, rfl⟩, Bs.nil, by simp, fun h => absurd rfl h⟩
  rw [show ((0 : Nat) : Int) = 0 from rfl] at hs2
  have hc5 := h.cLeft
  have hf5 := h.tf 5
  have hc6 := h.cMask
  have hf6 := h.tf 6
  have HS2 := hide hs2
  obtain ⟨⟨ao, c, rfl, hc1, hc2, hnil, hr⟩, hbs⟩ := hA
  have HA : Hid (Arg w (.slice ao mask.length c) g mask) := ⟨⟨ao, c, rfl, hc1, hc2, hnil, hr⟩, hbs⟩
  have HG := hide hg
  clear hs2 h hr hnil hg
  by_cases h1 : k < 1
  · go_enter Try.func26, Try.ntmps26
    go_wp2_with fail
    go_returns
    have e : k.toNat = 0 := by omega
    rw [e]
    exact ⟨⟨_, rfl⟩, ⟨{ L with mv := .slice none 0 0 }, rfl, (unhide HS2).1⟩, (unhide HS2).2⟩
  · have h1' : 1 ≤ k := by omega
    have hA2 : Arg ((w.setCell ⟨L.n, 5, none⟩ (.int .i64 0)).setCell ⟨L.n, 6, none⟩ (.slice none 0 0)) (.slice ao mask.length c) g mask := by
      by_cases hm : mask = []
      · subst hm
        exact ((unhide HA).kn (unhide HS2).2 (fun h => absurd rfl h))
      · rcases unhide HG hm with h | h
        · exact (unhide HA).kn (unhide HS2).2 (fun _ => h)
        · exact (unhide HA).ofHeap (h.kn (unhide HS2).2) h (unhide HS2).2
    obtain ⟨n, hn⟩ : ∃ n, min mask.length 60 = n := ⟨_, rfl⟩
    have hn1 : n ≤ mask.length := by omega
    have hn2 : n ≤ 60 := by omega
    have hmin : ∀ W : World, (Builtin.min_ #[3, 3] 3 #[.int .i64 (mask.length : Int), .int .i64 60]).run Try.prog W = .ok (.int .i64 (n : Int)) W := fun W => by rw [min_two, show min (mask.length : Int) 60 = (n : Int) from by omega]
    have hnc : (n : Int) ≤ (c : Int) := by omega
    have htk : mask.take n = mask.take 60 := by
      by_cases e : mask.length ≤ 60
      · rw [show n = mask.length from by omega, List.take_length, List.take_of_length_le e]
      · rw [show n = 60 from by omega]
    have HF2 := hide (hA2.front hn1)
    rw [htk] at HF2
    have HTB : Hid (Bs (mask.take 60)) := hA2.front (m := n) hn1 |>.bs |> fun h => by rw [htk] at h; exact h
    clear hA2 hn htk
    generalize mask.length = ml at hc1 HA hn1 hmin
    go_enter Try.func26, Try.ntmps26
    go_wp2_with fail
    refine (cloneB_any _ g _ _ (unhide HF2) (by rw [List.length_take]; omega)).mono ?_
    rintro e w1 ⟨v1, rfl, hF, hb⟩
    have hN1 := (unhide HS2).1.below hb
    have hk1 := Kn.of_below hb (Nat.le_of_lt (unhide HS2).1.n_lt)
    have hs3 := hN1.setStop k.toNat v1 mask (by omega) ⟨mask.take 60, hF.low, unhide HTB, by rw [List.length_take]; omega, fun _ a b ha hb => mix_front ha hb⟩
    rw [show ((k.toNat : Nat) : Int) = k from by omega] at hs3
    obtain ⟨to, tc, hsh⟩ := hF.shape
    obtain ⟨tl, htl⟩ : ∃ n, (List.take 60 mask).length = n := ⟨_, rfl⟩
    rw [htl] at hsh
    subst hsh
    clear htl
    have hc5 := hN1.cLeft
    have hf5 := hN1.tf 5
    have hc6 := hN1.cMask
    have hf6 := hN1.tf 6
    have HS3 := hide hs3
    have HK1 := hide hk1
    clear hs3 hk1 hN1 hF hb
    go_wp2_with fail
    go_end0
    exact ⟨⟨_, rfl⟩, ⟨{ L with mv := .slice to tl tc }, rfl, (unhide HS3).1⟩, (unhide HS2).2.trans ((unhide HK1).trans (unhide HS3).2)⟩
end Go.Proofs.Ytnondiaefpdlpaa
