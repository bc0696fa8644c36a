/-
  Rows of rows in memory; slices.Contains of ints; slices.All and rs.kept with their iterators.
-/
import Derived.Test.YtjdikhelabibnabGreatI6
import Derived.Test.YtjdikhelabibnabGreatBa
import Derived.Test.YtjdikhelabibnabGreatG5m
namespace Go.Proofs.YtjdikhelabibnabGreat
open Go.RowKit Go.Shelf
attribute [local go_sem] Oper.semAt_some

theorem IRow.kq {S : List Nat} {n : Nat} {w w' : World} (h : Kq S n w w') {ao : Option Addr} {g : Nat} {zs : List Int} (hr : IRow w ao g zs) (hg : zs ≠ [] → g < n ∧ g ∉ S) : IRow w' ao g zs := by
  rcases hr with h0 | ⟨o, rfl, hc⟩
  · exact .inl h0
  · by_cases hs : zs = []
    · exact .inl hs
    · exact .inr ⟨o, rfl, fun j hj => (World.cell?_of_block (h.block g (hg hs).1 (hg hs).2)).trans (hc j hj)⟩
theorem ZArg.kq {S : List Nat} {n : Nat} {w w' : World} (h : Kq S n w w') {v : Value} {g : Nat} {zs : List Int} (hr : ZArg w v g zs) (hg : zs ≠ [] → g < n ∧ g ∉ S) : ZArg w' v g zs := by
  obtain ⟨⟨ao, c, h1, h2, h3, h4, h5⟩, hb⟩ := hr
  exact ⟨⟨ao, c, h1, h2, h3, h4, h5.kq h hg⟩, hb⟩
set_option maxRecDepth 100000 in
set_option maxHeartbeats 2000000 in
theorem index_any (v : Value) (g : Nat) (zs : List Int) (z : Int) (w : World) (hA : ZArg w v g zs) :
    Calls Tryz.prog 125 #[v, .int .i64 z] w fun e w' => ∃ r : Int, e = .returned (.int .i64 r) ∧ w' = w ∧ ((r = -1 ∧ z ∉ zs) ∨ (0 ≤ r ∧ z ∈ zs)) := by
  obtain ⟨⟨ao, c, rfl, hc1, hc2, hnil, hr⟩, hbd⟩ := hA
  have HR := hide hr
  obtain ⟨n, hn⟩ : ∃ n, zs.length = n := ⟨_, rfl⟩
  rw [hn] at hc1 ⊢
  have HN := hide hn
  have hnm : (n : Int) ≤ 9223372036854775807 := by unfold maxLen at hc2; omega
  clear hr hnil hn hbd
  go_enter Tryz.func125, Tryz.ntmps125
  go_wp2_with fail
  go_loop [8] (fun p => ∃ i : Nat, p = .int .i64 i ∧ i ≤ n ∧ z ∉ zs.take i) (fun p => n - (intOf p).toNat)
  case atStart => exact ⟨0, rfl, by omega, by simp⟩
  case round =>
    obtain ⟨i, rfl, hi, hz⟩ := hrel
    have HZ := hide hz
    clear hz
    by_cases hlt : i < n
    · have hi1 : (i : Int) < (n : Int) := by omega
      obtain ⟨o, rfl, hcl⟩ := irow_some' (unhide HR) (by rw [unhide HN]; omega)
      have hc := hcl i (by rw [unhide HN]; exact hlt)
      have HM : Hid (zs.getD i 0 ∈ zs) := getD_mem (by rw [unhide HN]; exact hlt)
      have HT : Hid (zs.getD i 0 ≠ z → z ∉ zs.take (i + 1)) := fun hne h => by
        rcases (take_getD (by rw [unhide HN]; exact hlt) z).1 h with h | h
        · exact unhide HZ h
        · exact hne h
      obtain ⟨y, hy⟩ : ∃ y, zs.getD i 0 = y := ⟨_, rfl⟩
      rw [hy] at hc HM HT
      clear hcl hy
      by_cases he : z = y
      · have he1 : (z == y) = true := by rw [he]; simp
        have HE := hide he
        clear he
        go_wp2_with fail
        go_ret
        exact ⟨i, rfl, rfl, .inr ⟨by omega, by rw [unhide HE]; exact unhide HM⟩⟩
      · have he1 : (z == y) = false := by rw [beq_eq_false_iff_ne]; exact he
        have HE := hide he
        clear he
        go_wp2_with fail
        go_round
        case rel => exact ⟨i + 1, by go_num, by omega, unhide HT (fun h => unhide HE h.symm)⟩
        case measure => simp [intOf]; omega
    · have hi2 : i = n := by omega
      subst hi2
      go_wp2
      go_ret
      exact ⟨-1, rfl, rfl, .inl ⟨rfl, by have h := unhide HZ; rwa [← unhide HN, List.take_length] at h⟩⟩

set_option maxHeartbeats 1000000 in
theorem contains_any (v : Value) (g : Nat) (zs : List Int) (z : Int) (w : World) (hA : ZArg w v g zs) :
    Calls Tryz.prog 91 #[v, .int .i64 z] w fun e w' => e = .returned (.bool (decide (z ∈ zs))) ∧ w' = w := by
  obtain ⟨ao, c, hv, _⟩ := hA.ex
  have HA := hide hA
  subst hv
  clear hA
  go_enter Tryz.func91, Tryz.ntmps91
  go_wp2_with fail
  refine (index_any _ g zs z w (unhide HA)).mono ?_
  rintro e w' ⟨r, rfl, rfl, h⟩
  rcases h with ⟨hr, hz⟩ | ⟨hr, hz⟩
  · subst hr
    have hd : decide (z ∈ zs) = false := by simpa using hz
    have HD := hide hd
    clear hd hz
    go_wp2
    go_ret
    rw [unhide HD]
    exact ⟨rfl, rfl⟩
  · have hd : decide (z ∈ zs) = true := by simpa using hz
    have HD := hide hd
    clear hd hz
    go_wp2
    go_ret
    rw [unhide HD]
    exact ⟨rfl, rfl⟩

/-- At ao lie slices: of row i the address, length and capacity. -/
def VRow (w : World) (ao : Option Addr) (G : Nat) (A : Nat → Option Addr) (Ln C : Nat → Nat) (N : Nat) : Prop :=
  N = 0 ∨ ∃ o, ao = some ⟨G, o, none⟩ ∧ ∀ j, j < N → w.cell? ⟨G, o + j, none⟩ = some (.slice (A j) (Ln j) (C j))
theorem VRow.below {w w' : World} (h : Below w.heap.size w w') {ao : Option Addr} {G N : Nat} {A : Nat → Option Addr} {Ln C : Nat → Nat} (hr : VRow w ao G A Ln C N) : VRow w' ao G A Ln C N := by
  rcases hr with h0 | ⟨o, rfl, hc⟩
  · exact .inl h0
  · exact .inr ⟨o, rfl, fun j hj => (h.cell (block_lt_of_cell (hc j hj))).trans (hc j hj)⟩
theorem VRow.kq {S : List Nat} {n : Nat} {w w' : World} (h : Kq S n w w') {ao : Option Addr} {G N : Nat} {A : Nat → Option Addr} {Ln C : Nat → Nat} (hr : VRow w ao G A Ln C N) (hg : 0 < N → G < n ∧ G ∉ S) : VRow w' ao G A Ln C N := by
  rcases hr with h0 | ⟨o, rfl, hc⟩
  · exact .inl h0
  · by_cases hs : 0 < N
    · exact .inr ⟨o, rfl, fun j hj => (World.cell?_of_block (h.block G (hg hs).1 (hg hs).2)).trans (hc j hj)⟩
    · exact .inl (by omega)
theorem VRow.at {w : World} {ao : Option Addr} {G N : Nat} {A : Nat → Option Addr} {Ln C : Nat → Nat} (hr : VRow w ao G A Ln C N) (hN : 0 < N) : ∃ o, ao = some ⟨G, o, none⟩ ∧ ∀ j, j < N → w.cell? ⟨G, o + j, none⟩ = some (.slice (A j) (Ln j) (C j)) := by
  rcases hr with h | h
  · omega
  · exact h
theorem VRow.lt {w : World} {ao : Option Addr} {G N : Nat} {A : Nat → Option Addr} {Ln C : Nat → Nat} (hr : VRow w ao G A Ln C N) (hN : 0 < N) : G < w.heap.size := by
  obtain ⟨o, _, hc⟩ := hr.at hN
  exact block_lt_of_cell (hc 0 hN)

/-- The slice v holds the rows l. -/
structure RArg (w : World) (v : Value) (G : Nat) (A : Nat → Option Addr) (C : Nat → Nat) (l : List (List Nat)) : Prop where
  ex : ∃ ao c, v = .slice ao l.length c ∧ l.length ≤ c ∧ c ≤ maxLen ∧ (ao = none → c = 0) ∧ VRow w ao G A (fun i => (l.getD i []).length) C l.length
  rows : ∀ i, i < l.length → ∃ g, Arg w (.slice (A i) (l.getD i []).length (C i)) g (l.getD i [])
theorem RArg.below {w w' : World} {v : Value} {G : Nat} {A : Nat → Option Addr} {C : Nat → Nat} {l : List (List Nat)} (h : RArg w v G A C l) (k : Below w.heap.size w w') : RArg w' v G A C l := by
  obtain ⟨⟨ao, c, h1, h2, h3, h4, h5⟩, hb⟩ := h
  exact ⟨⟨ao, c, h1, h2, h3, h4, h5.below k⟩, fun i hi => by obtain ⟨g, hg⟩ := hb i hi; exact ⟨g, hg.below k⟩⟩
theorem RArg.bs {w : World} {v : Value} {G : Nat} {A : Nat → Option Addr} {C : Nat → Nat} {l : List (List Nat)} (h : RArg w v G A C l) (i : Nat) : Bs (l.getD i []) := by
  by_cases hi : i < l.length
  · obtain ⟨g, hg⟩ := h.rows i hi
    exact hg.bs
  · rw [List.getD_eq_getElem?_getD, List.getElem?_eq_none (by omega)]
    exact Bs.nil

set_option maxHeartbeats 1000000 in
theorem all_any5 (v : Value) (w : World) (hv : ∃ ao n c, v = .slice ao n c) : Calls Tryz.prog 56 #[v] w fun e w' =>
    e = .returned (.func (.func 90) #[] #[.pointer (some ⟨w.heap.size, 0, none⟩)]) ∧ w'.cell? ⟨w.heap.size, 0, none⟩ = some v ∧ w.heap.size < w'.heap.size ∧ Below w.heap.size w w' := by
  obtain ⟨ao, n, c, rfl⟩ := hv
  go_enter Tryz.func56, Tryz.ntmps56
  go_wp2
  go_ret
  exact ⟨rfl, (cell_new' w _ _).1, by simp, (Below.refl _ w).alloc (Nat.le_refl _) _⟩

/-- A row's number that K keeps. -/
abbrev It5 (N : Nat) (K : Nat → Bool) := { i : Nat // i < N ∧ K i = true }

/-- The iterator's word: the rows that K keeps, by their numbers. -/
structure Seq5 (gf : Nat) (lb : Array Value) (N : Nat) (A : Nat → Option Addr) (Ln C : Nat → Nat) (K : Nat → Bool) (w : World) : Prop where
  enters : ∀ args W, (callFunc gf args).run Tryz.prog W = .ok (.enter gf args) W
  seq : ∀ (W : World) (S : List Nat) (n₀ : Nat), Below w.heap.size w W → (∀ s ∈ S, w.heap.size ≤ s) → w.heap.size ≤ n₀ →
    SeqStopsK Fence.wide 2 Tryz.prog gf lb (fun x : It5 N K => #[Value.int .i64 x.val, Value.slice (A x.val) (Ln x.val) (C x.val)]) (Kq S n₀) (fun ys => ys.map Subtype.val = (List.range N).filter K) (fun _ => True) N W

theorem Seq5.below {gf : Nat} {lb : Array Value} {N : Nat} {A : Nat → Option Addr} {Ln C : Nat → Nat} {K : Nat → Bool} {w w' : World} (h : Seq5 gf lb N A Ln C K w) (k : Below w.heap.size w w') : Seq5 gf lb N A Ln C K w' :=
  ⟨h.enters, fun W S n₀ h1 h2 h3 => h.seq W S n₀ (k.trans (h1.mono k.size)) (fun s hs => Nat.le_trans k.size (h2 s hs)) (Nat.le_trans k.size h3)⟩

set_option maxRecDepth 100000 in
set_option maxHeartbeats 4000000 in
theorem all_in5 (S : List Nat) (n l B n₀ : Nat) (ao : Option Addr) (G N c : Nat) (A : Nat → Option Addr) (Ln C : Nat → Nat) (hNc : N ≤ 281474976710656) (J Jx : List (It5 N (fun _ => true)) → World → Prop)
    (hY : ∀ pre (x : It5 N (fun _ => true)) W, J pre W → pre.length < N → YieldAt Fence.wide (n - 1) Tryz.prog l #[.int .i64 x.val, .slice (A x.val) (Ln x.val) (C x.val)] W fun e W' =>
      (e = .returned (.bool true) ∧ J (pre ++ [x]) W' ∧ Kq S n₀ W W') ∨ (e = .returned (.bool false) ∧ Jx (pre ++ [x]) W'))
    (W : World) (hcap : W.cell? ⟨B, 0, none⟩ = some (.slice ao N c)) (hrow : VRow W ao G A Ln C N) (hg : 0 < N → G < n₀ ∧ G ∉ S) (h0 : J [] W) :
    CallsIn Fence.wide n Tryz.prog 90 #[.func (.yield l) #[] #[], .pointer (some ⟨B, 0, none⟩)] W fun e W' => (∃ v, e = .returned v) ∧
      ((∃ ys, ys.map Subtype.val = List.range N ∧ J ys W') ∨ (∃ pre, True ∧ Jx pre W')) := by
  have HR := hide hrow
  clear hrow
  refine callsIn_of_wp Tryz.func90 rfl trivial ?_ rfl
  simp only [Tryz.ntmps90, List.size_toArray, List.length_cons, List.length_nil, Nat.reduceAdd, Nat.reduceSub, Array.replicate_succ, Array.replicate_zero, List.push_toArray, List.append_toArray, List.nil_append, List.cons_append]
  gi_wp2
  gi_loopw [7] (fun q wr => ∃ (pre : List (It5 N (fun _ => true))) (i : Nat), q = .int .i64 i ∧ i ≤ N ∧ pre.map Subtype.val = List.range i ∧ J pre wr ∧ VRow wr ao G A Ln C N) (fun q _ => N - (intOf q).toNat)
  case atStart => exact ⟨[], 0, rfl, by omega, rfl, h0, unhide HR⟩
  case round =>
    obtain ⟨pre, i, rfl, hi, hp, hJ1, hr1⟩ := hrel
    have hl : pre.length = i := by have := congrArg List.length hp; simpa using this
    have HP := hide hp
    have HR1 := hide hr1
    have HL := hide hl
    clear hp hr1 hl
    by_cases hlt : i < N
    · have hi1 : (i : Int) < (N : Int) := by omega
      obtain ⟨o, rfl, hcl⟩ := (unhide HR1).at (by omega)
      have hc := hcl i hlt
      clear hcl
      obtain ⟨fn, tmps, assign, body, hy1, hR⟩ := hY pre ⟨i, hlt, rfl⟩ wr hJ1 (by rw [unhide HL]; exact hlt)
      dsimp only at hy1
      have HP' : Hid ((pre ++ [(⟨i, hlt, rfl⟩ : It5 N (fun _ => true))]).map Subtype.val = List.range (i + 1)) := by show _ = _; rw [List.map_append, unhide HP, List.range_succ]; rfl
      gi_wp2
      refine ⟨fun h => absurd h (by simp [Fence.wide]), hR.mono ?_⟩
      rintro e W3 (⟨rfl, hJ3, hk3⟩ | ⟨rfl, hJx3⟩)
      · have HR3 := hide ((unhide HR1).kq hk3 hg)
        gi_wp2
        go_roundw
        case rel => exact ⟨pre ++ [(⟨i, hlt, rfl⟩ : It5 N (fun _ => true))], i + 1, by go_num, by omega, unhide HP', hJ3, unhide HR3⟩
        case measure => simp [intOf]; omega
      · gi_wp2
        refine bodyPost_ret (results_none rfl _ _ _) rfl ?_
        exact ⟨⟨_, rfl⟩, .inr ⟨pre ++ [⟨i, hlt, rfl⟩], trivial, hJx3⟩⟩
    · have hi2 : i = N := by omega
      subst hi2
      gi_wp2
      go_end0
      exact ⟨⟨_, rfl⟩, .inl ⟨pre, unhide HP, hJ1⟩⟩

theorem all_seq {w : World} {B G N c : Nat} {ao : Option Addr} {A : Nat → Option Addr} {Ln C : Nat → Nat} (hNc : N ≤ 281474976710656) (hcap : w.cell? ⟨B, 0, none⟩ = some (.slice ao N c)) (hrow : VRow w ao G A Ln C N) :
    Seq5 90 #[.pointer (some ⟨B, 0, none⟩)] N A Ln C (fun _ => true) w := by
  refine ⟨enters_of Tryz.func90 (by kernel_rfl) rfl, fun W S n₀ hW hS hn l J Jx W2 hW2 _ _ hY h0 => ?_⟩
  have hb : Below w.heap.size w W2 := hW.trans (hW2.mono hW.size)
  refine (all_in5 S 2 l B n₀ ao G N c A Ln C hNc J Jx hY W2 ((hb.cell (p := ⟨B, 0, none⟩) (block_lt_of_cell hcap)).trans hcap) (hrow.below hb) (fun h => ⟨Nat.lt_of_lt_of_le (hrow.lt h) hn, fun hm => absurd (hS G hm) (by have := hrow.lt h; omega)⟩) h0).mono ?_
  rintro e W' ⟨he, h⟩
  refine ⟨he, h.imp (fun ⟨ys, h1, h2⟩ => ⟨ys, by show _ = _; rw [h1]; exact (List.filter_eq_self.2 (fun _ _ => rfl)).symm, h2⟩) (fun ⟨pre, _, h⟩ => ⟨pre, trivial, h⟩)⟩

set_option maxHeartbeats 1000000 in
theorem kept_any (v u : Value) (w : World) (hv : ∃ ao n c, v = .slice ao n c) (hu : ∃ ao n c, u = .slice ao n c) : Calls Tryz.prog 60 #[v, u] w fun e w' =>
    e = .returned (.func (.func 92) #[] #[.pointer (some ⟨w.heap.size, 0, none⟩), .pointer (some ⟨w.heap.size + 1, 0, none⟩)]) ∧ w'.cell? ⟨w.heap.size, 0, none⟩ = some v ∧ w'.cell? ⟨w.heap.size + 1, 0, none⟩ = some u ∧ w.heap.size + 1 < w'.heap.size ∧ Below w.heap.size w w' := by
  obtain ⟨ao, n, c, rfl⟩ := hv
  obtain ⟨bo, m, d, rfl⟩ := hu
  go_enter Tryz.func60, Tryz.ntmps60
  go_wp2
  go_ret
  refine ⟨by simp, ?_, ?_, by simp, ((Below.refl _ w).alloc (Nat.le_refl _) _).alloc (by simp) _⟩
  · exact (World.cell?_of_block (Below.heap_alloc _ _ _ (by simp))).trans (cell_new' w _ _).1
  · have := (cell_new' (w.alloc (.cells #[.slice ao n c] 26)) (.slice bo m d) 23).1
    rw [World.size_alloc] at this
    exact this

/-- The rows that are not lost. -/
def keep (zs : List Int) (i : Nat) : Bool := !decide ((i : Int) ∈ zs)

set_option maxRecDepth 100000 in
set_option maxHeartbeats 4000000 in
theorem kept_in (S : List Nat) (n l B B2 n₀ : Nat) (ao : Option Addr) (G N c : Nat) (A : Nat → Option Addr) (Ln C : Nat → Nat) (u : Value) (gz : Nat) (zs : List Int) (hNc : N ≤ 281474976710656) (J Jx : List (It5 N (keep zs)) → World → Prop)
    (hY : ∀ pre (x : It5 N (keep zs)) W, J pre W → pre.length < N → YieldAt Fence.wide (n - 1) Tryz.prog l #[.int .i64 x.val, .slice (A x.val) (Ln x.val) (C x.val)] W fun e W' =>
      (e = .returned (.bool true) ∧ J (pre ++ [x]) W' ∧ Kq S n₀ W W') ∨ (e = .returned (.bool false) ∧ Jx (pre ++ [x]) W'))
    (W : World) (hcap : W.cell? ⟨B, 0, none⟩ = some (.slice ao N c)) (hcap2 : W.cell? ⟨B2, 0, none⟩ = some u) (hz : ZArg W u gz zs) (hrow : VRow W ao G A Ln C N) (hg : 0 < N → G < n₀ ∧ G ∉ S) (hg2 : zs ≠ [] → gz < n₀ ∧ gz ∉ S) (hB2 : B2 < n₀ ∧ B2 ∉ S) (h0 : J [] W) :
    CallsIn Fence.wide n Tryz.prog 92 #[.func (.yield l) #[] #[], .pointer (some ⟨B, 0, none⟩), .pointer (some ⟨B2, 0, none⟩)] W fun e W' => (∃ v, e = .returned v) ∧
      ((∃ ys, ys.map Subtype.val = (List.range N).filter (keep zs) ∧ J ys W') ∨ (∃ pre, True ∧ Jx pre W')) := by
  have HR := hide hrow
  have HZ := hide hz
  have HC2 := hide hcap2
  obtain ⟨bo, d, hu, _⟩ := hz.ex
  subst hu
  clear hrow hz hcap2
  refine callsIn_of_wp Tryz.func92 rfl trivial ?_ rfl
  simp only [Tryz.ntmps92, List.size_toArray, List.length_cons, List.length_nil, Nat.reduceAdd, Nat.reduceSub, Array.replicate_succ, Array.replicate_zero, List.push_toArray, List.append_toArray, List.nil_append, List.cons_append]
  gi_wp2
  clear hcap
  gi_loopw [8] (fun q wr => ∃ (pre : List (It5 N (keep zs))) (i : Nat), q = .int .i64 i ∧ i ≤ N ∧ pre.map Subtype.val = (List.range i).filter (keep zs) ∧ J pre wr ∧ VRow wr ao G A Ln C N ∧ ZArg wr (.slice bo zs.length d) gz zs ∧ wr.cell? ⟨B2, 0, none⟩ = some (.slice bo zs.length d)) (fun q _ => N - (intOf q).toNat)
  case atStart => exact ⟨[], 0, rfl, by omega, rfl, h0, unhide HR, unhide HZ, unhide HC2⟩
  case round =>
    obtain ⟨pre, i, rfl, hi, hp, hJ1, hr1, hz1, hc2⟩ := hrel
    have hl : pre.length ≤ i := by have := congrArg List.length hp; simp only [List.length_map] at this; rw [this]; exact Nat.le_trans (List.length_filter_le _ _) (by simp)
    have HP := hide hp
    have HR1 := hide hr1
    have HL := hide hl
    have HZ1 := hide hz1
    clear hp hr1 hl hz1
    by_cases hlt : i < N
    · have hi1 : (i : Int) < (N : Int) := by omega
      obtain ⟨o, rfl, hcl⟩ := (unhide HR1).at (by omega)
      have hc := hcl i hlt
      clear hcl
      have HC2w := hide hc2
      gi_wp2
      refine ⟨trivial, fun h => absurd h (by simp [Fence.wide]), (callsIn_wide.2 (contains_any _ gz zs (i : Int) wr (unhide HZ1))).mono ?_⟩
      rintro e w' ⟨rfl, rfl⟩
      by_cases hin : (i : Int) ∈ zs
      · have hd : decide ((i : Int) ∈ zs) = true := by simpa using hin
        have HP' : Hid (pre.map Subtype.val = (List.range (i + 1)).filter (keep zs)) := by show _ = _; rw [unhide HP, List.range_succ, List.filter_append]; simp [keep, hd]
        rw [hd]
        clear hd hin
        gi_wp2
        refine ⟨fun _ h => (by cases h), ?_⟩
        gi_wp2
        go_roundw
        case rel => exact ⟨pre, i + 1, by go_num, by omega, unhide HP', hJ1, unhide HR1, unhide HZ1, unhide HC2w⟩
        case measure => simp [intOf]; omega
      · have hd : decide ((i : Int) ∈ zs) = false := by simpa using hin
        have HKi : Hid (keep zs i = true) := by show _ = _; simp [keep, hd]
        have HP' : Hid ((pre ++ [(⟨i, hlt, unhide HKi⟩ : It5 N (keep zs))]).map Subtype.val = (List.range (i + 1)).filter (keep zs)) := by show _ = _; rw [List.map_append, unhide HP, List.range_succ, List.filter_append]; simp [keep, hd]
        rw [hd]
        clear hd hin
        obtain ⟨fn, tmps, assign, body, hy1, hR⟩ := hY pre ⟨i, hlt, unhide HKi⟩ w' hJ1 (by have := unhide HL; omega)
        dsimp only at hy1
        gi_wp2
        refine ⟨fun h => absurd h (by simp [Fence.wide]), hR.mono ?_⟩
        rintro e W3 (⟨rfl, hJ3, hk3⟩ | ⟨rfl, hJx3⟩)
        · have HR3 := hide ((unhide HR1).kq hk3 hg)
          have HZ3 := hide ((unhide HZ1).kq hk3 hg2)
          have HC3 := hide (hk3.cell (unhide HC2w) hB2.1 hB2.2)
          gi_wp2
          go_roundw
          case rel => exact ⟨pre ++ [(⟨i, hlt, unhide HKi⟩ : It5 N (keep zs))], i + 1, by go_num, by omega, unhide HP', hJ3, unhide HR3, unhide HZ3, unhide HC3⟩
          case measure => simp [intOf]; omega
        · gi_wp2
          refine bodyPost_ret (results_none rfl _ _ _) rfl ?_
          exact ⟨⟨_, rfl⟩, .inr ⟨pre ++ [⟨i, hlt, unhide HKi⟩], trivial, hJx3⟩⟩
    · have hi2 : i = N := by omega
      subst hi2
      gi_wp2
      go_end0
      exact ⟨⟨_, rfl⟩, .inl ⟨pre, unhide HP, hJ1⟩⟩

theorem kept_seq {w : World} {B B2 G N c gz : Nat} {ao : Option Addr} {A : Nat → Option Addr} {Ln C : Nat → Nat} {u : Value} {zs : List Int} (hNc : N ≤ 281474976710656) (hcap : w.cell? ⟨B, 0, none⟩ = some (.slice ao N c)) (hcap2 : w.cell? ⟨B2, 0, none⟩ = some u)
    (hz : ZArg w u gz zs) (hrow : VRow w ao G A Ln C N) : Seq5 92 #[.pointer (some ⟨B, 0, none⟩), .pointer (some ⟨B2, 0, none⟩)] N A Ln C (keep zs) w := by
  refine ⟨enters_of Tryz.func92 (by kernel_rfl) rfl, fun W S n₀ hW hS hn l J Jx W2 hW2 _ _ hY h0 => ?_⟩
  have hb : Below w.heap.size w W2 := hW.trans (hW2.mono hW.size)
  exact kept_in S 2 l B B2 n₀ ao G N c A Ln C u gz zs hNc J Jx hY W2 ((hb.cell (p := ⟨B, 0, none⟩) (block_lt_of_cell hcap)).trans hcap) ((hb.cell (p := ⟨B2, 0, none⟩) (block_lt_of_cell hcap2)).trans hcap2) (hz.below hb) (hrow.below hb)
    (fun h => ⟨Nat.lt_of_lt_of_le (hrow.lt h) hn, fun hm => absurd (hS G hm) (by have := hrow.lt h; omega)⟩) (fun h => ⟨Nat.lt_of_lt_of_le (hz.lt h) hn, fun hm => absurd (hS gz hm) (by have := hz.lt h; omega)⟩)
    ⟨Nat.lt_of_lt_of_le (block_lt_of_cell hcap2) hn, fun hm => absurd (hS B2 hm) (by have := block_lt_of_cell hcap2; simp at this; omega)⟩ h0

end Go.Proofs.YtjdikhelabibnabGreat
