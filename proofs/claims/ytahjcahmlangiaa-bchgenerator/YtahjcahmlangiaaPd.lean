/-
  poly.Div.
-/
import Derived.Test.YtahjcahmlangiaaSu
namespace Go.Proofs.Ytahjcahmlangiaa
open Go.RowKit Go.Shelf
attribute [local go_sem] Oper.semAt_some

set_option maxRecDepth 100000 in
set_option maxHeartbeats 4000000 in
theorem div_nought (va vb : Value) (ga gb : Nat) (a b : List Nat) (w : World) (hA : Arg w va ga a) (hB : Arg w vb gb b) (h : trim b = []) :
    Calls Try.prog 25 #[va, vb] w fun e w' => e = .returned (.tuple #[.slice none 0 0, .slice none 0 0, .bool false]) ∧ Below w.heap.size w w' := by
  obtain ⟨⟨ao, c, rfl, hc1, hc2, hnil, hr⟩, hbs⟩ := hA
  obtain ⟨⟨bo, d, rfl, hd1, hd2, hnil2, hr2⟩, hbs2⟩ := hB
  have HR2 := hide hr2
  have HN2 := hide hnil2
  clear hr hr2 hnil hnil2
  have hl : (trim b).length = 0 := by rw [h]; rfl
  clear h
  have HK : Hid (∀ W : World, Kp [] w W → Row W bo gb (ints b)) := fun W hW => (unhide HR2).keep hW (by simp)
  go_enter Try.func25, Try.ntmps25
  go_wp2_with fail
  refine (numbers_any _ _).mono ?_
  rintro e w1 ⟨rfl, rfl⟩
  go_wp2_with fail
  refine (trimmed_any bo gb b.length d b _ rfl (unhide HK _ ((Kp.refl [] w).alloc _)) hd1 hd2 (unhide HN2)).mono ?_
  rintro e w1 ⟨rfl, rfl⟩
  rw [hl]
  go_wp2
  go_returns
  exact ⟨rfl, ((Below.refl _ w).alloc (Nat.le_refl _) _).alloc (by simp) _⟩

theorem results_div {P : Program} {fn : Func} {p u v : Tmp} {ty : TypeId} (h : fn.results = #[.cell p ty, .tmp u, .tmp v]) (tmps : Array Value) (w : World) (ad : Addr) (x : Value) (hp : tmps.getD p undef = .pointer (some ad)) (hl : (loadVar ty ad).run P w = .ok x w) :
    (results fn tmps).run P w = .ok (.tuple #[x, tmps.getD u undef, tmps.getD v undef]) w := by
  rw [Array.getD_eq_getD_getElem?] at hp
  simp only [results, h]
  simp [Result.andThen, hp, asAddr, hl]

theorem load_slice (w : World) (ad : Addr) (x : Value) (hc : w.cell? ad = some x) : (loadVar 22 ad).run Try.prog w = .ok x w := by
  have hu := Try.underlying22
  simp [loadVar, isAgg, run_underlying hu, run_load, hc]

theorem kp_two {g h : Nat} {w w' : World} {s r : List Nat} (k : Kp [g] w w') (hb : Blk w g s) (w'' : World) (k2 : Kp [h] w' w'') (hb2 : Blk w' h r) : KeepsOthers w w'' ∧ Kp [g, h] w w'' :=
  ⟨(keeps_of_kp k hb).trans (keeps_of_kp k2 hb2), (k.mono (S' := [g, h]) (by simp)).trans k2 (by simp)⟩

set_option maxRecDepth 100000 in
set_option maxHeartbeats 8000000 in
theorem div_big (va vb : Value) (ga gb : Nat) (a b : List Nat) (w : World) (hA : Arg w va ga a) (hB : Arg w vb gb b) (ha : a.length ≤ 100000) (hb : b.length ≤ 100000) (t : Nat) (ht : (trim b).length = t + 1) (hMt : t < (trim a).length) (N : Nat) (hN1 : N + t ≤ (trim a).length) (hN2 : (trim a).length ≤ N + t) :
    Calls Try.prog 25 #[va, vb] w fun e w' => ∃ v1 v2 q r, e = .returned (.tuple #[v1, v2, .bool true]) ∧ IsDiv a b q r ∧ Fr w.heap.size w' v1 q ∧ Fr w.heap.size w' v2 r ∧ Below w.heap.size w w' := by
  have HA := hide hA
  obtain ⟨⟨ao, c, rfl, hc1, hc2, hnil, hr⟩, hbs⟩ := hA
  obtain ⟨⟨bo, d, rfl, hd1, hd2, hnil2, hr2⟩, hbs2⟩ := hB
  have hla := trim_len a
  have hlb := trim_len b
  have hgb : gb < w.heap.size := hr2.block_lt (by intro e; rw [e] at ht; simp [trim] at ht)
  obtain ⟨bx, rfl⟩ := row_some hr2 (by omega)
  have HR2 := hide hr2
  have HNL2 := hide hnil2
  have HT := hide ht
  have htb : t < 100000 := by omega
  obtain ⟨M, hM⟩ : ∃ M, (trim a).length = M := ⟨_, rfl⟩
  have hMb : M ≤ 100000 := by omega
  rw [hM] at hMt hN1 hN2
  have HM := hide hM
  obtain ⟨y, hy⟩ : ∃ y, cf (trim b) t = y := ⟨_, rfl⟩
  have hyl : y < 256 := by rw [← hy]; exact hbs2.trim t
  obtain ⟨inv, hinv⟩ : ∃ inv, pw y (-1) = inv := ⟨_, rfl⟩
  have hil : inv < 256 := by rw [← hinv]; exact pw_lt _ _
  have HI := hide hinv
  have HY := hide hy
  clear hr hr2 hnil hnil2 hla hlb hM hinv hy
  have hb0 : ((t : Int) + 1 == 0) = false := by rw [beq_eq_false_iff_ne]; omega
  obtain ⟨zs, hzs⟩ : ∃ zs, (List.replicate N (Value.int .u8 0)).toArray = zs := ⟨_, rfl⟩
  have hmx : (0 : Int) < (M : Int) - (t : Int) := by omega
  have hmk : ∀ W : World, (Instr.makeSlice 22 (.int .i64 ((M : Int) - (t : Int))) (.int .i64 ((M : Int) - (t : Int)))).run Try.prog W = .ok (.slice (some ⟨W.heap.size, 0, none⟩) N N) (W.alloc (.cells zs 5)) := fun W => by
    have h := run_zeros N (by omega) W
    rw [show ((N : Nat) : Int) = (M : Int) - (t : Int) from by omega, hzs] at h
    exact h
  have HZ : Hid (∀ W : World, Blk (W.alloc (.cells zs 5)) W.heap.size (List.replicate N 0)) := fun W => by rw [← hzs]; exact blk_zeros _ W
  clear hzs
  refine (callsIn_wide (n := 3)).1 ?_
  refine callsIn_of_wp_marks Try.func25 rfl trivial ?_ rfl
  simp only [Try.ntmps25, List.size_toArray, List.length_cons, List.length_nil, Nat.reduceAdd, Nat.reduceSub, Array.replicate_succ, Array.replicate_zero, List.push_toArray, List.append_toArray, List.nil_append, List.cons_append]
  gi_wp2
  refine ⟨trivial, (callsIn_wide.2 (numbers_any _ _)).mono ?_⟩
  rintro e w0 ⟨rfl, rfl⟩
  gi_wp2
  have HK0 : Hid (Kp [] w (w.alloc (.cells #[.slice none 0 0] 22))) := (Kp.refl [] w).alloc _
  refine ⟨trivial, (callsIn_wide.2 (trimmed_any (some ⟨gb, bx, none⟩) gb b.length d b _ rfl ((unhide HR2).keep (unhide HK0) (by simp)) hd1 hd2 (unhide HNL2))).mono ?_⟩
  rintro e w0 ⟨rfl, rfl⟩
  have HW0 : Hid (Below w.heap.size w ((w.alloc (.cells #[.slice none 0 0] 22)).alloc (.cells #[.slice (some ⟨gb, bx, none⟩) (t + 1) d] 62))) := ((Below.refl _ w).alloc (Nat.le_refl _) _).alloc (by simp) _
  have HC4 : Hid (((w.alloc (.cells #[.slice none 0 0] 22)).alloc (.cells #[.slice (some ⟨gb, bx, none⟩) (t + 1) d] 62)).cell? ⟨w.heap.size, 0, none⟩ = some (.slice none 0 0) ∧ ((w.alloc (.cells #[.slice none 0 0] 22)).alloc (.cells #[.slice (some ⟨gb, bx, none⟩) (t + 1) d] 62)).frozen? ⟨w.heap.size, 0, none⟩ = false) :=
    box_below (cell_new' w (.slice none 0 0) 22) ((Below.refl _ _).alloc (Nat.le_refl _) _) (by simp)
  have HC7 : Hid (((w.alloc (.cells #[.slice none 0 0] 22)).alloc (.cells #[.slice (some ⟨gb, bx, none⟩) (t + 1) d] 62)).cell? ⟨w.heap.size + 1, 0, none⟩ = some (.slice (some ⟨gb, bx, none⟩) (t + 1) d)) := by
    have h := (cell_new' (w.alloc (.cells #[.slice none 0 0] 22)) (.slice (some ⟨gb, bx, none⟩) (t + 1) d) 62).1
    rw [World.size_alloc] at h
    exact h
  rw [ht]
  gi_wp2
  obtain ⟨W0, hW0⟩ : ∃ W0, (w.alloc (.cells #[.slice none 0 0] 22)).alloc (.cells #[.slice (some ⟨gb, bx, none⟩) (t + 1) d] 62) = W0 := ⟨_, rfl⟩
  have hz0 : w.heap.size + 1 < W0.heap.size := by rw [← hW0]; simp
  rw [hW0] at HW0 HC4 HC7 ⊢
  clear hW0
  refine ⟨trivial, (callsIn_wide.2 (trim_any _ ga a W0 ((unhide HA).below (unhide HW0)) ha)).mono ?_⟩
  rintro e w1 ⟨vr, rfl, hFr, hk1⟩
  have hz1 := hk1.size
  have hw1 : Below w.heap.size w w1 := (unhide HW0).trans (hk1.mono (by omega))
  have c4 := box_below (unhide HC4) hk1 (by omega)
  have c7 := (hk1.cell (p := ⟨w.heap.size + 1, 0, none⟩) hz0).trans (unhide HC7)
  have hrb := (unhide HR2).below hw1
  have cb : w1.cell? ⟨gb, bx + t, none⟩ = some (.int .u8 (y : Int)) := by
    have hlb := trim_len b
    have h := row_cell hrb (j := t) (by omega)
    rw [← cf_trim b, unhide HY] at h
    exact h
  have HRB := hide hrb
  have HW1 := hide hw1
  clear hrb hw1
  have hFr' : ∃ gr cr, vr = .slice (some ⟨gr, 0, none⟩) M cr ∧ M ≤ cr ∧ cr ≤ maxLen ∧ Blk w1 gr (trim a) ∧ W0.heap.size ≤ gr := by
    rcases hFr with ⟨h, _⟩ | ⟨gr, cr, h1, h2, h3, h4, h5⟩
    · have hm := unhide HM
      rw [h] at hm
      simp at hm
      omega
    · exact ⟨gr, cr, by rw [← unhide HM]; exact h1, by rw [← unhide HM]; exact h2, h3, h4, h5⟩
  obtain ⟨gr, cr, rfl, hcr1, hcr2, hBr, hgr⟩ := hFr'
  have HBR := hide hBr
  have hgr2 := hBr.lt
  clear hBr hFr
  clear hk1
  gi_wp2
  refine ⟨trivial, (callsIn_wide.2 (numbers_any _ _)).mono ?_⟩
  rintro e w1 ⟨rfl, rfl⟩
  have K3 : ∀ o1 o2 o3, Kp [] w1 (((w1.alloc o1).alloc o2).alloc o3) := fun o1 o2 o3 => (((Kp.refl [] w1).alloc o1).alloc o2).alloc o3
  have K4 : ∀ o1 o2 o3 v, Kp [w.heap.size] w1 ((((w1.alloc o1).alloc o2).alloc o3).setCell ⟨w.heap.size, 0, none⟩ v) := fun o1 o2 o3 v => ((K3 o1 o2 o3).mono (by simp)).setCell _ _ (.inl (by simp))
  have hne7 : w.heap.size + 1 ∉ [w.heap.size] := by simp
  have hneb : gb ∉ [w.heap.size] := by simp; omega
  have q7a : ∀ o, (w1.alloc o).cell? ⟨w.heap.size + 1, 0, none⟩ = some (.slice (some ⟨gb, bx, none⟩) (t + 1) d) := fun o => ((Kp.refl [] w1).alloc o).cell c7 (by simp)
  have q8b : ∀ o, ((w1.alloc (.cells #[.slice (some ⟨gr, 0, none⟩) M cr] 62)).alloc o).cell? ⟨w1.heap.size, 0, none⟩ = some (.slice (some ⟨gr, 0, none⟩) M cr) := fun o => ((Kp.refl [] _).alloc o).cell (cell_new' w1 _ _).1 (by simp)
  have q4c : ∀ o1 o2 o3, (((w1.alloc o1).alloc o2).alloc o3).cell? ⟨w.heap.size, 0, none⟩ = some (.slice none 0 0) := fun o1 o2 o3 => (K3 o1 o2 o3).cell c4.1 (by simp)
  have f4c : ∀ o1 o2 o3, (((w1.alloc o1).alloc o2).alloc o3).frozen? ⟨w.heap.size, 0, none⟩ = false := fun o1 o2 o3 => (World.frozen?_of_block (a := ⟨w.heap.size, 0, none⟩) ((K3 o1 o2 o3).block _ (block_lt_of_cell c4.1) (by simp))).trans c4.2
  have q7d : ∀ o1 o2 o3 v, ((((w1.alloc o1).alloc o2).alloc o3).setCell ⟨w.heap.size, 0, none⟩ v).cell? ⟨w.heap.size + 1, 0, none⟩ = some (.slice (some ⟨gb, bx, none⟩) (t + 1) d) := fun o1 o2 o3 v => (K4 o1 o2 o3 v).cell c7 hne7
  have qbd : ∀ o1 o2 o3 v, ((((w1.alloc o1).alloc o2).alloc o3).setCell ⟨w.heap.size, 0, none⟩ v).cell? ⟨gb, bx + t, none⟩ = some (.int .u8 (y : Int)) := fun o1 o2 o3 v => (K4 o1 o2 o3 v).cell cb hneb
  have q9b : ∀ o1, ((w1.alloc o1).alloc (.cells #[.int .i64 (t : Int)] 3)).cell? ⟨w1.heap.size + 1, 0, none⟩ = some (.int .i64 (t : Int)) := fun o1 => by
    have h := (cell_new' (w1.alloc o1) (.int .i64 (t : Int)) 3).1
    rw [World.size_alloc] at h
    exact h
  have q9d : ∀ o1 o3 v, ((((w1.alloc o1).alloc (.cells #[.int .i64 (t : Int)] 3)).alloc o3).setCell ⟨w.heap.size, 0, none⟩ v).cell? ⟨w1.heap.size + 1, 0, none⟩ = some (.int .i64 (t : Int)) := fun o1 o3 v =>
    (((Kp.refl [w.heap.size] _).alloc o3).setCell ⟨w.heap.size, 0, none⟩ v (.inl (by simp))).cell (q9b o1) (by simp; omega)
  have hin : (t : Int) < (t : Int) + 1 := by omega
  clear K3
  gi_wp2
  have HWD : Hid (Kp [w.heap.size] w1 ((((w1.alloc (.cells #[.slice (some ⟨gr, 0, none⟩) M cr] 62)).alloc (.cells #[.int .i64 (t : Int)] 3)).alloc (.cells zs 5)).setCell ⟨w.heap.size, 0, none⟩ (.slice (some ⟨w1.heap.size + 1 + 1, 0, none⟩) N N))) := K4 _ _ _ _
  have HBQ : Hid (Blk ((((w1.alloc (.cells #[.slice (some ⟨gr, 0, none⟩) M cr] 62)).alloc (.cells #[.int .i64 (t : Int)] 3)).alloc (.cells zs 5)).setCell ⟨w.heap.size, 0, none⟩ (.slice (some ⟨w1.heap.size + 1 + 1, 0, none⟩) N N)) (w1.heap.size + 1 + 1) (List.replicate N 0)) := by
    have h := unhide HZ ((w1.alloc (.cells #[.slice (some ⟨gr, 0, none⟩) M cr] 62)).alloc (.cells #[.int .i64 (t : Int)] 3))
    rw [World.size_alloc, World.size_alloc] at h
    exact h.of (Below.heap_setCell _ _ _ _ (by simp; omega))
  have HC4 : Hid (((((w1.alloc (.cells #[.slice (some ⟨gr, 0, none⟩) M cr] 62)).alloc (.cells #[.int .i64 (t : Int)] 3)).alloc (.cells zs 5)).setCell ⟨w.heap.size, 0, none⟩ (.slice (some ⟨w1.heap.size + 1 + 1, 0, none⟩) N N)).cell? ⟨w.heap.size, 0, none⟩ = some (.slice (some ⟨w1.heap.size + 1 + 1, 0, none⟩) N N) ∧ ((((w1.alloc (.cells #[.slice (some ⟨gr, 0, none⟩) M cr] 62)).alloc (.cells #[.int .i64 (t : Int)] 3)).alloc (.cells zs 5)).setCell ⟨w.heap.size, 0, none⟩ (.slice (some ⟨w1.heap.size + 1 + 1, 0, none⟩) N N)).frozen? ⟨w.heap.size, 0, none⟩ = false) := ⟨World.cell?_setCell_same' _ _ _ (by rw [q4c]; rfl), by rw [World.frozen?_setCell]; exact f4c _ _ _⟩
  have HC7 := hide (q7d (.cells #[.slice (some ⟨gr, 0, none⟩) M cr] 62) (.cells #[.int .i64 (t : Int)] 3) (.cells zs 5) (.slice (some ⟨w1.heap.size + 1 + 1, 0, none⟩) N N))
  have HC8 : Hid (((((w1.alloc (.cells #[.slice (some ⟨gr, 0, none⟩) M cr] 62)).alloc (.cells #[.int .i64 (t : Int)] 3)).alloc (.cells zs 5)).setCell ⟨w.heap.size, 0, none⟩ (.slice (some ⟨w1.heap.size + 1 + 1, 0, none⟩) N N)).cell? ⟨w1.heap.size, 0, none⟩ = some (.slice (some ⟨gr, 0, none⟩) M cr)) := (((Kp.refl [w.heap.size] _).alloc _).setCell ⟨w.heap.size, 0, none⟩ _ (.inl (by simp))).cell (q8b _) (by simp; omega)
  have HC9 := hide (q9d (.cells #[.slice (some ⟨gr, 0, none⟩) M cr] 62) (.cells zs 5) (.slice (some ⟨w1.heap.size + 1 + 1, 0, none⟩) N N))
  have HZD : Hid (((((w1.alloc (.cells #[.slice (some ⟨gr, 0, none⟩) M cr] 62)).alloc (.cells #[.int .i64 (t : Int)] 3)).alloc (.cells zs 5)).setCell ⟨w.heap.size, 0, none⟩ (.slice (some ⟨w1.heap.size + 1 + 1, 0, none⟩) N N)).heap.size = w1.heap.size + 1 + 1 + 1) := by show _ = _; simp [World.setCell]
  clear K4 q7a q8b q4c f4c q7d qbd q9b q9d c4 c7 cb hmk HZ hne7 hneb hin
  obtain ⟨WD, hWD⟩ : ∃ WD, ((((w1.alloc (.cells #[.slice (some ⟨gr, 0, none⟩) M cr] 62)).alloc (.cells #[.int .i64 (t : Int)] 3)).alloc (.cells zs 5)).setCell ⟨w.heap.size, 0, none⟩ (.slice (some ⟨w1.heap.size + 1 + 1, 0, none⟩) N N)) = WD := ⟨_, rfl⟩
  rw [hWD] at HWD HBQ HC4 HC7 HC8 HC9 HZD ⊢
  clear hWD
  have hzD := unhide HZD
  clear HZD
  refine ⟨trivial, (callsIn_wide.2 (inv_any y hyl WD)).mono ?_⟩
  rintro e w2 ⟨rfl, hk2⟩
  rw [unhide HI]
  have hz2 := hk2.size
  have HKE : Hid (Kp [] WD (w2.alloc (.cells #[.int .u8 (inv : Int)] 5))) := ((Kp.refl [] WD).ofBelow hk2).alloc _
  have HC10 : Hid ((w2.alloc (.cells #[.int .u8 (inv : Int)] 5)).cell? ⟨w2.heap.size, 0, none⟩ = some (.int .u8 (inv : Int))) := (cell_new' w2 _ _).1
  have q4e := (unhide HKE).cell (unhide HC4).1 (by simp)
  clear hk2
  gi_wp2
  obtain ⟨WE, hWE⟩ : ∃ WE, w2.alloc (.cells #[.int .u8 (inv : Int)] 5) = WE := ⟨_, rfl⟩
  have hzE : w2.heap.size < WE.heap.size := by rw [← hWE]; simp
  rw [hWE] at HKE HC10 q4e ⊢
  clear hWE
  refine ⟨trivial, (callsIn_wide.2 (back_any _ _ ⟨_, _, _, rfl⟩)).mono ?_⟩
  rintro e w3 ⟨b1, rfl, hcb, hb1, hb2, hk3⟩
  have hz3 := hk3.size
  have hkE := (unhide HKE).ofBelow hk3
  have c4 := hkE.cell (unhide HC4).1 (by simp)
  have f4 := (World.frozen?_of_block (a := ⟨w.heap.size, 0, none⟩) (hkE.block _ (block_lt_of_cell (unhide HC4).1) (by simp))).trans (unhide HC4).2
  have c7 := hkE.cell (unhide HC7) (by simp)
  have c8 := hkE.cell (unhide HC8) (by simp)
  have c9 := hkE.cell (unhide HC9) (by simp)
  have c10 := (hk3.cell (block_lt_of_cell (unhide HC10))).trans (unhide HC10)
  have hBq : Blk w3 (w1.heap.size + 1 + 1) (List.replicate N 0) := (unhide HBQ).of (hkE.block _ (unhide HBQ).lt (by simp))
  have hK13 : Kp [w.heap.size] w1 w3 := (unhide HWD).trans (hkE.mono (S' := []) (by simp)) (by simp)
  have hrb := (unhide HRB).keep hK13 (by simp; omega)
  have hBr : Blk w3 gr (trim a) := (unhide HBR).of (hK13.block _ hgr2 (by simp; omega))
  clear hk3 hkE HWD HBQ HC4 HC7 HC8 HC9 HC10 HKE q4e
  obtain ⟨gq, hgq⟩ : ∃ gq, w1.heap.size + 1 + 1 = gq := ⟨_, rfl⟩
  rw [hgq] at c4 hBq hcb hzD
  gi_wp2
  have hgqw : w1.heap.size + 1 < gq := by omega
  have hgqw2 : gq ≤ w1.heap.size + 1 + 1 := by omega
  clear hgq
  obtain ⟨yy, hyy⟩ : ∃ yy, y = yy := ⟨_, rfl⟩
  rw [hyy]
  refine wpIn_rangeFunc_ownF rfl (by omega) (gf := 64) (lb := #[.pointer (some ⟨b1, 0, none⟩)]) rfl trivial (enters_of Try.func64 (by kernel_rfl) rfl)
    (backU_stops [gq, gr] 2 b1 w3.heap.size gq N N (by omega) w3 hcb (hBq.u (Bs.zeros _) (by simp)) hb2 (by simp; omega))
    (fun h k => h.trans k) (kqU_b (Nat.le_refl _) (by omega)) (Below.refl _ _) (fun _ => rfl)
    (fun pre W => (Blk W gq ((pre.map (fun x => x.1.val)).foldl (divF (trim b) t inv) (List.replicate N 0, trim a)).1 ∧ Blk W gr ((pre.map (fun x => x.1.val)).foldl (divF (trim b) t inv) (List.replicate N 0, trim a)).2) ∧ (W.cell? ⟨w.heap.size, 0, none⟩ = some (.slice (some ⟨gq, 0, none⟩) N N) ∧ W.frozen? ⟨w.heap.size, 0, none⟩ = false ∧ W.cell? ⟨w.heap.size + 1, 0, none⟩ = some (.slice (some ⟨gb, bx, none⟩) (t + 1) d) ∧ W.cell? ⟨w1.heap.size, 0, none⟩ = some (.slice (some ⟨gr, 0, none⟩) M cr) ∧ W.cell? ⟨w1.heap.size + 1, 0, none⟩ = some (.int .i64 (t : Int)) ∧ W.cell? ⟨w2.heap.size, 0, none⟩ = some (.int .u8 (inv : Int))) ∧ Kp [gq, gr] w3 W)
    (fun _ _ _ => False)
    (OwnFrom.and (OwnFrom.and (Own.from (own_blk gq _) _) (Own.from (own_blk gr _) _)) (OwnFrom.and (Own.from (fun s A B row hs hg hr => ⟨cell_kept hs.1 hg hr, (frozen_kept hs.1 hg hr).trans hs.2.1, cell_kept hs.2.2.1 hg hr, cell_kept hs.2.2.2.1 hg hr, cell_kept hs.2.2.2.2.1 hg hr, cell_kept hs.2.2.2.2.2 hg hr⟩) _) (ownFrom_kp (Nat.le_refl _))))
    (fun _ _ _ _ _ hs _ _ => hs)
    ⟨⟨hBq, hBr⟩, ⟨c4, f4, c7, c8, c9, c10⟩, Kp.refl _ _⟩
    (fun y => { tmps := #[.slice ao a.length c, .slice (some ⟨gb, bx, none⟩) b.length d, undef, undef, .pointer (some ⟨w.heap.size, 0, none⟩), .slice none 0 0, .bool false, .pointer (some ⟨w.heap.size + 1, 0, none⟩), .pointer (some ⟨w1.heap.size, 0, none⟩), .pointer (some ⟨w1.heap.size + 1, 0, none⟩), .pointer (some ⟨w2.heap.size, 0, none⟩), .int .i64 y.1.val, .slice (some ⟨gb, bx, none⟩) b.length d, .slice (some ⟨gb, bx, none⟩) b.length d, .slice (some ⟨gb, bx, none⟩) (t + 1) d, .slice (some ⟨gb, bx, none⟩) (t + 1) d, .int .i64 (↑t + 1), .bool false, .slice ao a.length c, .slice (some ⟨gr, 0, none⟩) M cr, .slice (some ⟨gr, 0, none⟩) M cr, .slice (some ⟨gb, bx, none⟩) (t + 1) d, .int .i64 (↑t + 1), .int .i64 ↑t, .slice (some ⟨gr, 0, none⟩) M cr, .int .i64 ↑M, .int .i64 ↑t, .int .i64 (↑M - ↑t), .int .i64 (↑M - ↑t), .slice (some ⟨gq, 0, none⟩) N N, .slice (some ⟨gb, bx, none⟩) (t + 1) d, .int .i64 ↑t, .pointer (some ⟨gb, bx + t, none⟩), .int .u8 ↑yy, .int .u8 ↑inv, .slice (some ⟨gq, 0, none⟩) N N, .func (.func 64) #[] #[.pointer (some ⟨b1, 0, none⟩)], .int .i64 y.1.val, .int .u8 y.2.val, undef, undef, undef, undef, undef, undef, undef, undef, undef, undef, undef, undef, undef, undef, undef, undef, undef, undef, undef, undef, undef, undef, undef], defers := [] }) ?assign ?body ?done ?stop
  case assign =>
    intro l x W K hK
    gi_wp2
    exact hK
  case body =>
    rintro l pre ⟨⟨i, hi⟩, ⟨z, hz⟩⟩ W ⟨⟨hBq, hBr⟩, ⟨h4, hf4, h7, h8, h9, h10⟩, hKW⟩ _
    obtain ⟨qr, hqr⟩ : ∃ qr, ((pre.map (fun x => x.1.val)).foldl (divF (trim b) t inv) (List.replicate N 0, trim a)) = qr := ⟨_, rfl⟩
    have hql : qr.1.length = N := by rw [← hqr, divF_len1]; simp
    have hrl : qr.2.length = M := by rw [← hqr, divF_len2]; exact unhide HM
    have hbs12 : Bs qr.1 ∧ Bs qr.2 := by rw [← hqr]; exact divF_bs hbs2.trim t _ (Bs.zeros _) hbs.trim
    obtain ⟨q, r⟩ := qr
    dsimp only at hql hrl hbs12
    obtain ⟨hbq, hbr⟩ := hbs12
    rw [hqr] at hBq hBr
    dsimp only at hBq hBr
    have HQR := hide hqr
    have HBQ := hide hBq
    have HBR2 := hide hBr
    have H4 := hide h4
    have HF4 := hide hf4
    have H7 := hide h7
    have H8 := hide h8
    have H9 := hide h9
    have H10 := hide h10
    have HKW := hide hKW
    have hzW := hKW.size
    obtain ⟨k, hk⟩ : ∃ k, i + t = k := ⟨_, rfl⟩
    have hwr : IntKind.i64.wrap ((i : Int) + (t : Int)) = (k : Int) := by rw [IntWalk.i64_in _ ⟨by omega, by omega⟩]; omega
    have hk1 : (k : Int) < (M : Int) := by omega
    have HE := hide (hBr.cell (j := k) (by omega))
    have HQC := hide (hBq.cell (j := i) (by omega))
    have hxl := hbr k
    have hk2 : k ≤ i + t := by omega
    have hk3 : i + t ≤ k := by omega
    have HKK := hide hk
    clear hk
    clear hBq hBr h4 hf4 h7 h8 h9 h10 hKW hqr
    obtain ⟨x, hx⟩ : ∃ x, cf r k = x := ⟨_, rfl⟩
    rw [hx] at HE hxl
    have HX := hide hx
    clear hx
    obtain ⟨v, hv⟩ : ∃ v, gmul x inv = v := ⟨_, rfl⟩
    have hvl : v < 256 := by rw [← hv]; exact gmul_lt hxl
    have HV := hide hv
    clear hv
    have hi1 : (i : Int) < (N : Int) := by omega
    gi_wp2
    refine wpIn_region_round (S := fun W' => Kp [gq] W W') (by kernel_rfl) (by kernel_rfl) (fun ⟨_, _, h⟩ => h) ((Kp.refl _ _).drew) (fun hHeld => ?_)
    have HH := hide hHeld
    clear hHeld
    refine takeL (i := 0) (v := ?_) rfl (by kernel_rfl) (by kernel_rfl) (by kernel_rfl) (fun _ _ _ h => h) (Or.inl ⟨by rfl, ?_⟩) (unhide HH) ?_
    rotate_left 1
    · intro W1 hSW; have hc := hSW.cell (unhide H4) (by simp; omega); clear hSW; go_simp; all_goals (with_reducible rfl)
    (try simp only [Act.put, List.setIfInBounds_toArray, List.set_cons_zero, List.set_cons_succ])
    refine takeL (i := 1) (v := ?_) rfl (by kernel_rfl) (by kernel_rfl) (by kernel_rfl) (fun _ _ _ h => h) (Or.inl ⟨by rfl, ?_⟩) (unhide HH) ?_
    rotate_left 1
    · intro W hSW; go_simp; all_goals (with_reducible rfl)
    (try simp only [Act.put, List.setIfInBounds_toArray, List.set_cons_zero, List.set_cons_succ])
    refine takeL (i := 2) (v := ?_) rfl (by kernel_rfl) (by kernel_rfl) (by kernel_rfl) (fun _ _ _ h => h) (Or.inl ⟨by rfl, ?_⟩) (unhide HH) ?_
    rotate_left 1
    · intro W1 hSW; have hc := hSW.cell (unhide H8) (by simp; omega); clear hSW; go_simp; all_goals (with_reducible rfl)
    (try simp only [Act.put, List.setIfInBounds_toArray, List.set_cons_zero, List.set_cons_succ])
    refine takeL (i := 3) (v := ?_) rfl (by kernel_rfl) (by kernel_rfl) (by kernel_rfl) (fun _ _ _ h => h) (Or.inl ⟨by rfl, ?_⟩) (unhide HH) ?_
    rotate_left 1
    · intro W hSW; go_simp; all_goals (with_reducible rfl)
    (try simp only [Act.put, List.setIfInBounds_toArray, List.set_cons_zero, List.set_cons_succ])
    refine takeL (i := 4) (v := ?_) rfl (by kernel_rfl) (by kernel_rfl) (by kernel_rfl) (fun _ _ _ h => h) (Or.inl ⟨by rfl, ?_⟩) (unhide HH) ?_
    rotate_left 1
    · intro W1 hSW; have hc := hSW.cell (unhide H9) (by simp; omega); clear hSW; go_simp; all_goals (with_reducible rfl)
    (try simp only [Act.put, List.setIfInBounds_toArray, List.set_cons_zero, List.set_cons_succ])
    refine takeL (i := 5) (v := ?_) rfl (by kernel_rfl) (by kernel_rfl) (by kernel_rfl) (fun _ _ _ h => h) (Or.inl ⟨by rfl, ?_⟩) (unhide HH) ?_
    rotate_left 1
    · intro W hSW; go_simp; all_goals (with_reducible rfl)
    (try simp only [Act.put, List.setIfInBounds_toArray, List.set_cons_zero, List.set_cons_succ])
    refine takeL (i := 6) (v := ?_) rfl (by kernel_rfl) (by kernel_rfl) (by kernel_rfl) (fun _ _ _ h => h) (Or.inl ⟨by rfl, ?_⟩) (unhide HH) ?_
    rotate_left 1
    · intro W hSW; go_simp; all_goals (with_reducible rfl)
    (try simp only [Act.put, List.setIfInBounds_toArray, List.set_cons_zero, List.set_cons_succ])
    refine takeL (i := 7) (v := ?_) rfl (by kernel_rfl) (by kernel_rfl) (by kernel_rfl) (fun _ _ _ h => h) (Or.inl ⟨by rfl, ?_⟩) (unhide HH) ?_
    rotate_left 1
    · intro W1 hSW; have hc := hSW.cell (unhide HE) (by simp; omega); clear hSW; go_simp; all_goals (with_reducible rfl)
    (try simp only [Act.put, List.setIfInBounds_toArray, List.set_cons_zero, List.set_cons_succ])
    refine takeL (i := 8) (v := ?_) rfl (by kernel_rfl) (by kernel_rfl) (by kernel_rfl) (fun _ _ _ h => h) (Or.inl ⟨by rfl, ?_⟩) (unhide HH) ?_
    rotate_left 1
    · intro W1 hSW; have hc := hSW.cell (unhide H10) (by simp; omega); clear hSW; go_simp; all_goals (with_reducible rfl)
    (try simp only [Act.put, List.setIfInBounds_toArray, List.set_cons_zero, List.set_cons_succ])
    refine wpAnyH_ready (rs := [9]) (by kernel_rfl) (by simp) ?_
    refine consL rfl (fun K hK => ?_) AllReadyH.nil
    go_simp
    refine (mul_any x inv hxl hil _).mono ?_
    rintro e w4 ⟨rfl, hk4⟩
    rw [unhide HV]
    have HB4 : Hid (Below W.heap.size W w4) := (Below.refl _ W).drew.trans hk4
    have HQC4 := hide ((hk4.cell (block_lt_of_cell (unhide HQC))).trans (unhide HQC))
    have HBQ4 := hide ((unhide HBQ).below (unhide HB4) (unhide HBQ).lt)
    clear hk4
    go_wp2_with fail
    refine hK.out _ _ ((Kp.refl [gq] W).ofBelow (unhide HB4)) (fun hHeld => ?_)
    clear hK K HH
    have HH := hide hHeld
    clear hHeld
    (try simp only [Act.put, List.setIfInBounds_toArray, List.set_cons_zero, List.set_cons_succ])
    refine takeL (i := 10) (v := ?_) rfl (by kernel_rfl) (by kernel_rfl) (by kernel_rfl) (fun _ _ _ h => h) (Or.inl ⟨by rfl, ?_⟩) (unhide HH) ?_
    rotate_left 1
    · intro W hSW; go_simp; all_goals (with_reducible rfl)
    (try simp only [Act.put, List.setIfInBounds_toArray, List.set_cons_zero, List.set_cons_succ])
    refine wpAnyH_ready (rs := [11]) (by kernel_rfl) (by simp) ?_
    refine consL rfl (fun K hK => ?_) AllReadyH.nil
    have hf4 : w4.frozen? ⟨gq, i, none⟩ = false := (unhide HBQ4).free
    have hc4 := unhide HQC4
    go_simp
    have HK5 : Hid (Kp [gq] W (w4.setCell ⟨gq, i, none⟩ (.int .u8 (v : Int)))) := ((Kp.refl [gq] W).ofBelow (unhide HB4)).setCell ⟨gq, i, none⟩ _ (.inl (by simp))
    have HBQ5 := hide ((unhide HBQ4).set i v (by omega))
    obtain ⟨W5, hW5⟩ : ∃ W5, w4.setCell ⟨gq, i, none⟩ (.int .u8 (v : Int)) = W5 := ⟨_, rfl⟩
    rw [hW5] at HK5 HBQ5 ⊢
    clear hW5 hf4 hc4
    refine hK.out _ _ (unhide HK5) (fun hHeld => ?_)
    clear hHeld hK K HH
    (try simp only [Act.put, List.setIfInBounds_toArray, List.set_cons_zero, List.set_cons_succ])
    refine wpAnyH_done (by kernel_rfl) ?_ _
    have HR5 := hide ((unhide HBR2).of ((unhide HK5).block gr (unhide HBR2).lt (by simp; omega)))
    have H45 := hide ((unhide HK5).cell (unhide H4) (by simp; omega))
    have H75 := hide ((unhide HK5).cell (unhide H7) (by simp; omega))
    have H85 := hide ((unhide HK5).cell (unhide H8) (by simp; omega))
    have HV5 : Hid (W5.cell? ⟨gq, i, none⟩ = some (.int .u8 (v : Int))) := by
      have h := (unhide HBQ5).cell (j := i) (by simp; omega)
      rw [cf_set _ _ _ _ (by omega), if_pos rfl] at h
      exact h
    have hi3 : (0 : Int) ≤ (i : Int) := by omega
    have hi4 : (i : Int) ≤ (M : Int) := by omega
    have hi5 : (M : Int) ≤ (cr : Int) := by omega
    have hni : ¬ (cr = i) := by omega
    gi_wp2
    refine wpIn_region_round (S := fun W' => Kp [gr] W5 W') (by kernel_rfl) (by kernel_rfl) (fun ⟨_, _, h⟩ => h) ((Kp.refl _ _).drew) (fun hHeld => ?_)
    have HH := hide hHeld
    clear hHeld
    refine takeL (i := 0) (v := ?_) rfl (by kernel_rfl) (by kernel_rfl) (by kernel_rfl) (fun _ _ _ h => h) (Or.inl ⟨by rfl, ?_⟩) (unhide HH) ?_
    rotate_left 1
    · intro W1 hSW; have hc := hSW.cell (unhide H85) (by simp; omega); clear hSW; go_simp; all_goals (with_reducible rfl)
    (try simp only [Act.put, List.setIfInBounds_toArray, List.set_cons_zero, List.set_cons_succ])
    refine takeL (i := 1) (v := ?_) rfl (by kernel_rfl) (by kernel_rfl) (by kernel_rfl) (fun _ _ _ h => h) (Or.inl ⟨by rfl, ?_⟩) (unhide HH) ?_
    rotate_left 1
    · intro W hSW; go_simp; all_goals (with_reducible rfl)
    (try simp only [Act.put, List.setIfInBounds_toArray, List.set_cons_zero, List.set_cons_succ])
    refine takeL (i := 2) (v := ?_) rfl (by kernel_rfl) (by kernel_rfl) (by kernel_rfl) (fun _ _ _ h => h) (Or.inl ⟨by rfl, ?_⟩) (unhide HH) ?_
    rotate_left 1
    · intro W hSW; go_simp; all_goals (with_reducible rfl)
    (try simp only [Act.put, List.setIfInBounds_toArray, List.set_cons_zero, List.set_cons_succ])
    refine takeL (i := 3) (v := ?_) rfl (by kernel_rfl) (by kernel_rfl) (by kernel_rfl) (fun _ _ _ h => h) (Or.inl ⟨by rfl, ?_⟩) (unhide HH) ?_
    rotate_left 1
    · intro W1 hSW; have hc := hSW.cell (unhide H75) (by simp; omega); clear hSW; go_simp; all_goals (with_reducible rfl)
    (try simp only [Act.put, List.setIfInBounds_toArray, List.set_cons_zero, List.set_cons_succ])
    refine takeL (i := 4) (v := ?_) rfl (by kernel_rfl) (by kernel_rfl) (by kernel_rfl) (fun _ _ _ h => h) (Or.inl ⟨by rfl, ?_⟩) (unhide HH) ?_
    rotate_left 1
    · intro W1 hSW; have hc := hSW.cell (unhide H45) (by simp; omega); clear hSW; go_simp; all_goals (with_reducible rfl)
    (try simp only [Act.put, List.setIfInBounds_toArray, List.set_cons_zero, List.set_cons_succ])
    refine takeL (i := 5) (v := ?_) rfl (by kernel_rfl) (by kernel_rfl) (by kernel_rfl) (fun _ _ _ h => h) (Or.inl ⟨by rfl, ?_⟩) (unhide HH) ?_
    rotate_left 1
    · intro W hSW; go_simp; all_goals (with_reducible rfl)
    (try simp only [Act.put, List.setIfInBounds_toArray, List.set_cons_zero, List.set_cons_succ])
    refine takeL (i := 6) (v := ?_) rfl (by kernel_rfl) (by kernel_rfl) (by kernel_rfl) (fun _ _ _ h => h) (Or.inl ⟨by rfl, ?_⟩) (unhide HH) ?_
    rotate_left 1
    · intro W hSW; go_simp; all_goals (with_reducible rfl)
    (try simp only [Act.put, List.setIfInBounds_toArray, List.set_cons_zero, List.set_cons_succ])
    refine takeL (i := 7) (v := ?_) rfl (by kernel_rfl) (by kernel_rfl) (by kernel_rfl) (fun _ _ _ h => h) (Or.inl ⟨by rfl, ?_⟩) (unhide HH) ?_
    rotate_left 1
    · intro W1 hSW; have hc := hSW.cell (unhide HV5) (by simp; omega); clear hSW; go_simp; all_goals (with_reducible rfl)
    (try simp only [Act.put, List.setIfInBounds_toArray, List.set_cons_zero, List.set_cons_succ])
    refine wpAnyH_ready (rs := [8]) (by kernel_rfl) (by simp) ?_
    refine consL rfl (fun K hK => ?_) AllReadyH.nil
    go_simp
    have hK35 : Kp [gq, gr] w3 W5 := (unhide HKW).trans (unhide HK5) (by simp)
    have hz35 := hK35.size
    refine (addTimes_any gr i (M - i) (cr - i) r (some ⟨gb, bx, none⟩) gb (t + 1) d (trim b) v W5.drew ((unhide HR5).of rfl) hbr (unhide HT) hbs2.trim (row_trim (hrb.keep hK35.drew (by simp; omega))) (fun _ => by omega) hvl (by omega) (by omega) (by omega)).mono ?_
    rintro e w6 ⟨⟨v6, rfl⟩, hB6, hK6⟩
    have HB6 := hide hB6
    have HK6 : Hid (Kp [gr] W5 w6) := (Kp.refl [gr] W5).drew.trans hK6 (fun x hx => .inl hx)
    clear hB6 hK6
    go_wp2_with fail
    refine hK.out _ _ (unhide HK6) (fun hHeld => ?_)
    clear hK K HH hHeld
    (try simp only [Act.put, List.setIfInBounds_toArray, List.set_cons_zero, List.set_cons_succ])
    refine wpAnyH_done (by kernel_rfl) ?_ _
    obtain ⟨hko, hk2⟩ := kp_two (unhide HK5) (unhide HBQ) w6 (unhide HK6) (unhide HR5)
    have HBQ6 : Blk w6 gq (q.set i v) := (unhide HBQ5).of ((unhide HK6).block gq (unhide HBQ5).lt (by simp; omega))
    have hbq6 : Bs (q.set i v) := by
      intro j
      rw [cf_set _ _ _ _ (by omega)]
      split
      · exact hvl
      · exact hbq j
    refine ⟨hko, ⟨kp_kq hk2 hzW, fun _ => HBQ6.u hbq6 (by simp; exact hql)⟩, ⟨?_, ?_⟩, ⟨hk2.cell (unhide H4) (by simp; omega), (World.frozen?_of_block (a := ⟨w.heap.size, 0, none⟩) (hk2.block _ (block_lt_of_cell (unhide H4)) (by simp; omega))).trans (unhide HF4), hk2.cell (unhide H7) (by simp; omega), hk2.cell (unhide H8) (by simp; omega), hk2.cell (unhide H9) (by simp; omega), hk2.cell (unhide H10) (by simp; omega)⟩, (unhide HKW).trans hk2 (by simp)⟩
    · rw [List.map_append, List.foldl_append, unhide HQR]
      show Blk w6 gq (q.set i (gmul (cf r (i + t)) inv))
      rw [unhide HKK, unhide HX, unhide HV]
      exact HBQ6
    · rw [List.map_append, List.foldl_append, unhide HQR]
      show Blk w6 gr (addAt r i (trim b) (gmul (cf r (i + t)) inv))
      rw [unhide HKK, unhide HX, unhide HV]
      exact unhide HB6
  case done =>
    rintro D ys W hD hys ⟨⟨hBq, hBr⟩, ⟨h4, hf4, h7, h8, h9, h10⟩, hKW⟩ hKD
    rw [hys] at hBq hBr
    obtain ⟨q, r, hq, hr, hdiv⟩ : ∃ q r, ((downN N).foldl (divF (trim b) t inv) (List.replicate N 0, trim a)).1 = q ∧ ((downN N).foldl (divF (trim b) t inv) (List.replicate N 0, trim a)).2 = r ∧ IsDiv a b q (trim r) := by
      refine ⟨_, _, rfl, rfl, ?_⟩
      have h := div_made (N := N) hbs hbs2 (unhide HT) (by rw [unhide HM]; omega)
      rw [unhide HY, unhide HI] at h
      exact h
    rw [hq] at hBq
    rw [hr] at hBr
    have hql : q.length = N := by rw [← hq, divF_len1]; simp
    have hrl : r.length = M := by rw [← hr, divF_len2]; exact unhide HM
    clear hq hr
    have HBQ := hide hBq
    have HBR2 := hide hBr
    have HRW : Hid (Row W (some ⟨gr, 0, none⟩) gr (ints r)) := by
      have h := hBr.row (o := 0) (n := M)
      rw [List.drop_zero, List.take_of_length_le (by omega)] at h
      exact h
    clear hBq hBr
    have HDIV := hide hdiv
    have H4 := hide h4
    have HF4 := hide hf4
    have H8 := hide h8
    have HKW := hide hKW
    have HKD := hide hKD
    clear hdiv h4 hf4 h7 h8 h9 h10 hKW hKD
    gi_wp2
    refine wpIn_wide.2 ?_
    refine wp_region_noPanic ?_
    refine wp_region_held_drew (S := fun W' => Kp [w.heap.size] W W' ∧ W'.cell? ⟨w.heap.size, 0, none⟩ = some (.slice (some ⟨gq, 0, none⟩) N N) ∧ W'.frozen? ⟨w.heap.size, 0, none⟩ = false) (by kernel_rfl) ⟨(Kp.refl _ _).drew, unhide H4, unhide HF4⟩ (fun hHeld => ?_)
    have HH := hide hHeld
    clear hHeld
    refine takeL (i := 0) (v := ?_) rfl (by kernel_rfl) (by kernel_rfl) (by kernel_rfl) (fun _ _ _ h => h) (Or.inl ⟨by rfl, ?_⟩) (unhide HH) ?_
    rotate_left 1
    · intro W1 hSW; have hc := hSW.2.1; clear hSW; go_simp; all_goals (with_reducible rfl)
    (try simp only [Act.put, List.setIfInBounds_toArray, List.set_cons_zero, List.set_cons_succ])
    refine takeL (i := 1) (v := ?_) rfl (by kernel_rfl) (by kernel_rfl) (by kernel_rfl) (fun _ _ _ h => h) (Or.inl ⟨by rfl, ?_⟩) (unhide HH) ?_
    rotate_left 1
    · intro W1 hSW; have hc := hSW.1.cell (unhide H8) (by simp; omega); clear hSW; go_simp; all_goals (with_reducible rfl)
    (try simp only [Act.put, List.setIfInBounds_toArray, List.set_cons_zero, List.set_cons_succ])
    refine wpAnyH_ready (rs := [2]) (by kernel_rfl) (by simp) ?_
    refine consL rfl (fun K hK => ?_) AllReadyH.nil
    go_simp
    refine (trimmed_any (some ⟨gr, 0, none⟩) gr M cr r _ hrl ((unhide HRW).keep (Kp.refl [] W).drew (by simp)) hcr1 hcr2 (fun h => by simp at h)).mono ?_
    rintro e w5 ⟨rfl, hw5⟩
    rw [hw5]
    clear hw5
    go_wp2_with fail
    refine hK.out _ _ (⟨(Kp.refl _ _).drew, unhide H4, unhide HF4⟩) (fun hHeld => ?_)
    clear hK K HH
    have HH := hide hHeld
    clear hHeld
    (try simp only [Act.put, List.setIfInBounds_toArray, List.set_cons_zero, List.set_cons_succ])
    refine wpAnyH_ready (rs := [3]) (by kernel_rfl) (by simp) ?_
    refine consL rfl (fun K hK => ?_) AllReadyH.nil
    have hc5 : W.drew.cell? ⟨w.heap.size, 0, none⟩ = some (.slice (some ⟨gq, 0, none⟩) N N) := unhide H4
    have hf5 : W.drew.frozen? ⟨w.heap.size, 0, none⟩ = false := unhide HF4
    go_simp
    have HC6 : Hid ((W.setCell ⟨w.heap.size, 0, none⟩ (.slice (some ⟨gq, 0, none⟩) N N)).drew.cell? ⟨w.heap.size, 0, none⟩ = some (.slice (some ⟨gq, 0, none⟩) N N)) := World.cell?_setCell_same' W ⟨w.heap.size, 0, none⟩ _ (by rw [unhide H4]; rfl)
    have HKS : Hid (Kp [w.heap.size] W (W.setCell ⟨w.heap.size, 0, none⟩ (.slice (some ⟨gq, 0, none⟩) N N)).drew) := ((Kp.refl _ W).setCell ⟨w.heap.size, 0, none⟩ _ (.inl (by simp))).drew
    have HF6 : Hid ((W.setCell ⟨w.heap.size, 0, none⟩ (.slice (some ⟨gq, 0, none⟩) N N)).drew.frozen? ⟨w.heap.size, 0, none⟩ = false) := (World.frozen?_setCell W ⟨w.heap.size, 0, none⟩ _ _).trans (unhide HF4)
    refine hK.out _ _ ⟨unhide HKS, unhide HC6, unhide HF6⟩ (fun hHeld => ?_)
    clear hK K HH hc5 hf5
    have HH := hide hHeld
    clear hHeld
    (try simp only [Act.put, List.setIfInBounds_toArray, List.set_cons_zero, List.set_cons_succ])
    refine takeL (i := 4) (v := ?_) rfl (by kernel_rfl) (by kernel_rfl) (by kernel_rfl) (fun _ _ _ h => h) (Or.inl ⟨by rfl, ?_⟩) (unhide HH) ?_
    rotate_left 1
    · intro W hSW; go_simp; all_goals (with_reducible rfl)
    (try simp only [Act.put, List.setIfInBounds_toArray, List.set_cons_zero, List.set_cons_succ])
    refine takeL (i := 5) (v := ?_) rfl (by kernel_rfl) (by kernel_rfl) (by kernel_rfl) (fun _ _ _ h => h) (Or.inl ⟨by rfl, ?_⟩) (unhide HH) ?_
    rotate_left 1
    · intro W hSW; go_simp; all_goals (with_reducible rfl)
    (try simp only [Act.put, List.setIfInBounds_toArray, List.set_cons_zero, List.set_cons_succ])
    refine wpAnyH_done (by kernel_rfl) ?_ _
    refine NoPanic.normal ?_
    obtain ⟨W7, hW7⟩ : ∃ W7, (W.setCell ⟨w.heap.size, 0, none⟩ (.slice (some ⟨gq, 0, none⟩) N N)).drew = W7 := ⟨_, rfl⟩
    rw [hW7] at HC6 HKS ⊢
    clear hW7 HH HF6
    gi_wp2
    have hD4 : D ≠ w.heap.size := by omega
    have hKD7 : W7.heap[D]? = some (.deferred (some [])) := (unhide HKS).heap (unhide HKD) (by simpa using hD4)
    refine ⟨by simp, .inl ⟨_, _, rfl, run_takeDeferred hKD7, ?_⟩⟩
    have hO : ∀ k, k ≠ D → (W7.putObj D (.deferred none)).heap[k]? = W7.heap[k]? := fun k hk => World.putObj_heap_other hk
    refine ⟨_, results_div rfl _ _ ⟨w.heap.size, 0, none⟩ _ rfl (load_slice _ _ _ ((World.cell?_of_block (hO _ (Ne.symm hD4))).trans (unhide HC6))), _, _, _, _, rfl, unhide HDIV, ?_, ?_, ?_⟩
    · refine .inr ⟨gq, N, by rw [hql], by rw [hql]; exact Nat.le_refl _, by unfold maxLen; omega, ?_, by omega⟩
      exact (unhide HBQ).of ((hO _ (by have := (unhide HBQ).lt; omega)).trans ((unhide HKS).block _ (unhide HBQ).lt (by simp; omega)))
    · have hl := trim_len r
      refine .inr ⟨gr, cr, rfl, by omega, hcr2, ?_, by omega⟩
      exact ((unhide HBR2).front hl (fun j _ => cf_trim r j)).of ((hO _ (by omega)).trans ((unhide HKS).block _ (unhide HBR2).lt (by simp; omega)))
    · have k1 : Kp [] w w1 := (Kp.refl [] w).ofBelow (unhide HW1)
      have k2 : Kp [] w w3 := k1.trans hK13 (fun x hx => .inr (by simp at hx; omega))
      have k3 : Kp [] w W := k2.trans (unhide HKW) (fun x hx => .inr (by simp at hx; omega))
      have k4 : Kp [] w W7 := k3.trans (unhide HKS) (fun x hx => .inr (by simp at hx; omega))
      exact (k4.grown (grownBy_putObj' _ D _) (fun k e => by cases e; exact .inr (by omega))).below
  case stop =>
    rintro D c pre W _ _ h _
    exact h.elim

set_option maxRecDepth 100000 in
set_option maxHeartbeats 8000000 in
theorem div_small (va vb : Value) (ga gb : Nat) (a b : List Nat) (w : World) (hA : Arg w va ga a) (hB : Arg w vb gb b) (ha : a.length ≤ 100000) (hb : b.length ≤ 100000) (t : Nat) (ht : (trim b).length = t + 1) (hMt : (trim a).length ≤ t) :
    Calls Try.prog 25 #[va, vb] w fun e w' => ∃ v1 v2 q r, e = .returned (.tuple #[v1, v2, .bool true]) ∧ IsDiv a b q r ∧ Fr w.heap.size w' v1 q ∧ Fr w.heap.size w' v2 r ∧ Below w.heap.size w w' := by
  have HA := hide hA
  obtain ⟨⟨ao, c, rfl, hc1, hc2, hnil, hr⟩, hbs⟩ := hA
  obtain ⟨⟨bo, d, rfl, hd1, hd2, hnil2, hr2⟩, hbs2⟩ := hB
  have hla := trim_len a
  have hlb := trim_len b
  have hgb : gb < w.heap.size := hr2.block_lt (by intro e; rw [e] at ht; simp [trim] at ht)
  obtain ⟨bx, rfl⟩ := row_some hr2 (by omega)
  have HR2 := hide hr2
  have HNL2 := hide hnil2
  have HT := hide ht
  have htb : t < 100000 := by omega
  obtain ⟨M, hM⟩ : ∃ M, (trim a).length = M := ⟨_, rfl⟩
  have hMb : M ≤ 100000 := by omega
  rw [hM] at hMt
  have HM := hide hM
  obtain ⟨y, hy⟩ : ∃ y, cf (trim b) t = y := ⟨_, rfl⟩
  have hyl : y < 256 := by rw [← hy]; exact hbs2.trim t
  obtain ⟨inv, hinv⟩ : ∃ inv, pw y (-1) = inv := ⟨_, rfl⟩
  have hil : inv < 256 := by rw [← hinv]; exact pw_lt _ _
  have HI := hide hinv
  have HY := hide hy
  clear hr hr2 hnil hnil2 hla hlb hM hinv hy
  have hb0 : ((t : Int) + 1 == 0) = false := by rw [beq_eq_false_iff_ne]; omega
  obtain ⟨zs, hzs⟩ : ∃ zs, (List.replicate 0 (Value.int .u8 0)).toArray = zs := ⟨_, rfl⟩
  have hmx : (M : Int) - (t : Int) ≤ 0 := by omega
  have hmk : ∀ W : World, (Instr.makeSlice 22 (.int .i64 0) (.int .i64 0)).run Try.prog W = .ok (.slice (some ⟨W.heap.size, 0, none⟩) 0 0) (W.alloc (.cells zs 5)) := fun W => by
    have h := run_zeros 0 (by omega) W
    rw [hzs] at h
    exact h
  have HZ : Hid (∀ W : World, Blk (W.alloc (.cells zs 5)) W.heap.size (List.replicate 0 0)) := fun W => by rw [← hzs]; exact blk_zeros _ W
  clear hzs
  refine (callsIn_wide (n := 3)).1 ?_
  refine callsIn_of_wp_marks Try.func25 rfl trivial ?_ rfl
  simp only [Try.ntmps25, List.size_toArray, List.length_cons, List.length_nil, Nat.reduceAdd, Nat.reduceSub, Array.replicate_succ, Array.replicate_zero, List.push_toArray, List.append_toArray, List.nil_append, List.cons_append]
  gi_wp2
  refine ⟨trivial, (callsIn_wide.2 (numbers_any _ _)).mono ?_⟩
  rintro e w0 ⟨rfl, rfl⟩
  gi_wp2
  have HK0 : Hid (Kp [] w (w.alloc (.cells #[.slice none 0 0] 22))) := (Kp.refl [] w).alloc _
  refine ⟨trivial, (callsIn_wide.2 (trimmed_any (some ⟨gb, bx, none⟩) gb b.length d b _ rfl ((unhide HR2).keep (unhide HK0) (by simp)) hd1 hd2 (unhide HNL2))).mono ?_⟩
  rintro e w0 ⟨rfl, rfl⟩
  have HW0 : Hid (Below w.heap.size w ((w.alloc (.cells #[.slice none 0 0] 22)).alloc (.cells #[.slice (some ⟨gb, bx, none⟩) (t + 1) d] 62))) := ((Below.refl _ w).alloc (Nat.le_refl _) _).alloc (by simp) _
  have HC4 : Hid (((w.alloc (.cells #[.slice none 0 0] 22)).alloc (.cells #[.slice (some ⟨gb, bx, none⟩) (t + 1) d] 62)).cell? ⟨w.heap.size, 0, none⟩ = some (.slice none 0 0) ∧ ((w.alloc (.cells #[.slice none 0 0] 22)).alloc (.cells #[.slice (some ⟨gb, bx, none⟩) (t + 1) d] 62)).frozen? ⟨w.heap.size, 0, none⟩ = false) :=
    box_below (cell_new' w (.slice none 0 0) 22) ((Below.refl _ _).alloc (Nat.le_refl _) _) (by simp)
  have HC7 : Hid (((w.alloc (.cells #[.slice none 0 0] 22)).alloc (.cells #[.slice (some ⟨gb, bx, none⟩) (t + 1) d] 62)).cell? ⟨w.heap.size + 1, 0, none⟩ = some (.slice (some ⟨gb, bx, none⟩) (t + 1) d)) := by
    have h := (cell_new' (w.alloc (.cells #[.slice none 0 0] 22)) (.slice (some ⟨gb, bx, none⟩) (t + 1) d) 62).1
    rw [World.size_alloc] at h
    exact h
  rw [ht]
  gi_wp2
  obtain ⟨W0, hW0⟩ : ∃ W0, (w.alloc (.cells #[.slice none 0 0] 22)).alloc (.cells #[.slice (some ⟨gb, bx, none⟩) (t + 1) d] 62) = W0 := ⟨_, rfl⟩
  have hz0 : w.heap.size + 1 < W0.heap.size := by rw [← hW0]; simp
  rw [hW0] at HW0 HC4 HC7 ⊢
  clear hW0
  refine ⟨trivial, (callsIn_wide.2 (trim_any _ ga a W0 ((unhide HA).below (unhide HW0)) ha)).mono ?_⟩
  rintro e w1 ⟨vr, rfl, hFr, hk1⟩
  have hz1 := hk1.size
  have hw1 : Below w.heap.size w w1 := (unhide HW0).trans (hk1.mono (by omega))
  have c4 := box_below (unhide HC4) hk1 (by omega)
  have c7 := (hk1.cell (p := ⟨w.heap.size + 1, 0, none⟩) hz0).trans (unhide HC7)
  have hrb := (unhide HR2).below hw1
  have cb : w1.cell? ⟨gb, bx + t, none⟩ = some (.int .u8 (y : Int)) := by
    have hlb := trim_len b
    have h := row_cell hrb (j := t) (by omega)
    rw [← cf_trim b, unhide HY] at h
    exact h
  have HRB := hide hrb
  have HW1 := hide hw1
  clear hrb hw1
  obtain ⟨gr, hAr, hgr⟩ := hFr.arg hbs.trim
  obtain ⟨⟨ar, cr, rfl, hcr1, hcr2, hnr, hrr⟩, _⟩ := hAr
  rw [unhide HM] at hcr1 ⊢
  have HRR := hide hrr
  have HNR := hide hnr
  have HFR := hide hFr
  clear hrr hnr hFr
  clear hk1
  gi_wp2
  refine ⟨trivial, (callsIn_wide.2 (numbers_any _ _)).mono ?_⟩
  rintro e w1 ⟨rfl, rfl⟩
  have K3 : ∀ o1 o2 o3, Kp [] w1 (((w1.alloc o1).alloc o2).alloc o3) := fun o1 o2 o3 => (((Kp.refl [] w1).alloc o1).alloc o2).alloc o3
  have K4 : ∀ o1 o2 o3 v, Kp [w.heap.size] w1 ((((w1.alloc o1).alloc o2).alloc o3).setCell ⟨w.heap.size, 0, none⟩ v) := fun o1 o2 o3 v => ((K3 o1 o2 o3).mono (by simp)).setCell _ _ (.inl (by simp))
  have hne7 : w.heap.size + 1 ∉ [w.heap.size] := by simp
  have hneb : gb ∉ [w.heap.size] := by simp; omega
  have q7a : ∀ o, (w1.alloc o).cell? ⟨w.heap.size + 1, 0, none⟩ = some (.slice (some ⟨gb, bx, none⟩) (t + 1) d) := fun o => ((Kp.refl [] w1).alloc o).cell c7 (by simp)
  have q8b : ∀ o, ((w1.alloc (.cells #[.slice ar M cr] 62)).alloc o).cell? ⟨w1.heap.size, 0, none⟩ = some (.slice ar M cr) := fun o => ((Kp.refl [] _).alloc o).cell (cell_new' w1 _ _).1 (by simp)
  have q4c : ∀ o1 o2 o3, (((w1.alloc o1).alloc o2).alloc o3).cell? ⟨w.heap.size, 0, none⟩ = some (.slice none 0 0) := fun o1 o2 o3 => (K3 o1 o2 o3).cell c4.1 (by simp)
  have f4c : ∀ o1 o2 o3, (((w1.alloc o1).alloc o2).alloc o3).frozen? ⟨w.heap.size, 0, none⟩ = false := fun o1 o2 o3 => (World.frozen?_of_block (a := ⟨w.heap.size, 0, none⟩) ((K3 o1 o2 o3).block _ (block_lt_of_cell c4.1) (by simp))).trans c4.2
  have q7d : ∀ o1 o2 o3 v, ((((w1.alloc o1).alloc o2).alloc o3).setCell ⟨w.heap.size, 0, none⟩ v).cell? ⟨w.heap.size + 1, 0, none⟩ = some (.slice (some ⟨gb, bx, none⟩) (t + 1) d) := fun o1 o2 o3 v => (K4 o1 o2 o3 v).cell c7 hne7
  have qbd : ∀ o1 o2 o3 v, ((((w1.alloc o1).alloc o2).alloc o3).setCell ⟨w.heap.size, 0, none⟩ v).cell? ⟨gb, bx + t, none⟩ = some (.int .u8 (y : Int)) := fun o1 o2 o3 v => (K4 o1 o2 o3 v).cell cb hneb
  have q9b : ∀ o1, ((w1.alloc o1).alloc (.cells #[.int .i64 (t : Int)] 3)).cell? ⟨w1.heap.size + 1, 0, none⟩ = some (.int .i64 (t : Int)) := fun o1 => by
    have h := (cell_new' (w1.alloc o1) (.int .i64 (t : Int)) 3).1
    rw [World.size_alloc] at h
    exact h
  have q9d : ∀ o1 o3 v, ((((w1.alloc o1).alloc (.cells #[.int .i64 (t : Int)] 3)).alloc o3).setCell ⟨w.heap.size, 0, none⟩ v).cell? ⟨w1.heap.size + 1, 0, none⟩ = some (.int .i64 (t : Int)) := fun o1 o3 v =>
    (((Kp.refl [w.heap.size] _).alloc o3).setCell ⟨w.heap.size, 0, none⟩ v (.inl (by simp))).cell (q9b o1) (by simp; omega)
  have hin : (t : Int) < (t : Int) + 1 := by omega
  clear K3
  gi_wp2
  have HWD : Hid (Kp [w.heap.size] w1 ((((w1.alloc (.cells #[.slice ar M cr] 62)).alloc (.cells #[.int .i64 (t : Int)] 3)).alloc (.cells zs 5)).setCell ⟨w.heap.size, 0, none⟩ (.slice (some ⟨w1.heap.size + 1 + 1, 0, none⟩) 0 0))) := K4 _ _ _ _
  have HBQ : Hid (Blk ((((w1.alloc (.cells #[.slice ar M cr] 62)).alloc (.cells #[.int .i64 (t : Int)] 3)).alloc (.cells zs 5)).setCell ⟨w.heap.size, 0, none⟩ (.slice (some ⟨w1.heap.size + 1 + 1, 0, none⟩) 0 0)) (w1.heap.size + 1 + 1) (List.replicate 0 0)) := by
    have h := unhide HZ ((w1.alloc (.cells #[.slice ar M cr] 62)).alloc (.cells #[.int .i64 (t : Int)] 3))
    rw [World.size_alloc, World.size_alloc] at h
    exact h.of (Below.heap_setCell _ _ _ _ (by simp; omega))
  have HC4 : Hid (((((w1.alloc (.cells #[.slice ar M cr] 62)).alloc (.cells #[.int .i64 (t : Int)] 3)).alloc (.cells zs 5)).setCell ⟨w.heap.size, 0, none⟩ (.slice (some ⟨w1.heap.size + 1 + 1, 0, none⟩) 0 0)).cell? ⟨w.heap.size, 0, none⟩ = some (.slice (some ⟨w1.heap.size + 1 + 1, 0, none⟩) 0 0) ∧ ((((w1.alloc (.cells #[.slice ar M cr] 62)).alloc (.cells #[.int .i64 (t : Int)] 3)).alloc (.cells zs 5)).setCell ⟨w.heap.size, 0, none⟩ (.slice (some ⟨w1.heap.size + 1 + 1, 0, none⟩) 0 0)).frozen? ⟨w.heap.size, 0, none⟩ = false) := ⟨World.cell?_setCell_same' _ _ _ (by rw [q4c]; rfl), by rw [World.frozen?_setCell]; exact f4c _ _ _⟩
  have HC7 := hide (q7d (.cells #[.slice ar M cr] 62) (.cells #[.int .i64 (t : Int)] 3) (.cells zs 5) (.slice (some ⟨w1.heap.size + 1 + 1, 0, none⟩) 0 0))
  have HC8 : Hid (((((w1.alloc (.cells #[.slice ar M cr] 62)).alloc (.cells #[.int .i64 (t : Int)] 3)).alloc (.cells zs 5)).setCell ⟨w.heap.size, 0, none⟩ (.slice (some ⟨w1.heap.size + 1 + 1, 0, none⟩) 0 0)).cell? ⟨w1.heap.size, 0, none⟩ = some (.slice ar M cr)) := (((Kp.refl [w.heap.size] _).alloc _).setCell ⟨w.heap.size, 0, none⟩ _ (.inl (by simp))).cell (q8b _) (by simp; omega)
  have HC9 := hide (q9d (.cells #[.slice ar M cr] 62) (.cells zs 5) (.slice (some ⟨w1.heap.size + 1 + 1, 0, none⟩) 0 0))
  have HZD : Hid (((((w1.alloc (.cells #[.slice ar M cr] 62)).alloc (.cells #[.int .i64 (t : Int)] 3)).alloc (.cells zs 5)).setCell ⟨w.heap.size, 0, none⟩ (.slice (some ⟨w1.heap.size + 1 + 1, 0, none⟩) 0 0)).heap.size = w1.heap.size + 1 + 1 + 1) := by show _ = _; simp [World.setCell]
  clear K4 q7a q8b q4c f4c q7d qbd q9b q9d c4 c7 cb hmk HZ hne7 hneb hin
  obtain ⟨WD, hWD⟩ : ∃ WD, ((((w1.alloc (.cells #[.slice ar M cr] 62)).alloc (.cells #[.int .i64 (t : Int)] 3)).alloc (.cells zs 5)).setCell ⟨w.heap.size, 0, none⟩ (.slice (some ⟨w1.heap.size + 1 + 1, 0, none⟩) 0 0)) = WD := ⟨_, rfl⟩
  rw [hWD] at HWD HBQ HC4 HC7 HC8 HC9 HZD ⊢
  clear hWD
  have hzD := unhide HZD
  clear HZD
  refine ⟨trivial, (callsIn_wide.2 (inv_any y hyl WD)).mono ?_⟩
  rintro e w2 ⟨rfl, hk2⟩
  rw [unhide HI]
  have hz2 := hk2.size
  have HKE : Hid (Kp [] WD (w2.alloc (.cells #[.int .u8 (inv : Int)] 5))) := ((Kp.refl [] WD).ofBelow hk2).alloc _
  have HC10 : Hid ((w2.alloc (.cells #[.int .u8 (inv : Int)] 5)).cell? ⟨w2.heap.size, 0, none⟩ = some (.int .u8 (inv : Int))) := (cell_new' w2 _ _).1
  have q4e := (unhide HKE).cell (unhide HC4).1 (by simp)
  clear hk2
  gi_wp2
  obtain ⟨WE, hWE⟩ : ∃ WE, w2.alloc (.cells #[.int .u8 (inv : Int)] 5) = WE := ⟨_, rfl⟩
  have hzE : w2.heap.size < WE.heap.size := by rw [← hWE]; simp
  rw [hWE] at HKE HC10 q4e ⊢
  clear hWE
  refine ⟨trivial, (callsIn_wide.2 (back_any _ _ ⟨_, _, _, rfl⟩)).mono ?_⟩
  rintro e w3 ⟨b1, rfl, hcb, hb1, hb2, hk3⟩
  have hz3 := hk3.size
  have hkE := (unhide HKE).ofBelow hk3
  have c4 := hkE.cell (unhide HC4).1 (by simp)
  have f4 := (World.frozen?_of_block (a := ⟨w.heap.size, 0, none⟩) (hkE.block _ (block_lt_of_cell (unhide HC4).1) (by simp))).trans (unhide HC4).2
  have c7 := hkE.cell (unhide HC7) (by simp)
  have c8 := hkE.cell (unhide HC8) (by simp)
  have c9 := hkE.cell (unhide HC9) (by simp)
  have c10 := (hk3.cell (block_lt_of_cell (unhide HC10))).trans (unhide HC10)
  have hBq : Blk w3 (w1.heap.size + 1 + 1) (List.replicate 0 0) := (unhide HBQ).of (hkE.block _ (unhide HBQ).lt (by simp))
  have hK13 : Kp [w.heap.size] w1 w3 := (unhide HWD).trans (hkE.mono (S' := []) (by simp)) (by simp)
  have hrb := (unhide HRB).keep hK13 (by simp; omega)
  clear hk3 hkE HWD HBQ HC4 HC7 HC8 HC9 HC10 HKE q4e
  obtain ⟨gq, hgq⟩ : ∃ gq, w1.heap.size + 1 + 1 = gq := ⟨_, rfl⟩
  rw [hgq] at c4 hBq hcb hzD
  gi_wp2
  have hgqw : w1.heap.size + 1 < gq := by omega
  have hgqw2 : gq ≤ w1.heap.size + 1 + 1 := by omega
  clear hgq
  obtain ⟨yy, hyy⟩ : ∃ yy, y = yy := ⟨_, rfl⟩
  rw [hyy]
  refine wpIn_rangeFunc_ownF rfl (by omega) (gf := 64) (lb := #[.pointer (some ⟨b1, 0, none⟩)]) rfl trivial (enters_of Try.func64 (by kernel_rfl) rfl)
    (backU_stops [] 2 b1 w3.heap.size gq 0 0 (by omega) w3 hcb (hBq.u (Bs.zeros _) (by simp)) hb2 (by simp))
    (fun h k => h.trans k) (kqU_b (Nat.le_refl _) (by omega)) (Below.refl _ _) (fun _ => rfl)
    (fun pre W => (W.cell? ⟨w.heap.size, 0, none⟩ = some (.slice (some ⟨gq, 0, none⟩) 0 0) ∧ W.frozen? ⟨w.heap.size, 0, none⟩ = false ∧ W.cell? ⟨w.heap.size + 1, 0, none⟩ = some (.slice (some ⟨gb, bx, none⟩) (t + 1) d) ∧ W.cell? ⟨w1.heap.size, 0, none⟩ = some (.slice ar M cr) ∧ W.cell? ⟨w1.heap.size + 1, 0, none⟩ = some (.int .i64 (t : Int)) ∧ W.cell? ⟨w2.heap.size, 0, none⟩ = some (.int .u8 (inv : Int))) ∧ Kp [] w3 W)
    (fun _ _ _ => False)
    (OwnFrom.and (Own.from (fun s A B row hs hg hr => ⟨cell_kept hs.1 hg hr, (frozen_kept hs.1 hg hr).trans hs.2.1, cell_kept hs.2.2.1 hg hr, cell_kept hs.2.2.2.1 hg hr, cell_kept hs.2.2.2.2.1 hg hr, cell_kept hs.2.2.2.2.2 hg hr⟩) _) (ownFrom_kp (Nat.le_refl _)))
    (fun _ _ _ _ _ hs _ _ => hs)
    ⟨⟨c4, f4, c7, c8, c9, c10⟩, Kp.refl _ _⟩
    (fun y => { tmps := #[.slice ao a.length c, .slice (some ⟨gb, bx, none⟩) b.length d, undef, undef, .pointer (some ⟨w.heap.size, 0, none⟩), .slice none 0 0, .bool false, .pointer (some ⟨w.heap.size + 1, 0, none⟩), .pointer (some ⟨w1.heap.size, 0, none⟩), .pointer (some ⟨w1.heap.size + 1, 0, none⟩), .pointer (some ⟨w2.heap.size, 0, none⟩), .int .i64 y.1.val, .slice (some ⟨gb, bx, none⟩) b.length d, .slice (some ⟨gb, bx, none⟩) b.length d, .slice (some ⟨gb, bx, none⟩) (t + 1) d, .slice (some ⟨gb, bx, none⟩) (t + 1) d, .int .i64 (↑t + 1), .bool false, .slice ao a.length c, .slice ar M cr, .slice ar M cr, .slice (some ⟨gb, bx, none⟩) (t + 1) d, .int .i64 (↑t + 1), .int .i64 ↑t, .slice ar M cr, .int .i64 ↑M, .int .i64 ↑t, .int .i64 (↑M - ↑t), .int .i64 0, .slice (some ⟨gq, 0, none⟩) 0 0, .slice (some ⟨gb, bx, none⟩) (t + 1) d, .int .i64 ↑t, .pointer (some ⟨gb, bx + t, none⟩), .int .u8 ↑yy, .int .u8 ↑inv, .slice (some ⟨gq, 0, none⟩) 0 0, .func (.func 64) #[] #[.pointer (some ⟨b1, 0, none⟩)], .int .i64 y.1.val, .int .u8 y.2.val, undef, undef, undef, undef, undef, undef, undef, undef, undef, undef, undef, undef, undef, undef, undef, undef, undef, undef, undef, undef, undef, undef, undef], defers := [] }) ?assign ?body ?done ?stop
  case assign =>
    intro l x W K hK
    gi_wp2
    exact hK
  case body =>
    rintro l pre ⟨⟨i, hi⟩, _⟩
    omega
  case done =>
    rintro D ys W hD hys ⟨⟨h4, hf4, h7, h8, h9, h10⟩, hKW⟩ hKD
    have hdiv : IsDiv a b [] (trim (trim a)) := by
      have h := div_made (N := 0) hbs hbs2 (unhide HT) (by rw [unhide HM]; omega)
      exact h
    rw [trim_trim] at hdiv
    have HRW : Hid (Row W ar gr (ints (trim a))) := by
      refine ((unhide HRR).keep hK13 ?_).keep hKW (by simp)
      simp
      omega
    have HTT := hide (trim_trim a)
    have HDIV := hide hdiv
    have H4 := hide h4
    have HF4 := hide hf4
    have H8 := hide h8
    have HKW := hide hKW
    have HKD := hide hKD
    clear hdiv h4 hf4 h7 h8 h9 h10 hKW hKD
    gi_wp2
    refine wpIn_wide.2 ?_
    refine wp_region_noPanic ?_
    refine wp_region_held_drew (S := fun W' => Kp [w.heap.size] W W' ∧ W'.cell? ⟨w.heap.size, 0, none⟩ = some (.slice (some ⟨gq, 0, none⟩) 0 0) ∧ W'.frozen? ⟨w.heap.size, 0, none⟩ = false) (by kernel_rfl) ⟨(Kp.refl _ _).drew, unhide H4, unhide HF4⟩ (fun hHeld => ?_)
    have HH := hide hHeld
    clear hHeld
    refine takeL (i := 0) (v := ?_) rfl (by kernel_rfl) (by kernel_rfl) (by kernel_rfl) (fun _ _ _ h => h) (Or.inl ⟨by rfl, ?_⟩) (unhide HH) ?_
    rotate_left 1
    · intro W1 hSW; have hc := hSW.2.1; clear hSW; go_simp; all_goals (with_reducible rfl)
    (try simp only [Act.put, List.setIfInBounds_toArray, List.set_cons_zero, List.set_cons_succ])
    refine takeL (i := 1) (v := ?_) rfl (by kernel_rfl) (by kernel_rfl) (by kernel_rfl) (fun _ _ _ h => h) (Or.inl ⟨by rfl, ?_⟩) (unhide HH) ?_
    rotate_left 1
    · intro W1 hSW; have hc := hSW.1.cell (unhide H8) (by simp; omega); clear hSW; go_simp; all_goals (with_reducible rfl)
    (try simp only [Act.put, List.setIfInBounds_toArray, List.set_cons_zero, List.set_cons_succ])
    refine wpAnyH_ready (rs := [2]) (by kernel_rfl) (by simp) ?_
    refine consL rfl (fun K hK => ?_) AllReadyH.nil
    go_simp
    refine (trimmed_any ar gr M cr (trim a) _ (unhide HM) ((unhide HRW).keep (Kp.refl [] W).drew (by simp)) hcr1 hcr2 (unhide HNR)).mono ?_
    rintro e w5 ⟨rfl, hw5⟩
    rw [hw5]
    clear hw5
    go_wp2_with fail
    refine hK.out _ _ (⟨(Kp.refl _ _).drew, unhide H4, unhide HF4⟩) (fun hHeld => ?_)
    clear hK K HH
    have HH := hide hHeld
    clear hHeld
    (try simp only [Act.put, List.setIfInBounds_toArray, List.set_cons_zero, List.set_cons_succ])
    refine wpAnyH_ready (rs := [3]) (by kernel_rfl) (by simp) ?_
    refine consL rfl (fun K hK => ?_) AllReadyH.nil
    have hc5 : W.drew.cell? ⟨w.heap.size, 0, none⟩ = some (.slice (some ⟨gq, 0, none⟩) 0 0) := unhide H4
    have hf5 : W.drew.frozen? ⟨w.heap.size, 0, none⟩ = false := unhide HF4
    go_simp
    have HC6 : Hid ((W.setCell ⟨w.heap.size, 0, none⟩ (.slice (some ⟨gq, 0, none⟩) 0 0)).drew.cell? ⟨w.heap.size, 0, none⟩ = some (.slice (some ⟨gq, 0, none⟩) 0 0)) := World.cell?_setCell_same' W ⟨w.heap.size, 0, none⟩ _ (by rw [unhide H4]; rfl)
    have HKS : Hid (Kp [w.heap.size] W (W.setCell ⟨w.heap.size, 0, none⟩ (.slice (some ⟨gq, 0, none⟩) 0 0)).drew) := ((Kp.refl _ W).setCell ⟨w.heap.size, 0, none⟩ _ (.inl (by simp))).drew
    have HF6 : Hid ((W.setCell ⟨w.heap.size, 0, none⟩ (.slice (some ⟨gq, 0, none⟩) 0 0)).drew.frozen? ⟨w.heap.size, 0, none⟩ = false) := (World.frozen?_setCell W ⟨w.heap.size, 0, none⟩ _ _).trans (unhide HF4)
    refine hK.out _ _ ⟨unhide HKS, unhide HC6, unhide HF6⟩ (fun hHeld => ?_)
    clear hK K HH hc5 hf5
    have HH := hide hHeld
    clear hHeld
    (try simp only [Act.put, List.setIfInBounds_toArray, List.set_cons_zero, List.set_cons_succ])
    refine takeL (i := 4) (v := ?_) rfl (by kernel_rfl) (by kernel_rfl) (by kernel_rfl) (fun _ _ _ h => h) (Or.inl ⟨by rfl, ?_⟩) (unhide HH) ?_
    rotate_left 1
    · intro W hSW; go_simp; all_goals (with_reducible rfl)
    (try simp only [Act.put, List.setIfInBounds_toArray, List.set_cons_zero, List.set_cons_succ])
    refine takeL (i := 5) (v := ?_) rfl (by kernel_rfl) (by kernel_rfl) (by kernel_rfl) (fun _ _ _ h => h) (Or.inl ⟨by rfl, ?_⟩) (unhide HH) ?_
    rotate_left 1
    · intro W hSW; go_simp; all_goals (with_reducible rfl)
    (try simp only [Act.put, List.setIfInBounds_toArray, List.set_cons_zero, List.set_cons_succ])
    refine wpAnyH_done (by kernel_rfl) ?_ _
    refine NoPanic.normal ?_
    obtain ⟨W7, hW7⟩ : ∃ W7, (W.setCell ⟨w.heap.size, 0, none⟩ (.slice (some ⟨gq, 0, none⟩) 0 0)).drew = W7 := ⟨_, rfl⟩
    rw [hW7] at HC6 HKS ⊢
    clear hW7 HH HF6
    gi_wp2
    have hD4 : D ≠ w.heap.size := by omega
    have hKD7 : W7.heap[D]? = some (.deferred (some [])) := (unhide HKS).heap (unhide HKD) (by simpa using hD4)
    refine ⟨by simp, .inl ⟨_, _, rfl, run_takeDeferred hKD7, ?_⟩⟩
    have hO : ∀ k, k ≠ D → (W7.putObj D (.deferred none)).heap[k]? = W7.heap[k]? := fun k hk => World.putObj_heap_other hk
    refine ⟨_, results_div rfl _ _ ⟨w.heap.size, 0, none⟩ _ rfl (load_slice _ _ _ ((World.cell?_of_block (hO _ (Ne.symm hD4))).trans (unhide HC6))), _, _, _, _, rfl, unhide HDIV, ?_, ?_, ?_⟩
    · exact .inr ⟨gq, 0, rfl, by simp, by unfold maxLen; omega, (show Blk _ gq [] from by
        have h := hBq.of ((unhide HKW).block gq hBq.lt (by simp))
        exact (h.front (t := []) (by simp) (fun j hj => by simp at hj)).of ((hO _ (by have := hBq.lt; omega)).trans ((unhide HKS).block _ h.lt (by simp; omega)))), by omega⟩
    · rw [unhide HTT]
      rcases unhide HFR with h | ⟨g2, c2, k1, k2, k3, k4, k5⟩
      · exact .inl h
      · right
        refine ⟨g2, c2, k1, k2, k3, ?_, by omega⟩
        have e1 := hK13.block g2 k4.lt (by simp; omega)
        have e2 := (unhide HKW).block g2 (by have := hK13.size; have := k4.lt; omega) (by simp)
        have e3 := (unhide HKS).block g2 (by have := hK13.size; have := (unhide HKW).size; have := k4.lt; omega) (by simp; omega)
        exact k4.of ((hO _ (by have := k4.lt; have := hK13.size; omega)).trans (e3.trans (e2.trans e1)))
    · have k1 : Kp [] w w1 := (Kp.refl [] w).ofBelow (unhide HW1)
      have k2 : Kp [] w w3 := k1.trans hK13 (fun x hx => .inr (by simp at hx; omega))
      have k3 : Kp [] w W := k2.trans (unhide HKW) (fun x hx => .inr (by simp at hx))
      have k4 : Kp [] w W7 := k3.trans (unhide HKS) (fun x hx => .inr (by simp at hx; omega))
      exact (k4.grown (grownBy_putObj' _ D _) (fun k e => by cases e; exact .inr (by omega))).below
  case stop =>
    rintro D c pre W _ _ h _
    exact h.elim

theorem div_any (va vb : Value) (ga gb : Nat) (a b : List Nat) (w : World) (hA : Arg w va ga a) (hB : Arg w vb gb b) (ha : a.length ≤ 100000) (hb : b.length ≤ 100000) (h : trim b ≠ []) :
    Calls Try.prog 25 #[va, vb] w fun e w' => ∃ v1 v2 q r, e = .returned (.tuple #[v1, v2, .bool true]) ∧ IsDiv a b q r ∧ Fr w.heap.size w' v1 q ∧ Fr w.heap.size w' v2 r ∧ Below w.heap.size w w' := by
  have h1 : 0 < (trim b).length := List.length_pos_iff.2 h
  by_cases hM : (trim b).length - 1 < (trim a).length
  · exact div_big va vb ga gb a b w hA hB ha hb ((trim b).length - 1) (by omega) hM ((trim a).length - ((trim b).length - 1)) (by omega) (by omega)
  · exact div_small va vb ga gb a b w hA hB ha hb ((trim b).length - 1) (by omega) (by omega)

end Go.Proofs.Ytahjcahmlangiaa
