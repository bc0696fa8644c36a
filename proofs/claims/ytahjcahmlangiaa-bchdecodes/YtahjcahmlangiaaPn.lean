/-
  poly.Minimal.
-/
import Derived.Test.YtahjcahmlangiaaPo
namespace Go.Proofs.Ytahjcahmlangiaa
open Go.RowKit Go.Shelf
attribute [local go_sem] Oper.semAt_some

theorem minF_len (l : List Nat) (p : List Nat) : (l.foldl minF p).length ≤ p.length + l.length := by
  induction l generalizing p with
  | nil => simp
  | cons m l ih =>
    have h1 := ih (minF p m)
    have h2 : (minF p m).length ≤ p.length + 1 := trim_short (fun i hi => cf_pmul_ge (by simp; omega))
    simp only [List.foldl_cons, List.length_cons]
    omega
theorem minF_bs (l : List Nat) {p : List Nat} (hp : Bs p) : Bs (l.foldl minF p) := by
  induction l generalizing p with
  | nil => exact hp
  | cons m l ih => exact ih (Bs.trim (Bs.pmul hp))

theorem Fr.shape {n : Nat} {w : World} {v : Value} {s : List Nat} (h : Fr n w v s) : ∃ ao l c, v = .slice ao l c := by
  rcases h with ⟨rfl, rfl⟩ | ⟨g, c, rfl, _⟩
  · exact ⟨_, _, _, rfl⟩
  · exact ⟨_, _, _, rfl⟩

/-- What lies elsewhere stays behind a store. -/
theorem Fr.box {n m b : Nat} {w : World} {v u : Value} {s : List Nat} (h : Fr n w v s) (hm : m ≤ n) (hb : ∀ g, n ≤ g → b ≠ g) : Fr m (w.setCell ⟨b, 0, none⟩ u) v s := by
  rcases h with h | ⟨g, c, h1, h2, h3, h4, h5⟩
  · exact .inl h
  · exact .inr ⟨g, c, h1, h2, h3, h4.of (Below.heap_setCell _ _ _ _ (fun e => hb g h5 e.symm)), by omega⟩

theorem two_get {x y : Nat} (j : Nat) (hj : j < [x, y].length) : (#[Value.int .u8 (x : Int), Value.int .u8 (y : Int)] : Array Value)[j]? = some (.int .u8 ((cf [x, y] j : Nat) : Int)) := by
  match j, hj with
  | 0, _ => rfl
  | 1, _ => rfl

theorem arg_two (w : World) {x : Nat} (hx : x < 256) : Arg (w.alloc (.cells #[.int .u8 (x : Int), .int .u8 1] 5)) (.slice (some ⟨w.heap.size, 0, none⟩) 2 2) w.heap.size [x, 1] := by
  refine ⟨⟨_, 2, rfl, by simp, by unfold maxLen; omega, fun h => by simp at h, ?_⟩, Bs.cons hx (Bs.cons (by omega) Bs.nil)⟩
  have hb : Blk (w.alloc (.cells #[.int .u8 (x : Int), .int .u8 1] 5)) w.heap.size [x, 1] := ⟨_, World.alloc_heap_new w _, fun j hj => two_get j hj⟩
  have := hb.row (o := 0) (n := 2)
  simpa using this

theorem own_box {β : Type} (n b : Nat) (f : β → List Nat) : Own (fun (s : β) W => ∃ v, W.cell? ⟨b, 0, none⟩ = some v ∧ W.frozen? ⟨b, 0, none⟩ = false ∧ Fr n W v (f s)) := fun s W W' row hs hg hr => by
  obtain ⟨v, h1, h2, h3⟩ := hs
  refine ⟨v, cell_kept h1 hg hr, (frozen_kept h1 hg hr).trans h2, ?_⟩
  rcases h3 with h | ⟨g, c, k1, k2, k3, k4, k5⟩
  · exact .inl h
  · exact .inr ⟨g, c, k1, k2, k3, own_blk g f s W W' row k4 hg hr, k5⟩

set_option maxRecDepth 100000 in
set_option maxHeartbeats 8000000 in
theorem minimal_any (n : Int) (w : World) :
    Calls Try.prog 29 #[.int .i64 n] w fun e w' => ∃ v', e = .returned v' ∧ Fr w.heap.size w' v' (minP (n % 255).toNat) ∧ Below w.heap.size w w' := by
  obtain ⟨st, hst⟩ : ∃ st : Nat, n % 255 = (st : Int) := ⟨(n % 255).toNat, by omega⟩
  have hst2 : st < 255 := by omega
  refine (callsIn_wide (n := 3)).1 ?_
  refine callsIn_of_wp_marks Try.func29 rfl trivial ?_ rfl
  simp only [Try.ntmps29, List.size_toArray, List.length_cons, List.length_nil, Nat.reduceAdd, Nat.reduceSub, Array.replicate_succ, Array.replicate_zero, List.push_toArray, List.append_toArray, List.nil_append, List.cons_append]
  gi_wp2
  have HB1 : Hid (Blk ((w.alloc (.cells #[.int .u8 1] 5)).alloc (.cells #[.slice (some ⟨w.heap.size, 0, none⟩) 1 1] 22)) w.heap.size [1]) :=
    (show Blk (w.alloc (.cells #[.int .u8 1] 5)) w.heap.size [1] from ⟨_, World.alloc_heap_new w _, fun j hj => by
      have : j = 0 := by simpa using hj
      subst this; rfl⟩).of (Below.heap_alloc _ _ _ (by simp))
  have HC3 : Hid (((w.alloc (.cells #[.int .u8 1] 5)).alloc (.cells #[.slice (some ⟨w.heap.size, 0, none⟩) 1 1] 22)).cell? ⟨w.heap.size + 1, 0, none⟩ = some (.slice (some ⟨w.heap.size, 0, none⟩) 1 1) ∧ ((w.alloc (.cells #[.int .u8 1] 5)).alloc (.cells #[.slice (some ⟨w.heap.size, 0, none⟩) 1 1] 22)).frozen? ⟨w.heap.size + 1, 0, none⟩ = false) := by
    have h := cell_new' (w.alloc (.cells #[.int .u8 1] 5)) (.slice (some ⟨w.heap.size, 0, none⟩) 1 1) 22
    rw [World.size_alloc] at h
    exact h
  have HW2 : Hid (Below w.heap.size w ((w.alloc (.cells #[.int .u8 1] 5)).alloc (.cells #[.slice (some ⟨w.heap.size, 0, none⟩) 1 1] 22))) := ((Below.refl _ w).alloc (Nat.le_refl _) _).alloc (by simp) _
  refine ⟨trivial, (callsIn_wide.2 (doublings_any n _)).mono ?_⟩
  rintro e w1 ⟨rfl, hk1⟩
  rw [hst]
  gi_wp2
  refine ⟨trivial, (callsIn_wide.2 (all_any st 70 w1)).mono ?_⟩
  rintro e w2 ⟨b1, rfl, hcb, hb1, hb2, hk2⟩
  have hz1 := hk1.size
  have hz2 := hk2.size
  simp only [World.size_alloc] at hz1
  have hkk := hk1.trans (hk2.mono (by simp; omega))
  have hw2 : Below w.heap.size w w2 := (unhide HW2).trans (hkk.mono (by simp; omega))
  have c3 := box_below (unhide HC3) hkk (block_lt_of_cell (unhide HC3).1)
  have hB2 := (unhide HB1).below hkk (unhide HB1).lt
  clear hk1 hk2 hkk HW2 HC3 HB1
  obtain ⟨Bp, hBp0⟩ : ∃ Bp, w.heap.size + 1 = Bp := ⟨_, rfl⟩
  rw [hBp0] at c3 hz1
  gi_wp2
  have hBp : w.heap.size ≤ Bp := by omega
  have hBp1 : Bp ≤ w.heap.size + 1 := by omega
  clear hBp0
  refine wpIn_rangeFunc_ownF rfl (by omega) (gf := 71) (lb := #[.pointer (some ⟨b1, 0, none⟩)]) rfl trivial (enters_of Try.func71 (by kernel_rfl) rfl)
    (all_stops [Bp] 2 b1 w2.heap.size st hst2 w2 hcb hb2 (by simp; omega))
    (fun h k => h.trans k) (kq_b (Nat.le_refl _)) (Below.refl _ _) (fun _ => rfl)
    (fun pre W => (∃ v, W.cell? ⟨Bp, 0, none⟩ = some v ∧ W.frozen? ⟨Bp, 0, none⟩ = false ∧ Fr w.heap.size W v ((pre.map Fin.val).foldl minF [1])) ∧ Below w.heap.size w W ∧ Below 0 w2 W)
    (fun _ _ _ => False)
    (OwnFrom.and (Own.from (own_box w.heap.size Bp _) _) (OwnFrom.and (ownFrom_below (Nat.le_refl _) (by omega)) (ownFrom_below (by omega) (by omega))))
    (fun _ _ _ _ _ hs _ _ => hs)
    ⟨⟨_, c3.1, c3.2, .inr ⟨w.heap.size, 1, rfl, by simp, by unfold maxLen; omega, hB2, Nat.le_refl _⟩⟩, hw2, Below.refl _ _⟩
    (fun y => { tmps := #[.int .i64 n, undef, .slice none 0 0, .pointer (some ⟨Bp, 0, none⟩), .int .i64 y.val, .slice (some ⟨w.heap.size, 0, none⟩) 1 1, .int .i64 n, .agg #[.int .i64 st, .func (.func 70) #[] #[]], .func (.func 71) #[] #[.pointer (some ⟨b1, 0, none⟩)], .int .i64 y.val, undef, undef, undef, undef, undef, undef], defers := [] }) ?assign ?body ?done ?stop
  case assign =>
    intro l x W K hK
    gi_wp2
    exact hK
  case body =>
    rintro l pre ⟨m, hm⟩ W ⟨⟨v, hc, hf, hF⟩, hBW, hB0⟩ hlen8
    have hz := hB0.size
    have hzw := hBW.size
    obtain ⟨p, hp⟩ : ∃ p, (pre.map Fin.val).foldl minF [1] = p := ⟨_, rfl⟩
    have hpl : p.length ≤ 100 := by
      have := minF_len (pre.map Fin.val) [1]
      rw [hp, List.length_map] at this
      simp at this
      omega
    have hpb : Bs p := by rw [← hp]; exact minF_bs _ (Bs.cons (by omega) Bs.nil)
    rw [hp] at hF
    have HP := hide hp
    clear hp
    obtain ⟨g, hA, hg⟩ := hF.arg hpb
    obtain ⟨⟨ao, c, rfl, ha1, ha2, ha3, ha4⟩, _⟩ := hA
    have HA : Hid (Arg W (.slice ao p.length c) g p) := ⟨⟨ao, c, rfl, ha1, ha2, ha3, ha4⟩, hpb⟩
    have HC := hide hc
    have HF := hide hf
    have HBW := hide hBW
    clear ha1 ha2 ha3 ha4 hc hf hF
    obtain ⟨X1, hX1⟩ : ∃ x, E m = x := ⟨_, rfl⟩
    have hXl : X1 < 256 := by rw [← hX1]; exact E_lt m
    have HX : Hid (X (m : Int) = X1) := by show _ = _; rw [X_nat]; exact hX1
    have HX1 := hide hX1
    clear hX1
    gi_wp2
    refine wpIn_region_round (S := fun W' => Kp [Bp] W W') (by kernel_rfl) (by kernel_rfl) (fun ⟨_, _, h⟩ => h) ((Kp.refl _ _).drew) (fun hHeld => ?_)
    have HH := hide hHeld
    clear hHeld
    refine takeL (i := 1) (v := ?_) rfl (by kernel_rfl) (by kernel_rfl) (by kernel_rfl) (fun _ _ _ h => h) (Or.inl ⟨by rfl, ?_⟩) (unhide HH) ?_
    rotate_left 1
    · intro W hSW; go_simp; all_goals (with_reducible rfl)
    (try simp only [Act.put, List.setIfInBounds_toArray, List.set_cons_zero, List.set_cons_succ])
    refine wpAnyH_ready (rs := [0, 2]) (by kernel_rfl) (by simp) ?_
    refine consL rfl (fun K hK => ?_) (consL rfl (fun K hK => ?_) AllReadyH.nil)
    focus
      have HCc := HC
      have he := unhide HCc
      go_simp
      refine hK.out _ _ (unhide HH) (fun hHeld => ?_)
      clear hK K HH
      have HH := hide hHeld
      clear hHeld
      (try simp only [Act.put, List.setIfInBounds_toArray, List.set_cons_zero, List.set_cons_succ])
      clear he
      clear HCc
      refine wpAnyH_ready (rs := [2]) (by kernel_rfl) (by simp) ?_
      refine consL rfl (fun K hK => ?_) AllReadyH.nil
      go_simp
      refine (exp_any m _).mono ?_
      rintro e w4 ⟨rfl, hk4⟩
      rw [unhide HX]
      have HB4 : Hid (Below W.heap.size W w4) := (Below.refl _ W).drew.trans hk4
      have HCc := hide ((hk4.cell (block_lt_of_cell (unhide HC))).trans (unhide HC))
      have HFc := hide ((World.frozen?_of_block (a := ⟨Bp, 0, none⟩) (hk4.block Bp (block_lt_of_cell (unhide HC)))).trans (unhide HF))
      have HA4 := hide ((unhide HA).below (unhide HB4))
      clear hk4
      go_wp2_with fail
      refine hK.out _ _ ((Kp.refl [Bp] W).ofBelow (unhide HB4)) (fun hHeld => ?_)
      clear hK K HH
      have HH := hide hHeld
      clear hHeld
      (try simp only [Act.put, List.setIfInBounds_toArray, List.set_cons_zero, List.set_cons_succ])
      refine wpAnyH_ready (rs := [3]) (by kernel_rfl) (by simp) ?_
      refine consL rfl (fun K hK => ?_) AllReadyH.nil
      go_simp
      have HB5 : Hid (Below W.heap.size W (w4.alloc (.cells #[.int .u8 (X1 : Int), .int .u8 1] 5))) := (unhide HB4).alloc (unhide HB4).size _
      have HA5 := hide ((unhide HA4).below ((Below.refl _ w4).alloc (Nat.le_refl _) (.cells #[.int .u8 (X1 : Int), .int .u8 1] 5)))
      have HV5 := hide (arg_two w4 hXl)
      have HC5 := hide ((Below.cell ((Below.refl _ w4).alloc (Nat.le_refl _) (.cells #[.int .u8 (X1 : Int), .int .u8 1] 5)) (block_lt_of_cell (unhide HCc))).trans (unhide HCc))
      have HF5 := hide ((World.frozen?_of_block (a := ⟨Bp, 0, none⟩) (Below.block ((Below.refl _ w4).alloc (Nat.le_refl _) (.cells #[.int .u8 (X1 : Int), .int .u8 1] 5)) Bp (block_lt_of_cell (unhide HCc)))).trans (unhide HFc))
      obtain ⟨w5, hw5⟩ : ∃ w5, w4.alloc (.cells #[.int .u8 (X1 : Int), .int .u8 1] 5) = w5 := ⟨_, rfl⟩
      rw [hw5] at HB5 HA5 HV5 HC5 HF5 ⊢
      have hz45 : w4.heap.size ≤ w5.heap.size := by rw [← hw5]; simp
      clear hw5
      refine hK.out _ _ ((Kp.refl [Bp] W).ofBelow (unhide HB5)) (fun hHeld => ?_)
      clear hK K HH
      have HH := hide hHeld
      clear hHeld
      (try simp only [Act.put, List.setIfInBounds_toArray, List.set_cons_zero, List.set_cons_succ])
      refine wpAnyH_ready (rs := [4]) (by kernel_rfl) (by simp) ?_
      refine consL rfl (fun K hK => ?_) AllReadyH.nil
      go_simp
      refine (pmul_any _ _ g w4.heap.size p [X1, 1] w5 (unhide HA5) (unhide HV5) (by omega) (by simp)).mono ?_
      rintro e w6 ⟨v6, rfl, hF6, hk6⟩
      have HB6 : Hid (Below W.heap.size W w6) := (unhide HB5).trans (hk6.mono (unhide HB5).size)
      have HC6 := hide ((hk6.cell (block_lt_of_cell (unhide HC5))).trans (unhide HC5))
      have HF6 := hide ((World.frozen?_of_block (a := ⟨Bp, 0, none⟩) (hk6.block Bp (block_lt_of_cell (unhide HC5)))).trans (unhide HF5))
      have HR6 := hide hF6
      obtain ⟨a6, l6, c6, rfl⟩ := hF6.shape
      have hz56 := hk6.size
      clear hk6 hF6
      go_wp2_with fail
      refine hK.out _ _ ((Kp.refl [Bp] W).ofBelow (unhide HB6)) (fun hHeld => ?_)
      clear hK K HH
      have HH := hide hHeld
      clear hHeld
      (try simp only [Act.put, List.setIfInBounds_toArray, List.set_cons_zero, List.set_cons_succ])
      refine wpAnyH_ready (rs := [5]) (by kernel_rfl) (by simp) ?_
      refine consL rfl (fun K hK => ?_) AllReadyH.nil
      have hc6 := unhide HC6
      have hf6 := unhide HF6
      go_simp
      refine hK.out _ _ (((Kp.refl [Bp] W).ofBelow (unhide HB6)).setCell ⟨Bp, 0, none⟩ _ (.inl (by simp))) (fun hHeld => ?_)
      clear hHeld hK K
      (try simp only [Act.put, List.setIfInBounds_toArray, List.set_cons_zero, List.set_cons_succ])
      refine wpAnyH_done (by kernel_rfl) ?_ _
      refine ⟨(kept_of_below (unhide HB6)).trans (KeepsOthers.setCell _ _ _), ((Kq.refl _ _ W).below (unhide HB6) hz).setCell ⟨Bp, 0, none⟩ _ (by simp), ⟨_, World.cell?_setCell_same' _ _ _ (by rw [hc6]; rfl), by rw [World.frozen?_setCell]; exact hf6, ?_⟩, ((unhide HBW).trans ((unhide HB6).mono hzw)).setCell (p := ⟨Bp, 0, none⟩) hBp _, (hB0.trans ((unhide HB6).mono (by omega))).setCell (p := ⟨Bp, 0, none⟩) (by omega) _⟩
      rw [List.map_append, List.foldl_append, unhide HP]
      show Fr _ _ _ (trim (pmul p [E m, 1]))
      rw [unhide HX1]
      have hBz := (unhide HB5).size
      refine Fr.box (unhide HR6) (by omega) ?_
      rintro g6 hg6 rfl
      have := block_lt_of_cell (unhide HC5)
      simp at this
      omega
    focus
      go_simp
      refine (exp_any m _).mono ?_
      rintro e w4 ⟨rfl, hk4⟩
      rw [unhide HX]
      have HB4 : Hid (Below W.heap.size W w4) := (Below.refl _ W).drew.trans hk4
      have HCc := hide ((hk4.cell (block_lt_of_cell (unhide HC))).trans (unhide HC))
      have HFc := hide ((World.frozen?_of_block (a := ⟨Bp, 0, none⟩) (hk4.block Bp (block_lt_of_cell (unhide HC)))).trans (unhide HF))
      have HA4 := hide ((unhide HA).below (unhide HB4))
      clear hk4
      go_wp2_with fail
      refine hK.out _ _ ((Kp.refl [Bp] W).ofBelow (unhide HB4)) (fun hHeld => ?_)
      clear hK K HH
      have HH := hide hHeld
      clear hHeld
      (try simp only [Act.put, List.setIfInBounds_toArray, List.set_cons_zero, List.set_cons_succ])
      refine wpAnyH_ready (rs := [0, 3]) (by kernel_rfl) (by simp) ?_
      refine consL rfl (fun K hK => ?_) (consL rfl (fun K hK => ?_) AllReadyH.nil)
      focus
        have he := unhide HCc
        go_simp
        refine hK.out _ _ (unhide HH) (fun hHeld => ?_)
        clear hK K HH
        have HH := hide hHeld
        clear hHeld
        (try simp only [Act.put, List.setIfInBounds_toArray, List.set_cons_zero, List.set_cons_succ])
        clear he
        refine wpAnyH_ready (rs := [3]) (by kernel_rfl) (by simp) ?_
        refine consL rfl (fun K hK => ?_) AllReadyH.nil
        go_simp
        have HB5 : Hid (Below W.heap.size W (w4.alloc (.cells #[.int .u8 (X1 : Int), .int .u8 1] 5))) := (unhide HB4).alloc (unhide HB4).size _
        have HA5 := hide ((unhide HA4).below ((Below.refl _ w4).alloc (Nat.le_refl _) (.cells #[.int .u8 (X1 : Int), .int .u8 1] 5)))
        have HV5 := hide (arg_two w4 hXl)
        have HC5 := hide ((Below.cell ((Below.refl _ w4).alloc (Nat.le_refl _) (.cells #[.int .u8 (X1 : Int), .int .u8 1] 5)) (block_lt_of_cell (unhide HCc))).trans (unhide HCc))
        have HF5 := hide ((World.frozen?_of_block (a := ⟨Bp, 0, none⟩) (Below.block ((Below.refl _ w4).alloc (Nat.le_refl _) (.cells #[.int .u8 (X1 : Int), .int .u8 1] 5)) Bp (block_lt_of_cell (unhide HCc)))).trans (unhide HFc))
        obtain ⟨w5, hw5⟩ : ∃ w5, w4.alloc (.cells #[.int .u8 (X1 : Int), .int .u8 1] 5) = w5 := ⟨_, rfl⟩
        rw [hw5] at HB5 HA5 HV5 HC5 HF5 ⊢
        have hz45 : w4.heap.size ≤ w5.heap.size := by rw [← hw5]; simp
        clear hw5
        refine hK.out _ _ ((Kp.refl [Bp] W).ofBelow (unhide HB5)) (fun hHeld => ?_)
        clear hK K HH
        have HH := hide hHeld
        clear hHeld
        (try simp only [Act.put, List.setIfInBounds_toArray, List.set_cons_zero, List.set_cons_succ])
        refine wpAnyH_ready (rs := [4]) (by kernel_rfl) (by simp) ?_
        refine consL rfl (fun K hK => ?_) AllReadyH.nil
        go_simp
        refine (pmul_any _ _ g w4.heap.size p [X1, 1] w5 (unhide HA5) (unhide HV5) (by omega) (by simp)).mono ?_
        rintro e w6 ⟨v6, rfl, hF6, hk6⟩
        have HB6 : Hid (Below W.heap.size W w6) := (unhide HB5).trans (hk6.mono (unhide HB5).size)
        have HC6 := hide ((hk6.cell (block_lt_of_cell (unhide HC5))).trans (unhide HC5))
        have HF6 := hide ((World.frozen?_of_block (a := ⟨Bp, 0, none⟩) (hk6.block Bp (block_lt_of_cell (unhide HC5)))).trans (unhide HF5))
        have HR6 := hide hF6
        obtain ⟨a6, l6, c6, rfl⟩ := hF6.shape
        have hz56 := hk6.size
        clear hk6 hF6
        go_wp2_with fail
        refine hK.out _ _ ((Kp.refl [Bp] W).ofBelow (unhide HB6)) (fun hHeld => ?_)
        clear hK K HH
        have HH := hide hHeld
        clear hHeld
        (try simp only [Act.put, List.setIfInBounds_toArray, List.set_cons_zero, List.set_cons_succ])
        refine wpAnyH_ready (rs := [5]) (by kernel_rfl) (by simp) ?_
        refine consL rfl (fun K hK => ?_) AllReadyH.nil
        have hc6 := unhide HC6
        have hf6 := unhide HF6
        go_simp
        refine hK.out _ _ (((Kp.refl [Bp] W).ofBelow (unhide HB6)).setCell ⟨Bp, 0, none⟩ _ (.inl (by simp))) (fun hHeld => ?_)
        clear hHeld hK K
        (try simp only [Act.put, List.setIfInBounds_toArray, List.set_cons_zero, List.set_cons_succ])
        refine wpAnyH_done (by kernel_rfl) ?_ _
        refine ⟨(kept_of_below (unhide HB6)).trans (KeepsOthers.setCell _ _ _), ((Kq.refl _ _ W).below (unhide HB6) hz).setCell ⟨Bp, 0, none⟩ _ (by simp), ⟨_, World.cell?_setCell_same' _ _ _ (by rw [hc6]; rfl), by rw [World.frozen?_setCell]; exact hf6, ?_⟩, ((unhide HBW).trans ((unhide HB6).mono hzw)).setCell (p := ⟨Bp, 0, none⟩) hBp _, (hB0.trans ((unhide HB6).mono (by omega))).setCell (p := ⟨Bp, 0, none⟩) (by omega) _⟩
        rw [List.map_append, List.foldl_append, unhide HP]
        show Fr _ _ _ (trim (pmul p [E m, 1]))
        rw [unhide HX1]
        have hBz := (unhide HB5).size
        refine Fr.box (unhide HR6) (by omega) ?_
        rintro g6 hg6 rfl
        have := block_lt_of_cell (unhide HC5)
        simp at this
        omega
      focus
        go_simp
        have HB5 : Hid (Below W.heap.size W (w4.alloc (.cells #[.int .u8 (X1 : Int), .int .u8 1] 5))) := (unhide HB4).alloc (unhide HB4).size _
        have HA5 := hide ((unhide HA4).below ((Below.refl _ w4).alloc (Nat.le_refl _) (.cells #[.int .u8 (X1 : Int), .int .u8 1] 5)))
        have HV5 := hide (arg_two w4 hXl)
        have HC5 := hide ((Below.cell ((Below.refl _ w4).alloc (Nat.le_refl _) (.cells #[.int .u8 (X1 : Int), .int .u8 1] 5)) (block_lt_of_cell (unhide HCc))).trans (unhide HCc))
        have HF5 := hide ((World.frozen?_of_block (a := ⟨Bp, 0, none⟩) (Below.block ((Below.refl _ w4).alloc (Nat.le_refl _) (.cells #[.int .u8 (X1 : Int), .int .u8 1] 5)) Bp (block_lt_of_cell (unhide HCc)))).trans (unhide HFc))
        obtain ⟨w5, hw5⟩ : ∃ w5, w4.alloc (.cells #[.int .u8 (X1 : Int), .int .u8 1] 5) = w5 := ⟨_, rfl⟩
        rw [hw5] at HB5 HA5 HV5 HC5 HF5 ⊢
        have hz45 : w4.heap.size ≤ w5.heap.size := by rw [← hw5]; simp
        clear hw5
        refine hK.out _ _ ((Kp.refl [Bp] W).ofBelow (unhide HB5)) (fun hHeld => ?_)
        clear hK K HH
        have HH := hide hHeld
        clear hHeld
        (try simp only [Act.put, List.setIfInBounds_toArray, List.set_cons_zero, List.set_cons_succ])
        clear HCc
        have HCc := HC5
        refine wpAnyH_ready (rs := [0]) (by kernel_rfl) (by simp) ?_
        refine consL rfl (fun K hK => ?_) AllReadyH.nil
        have he := unhide HCc
        go_simp
        refine hK.out _ _ (unhide HH) (fun hHeld => ?_)
        clear hK K HH
        have HH := hide hHeld
        clear hHeld
        (try simp only [Act.put, List.setIfInBounds_toArray, List.set_cons_zero, List.set_cons_succ])
        clear he
        refine wpAnyH_ready (rs := [4]) (by kernel_rfl) (by simp) ?_
        refine consL rfl (fun K hK => ?_) AllReadyH.nil
        go_simp
        refine (pmul_any _ _ g w4.heap.size p [X1, 1] w5 (unhide HA5) (unhide HV5) (by omega) (by simp)).mono ?_
        rintro e w6 ⟨v6, rfl, hF6, hk6⟩
        have HB6 : Hid (Below W.heap.size W w6) := (unhide HB5).trans (hk6.mono (unhide HB5).size)
        have HC6 := hide ((hk6.cell (block_lt_of_cell (unhide HC5))).trans (unhide HC5))
        have HF6 := hide ((World.frozen?_of_block (a := ⟨Bp, 0, none⟩) (hk6.block Bp (block_lt_of_cell (unhide HC5)))).trans (unhide HF5))
        have HR6 := hide hF6
        obtain ⟨a6, l6, c6, rfl⟩ := hF6.shape
        have hz56 := hk6.size
        clear hk6 hF6
        go_wp2_with fail
        refine hK.out _ _ ((Kp.refl [Bp] W).ofBelow (unhide HB6)) (fun hHeld => ?_)
        clear hK K HH
        have HH := hide hHeld
        clear hHeld
        (try simp only [Act.put, List.setIfInBounds_toArray, List.set_cons_zero, List.set_cons_succ])
        refine wpAnyH_ready (rs := [5]) (by kernel_rfl) (by simp) ?_
        refine consL rfl (fun K hK => ?_) AllReadyH.nil
        have hc6 := unhide HC6
        have hf6 := unhide HF6
        go_simp
        refine hK.out _ _ (((Kp.refl [Bp] W).ofBelow (unhide HB6)).setCell ⟨Bp, 0, none⟩ _ (.inl (by simp))) (fun hHeld => ?_)
        clear hHeld hK K
        (try simp only [Act.put, List.setIfInBounds_toArray, List.set_cons_zero, List.set_cons_succ])
        refine wpAnyH_done (by kernel_rfl) ?_ _
        refine ⟨(kept_of_below (unhide HB6)).trans (KeepsOthers.setCell _ _ _), ((Kq.refl _ _ W).below (unhide HB6) hz).setCell ⟨Bp, 0, none⟩ _ (by simp), ⟨_, World.cell?_setCell_same' _ _ _ (by rw [hc6]; rfl), by rw [World.frozen?_setCell]; exact hf6, ?_⟩, ((unhide HBW).trans ((unhide HB6).mono hzw)).setCell (p := ⟨Bp, 0, none⟩) hBp _, (hB0.trans ((unhide HB6).mono (by omega))).setCell (p := ⟨Bp, 0, none⟩) (by omega) _⟩
        rw [List.map_append, List.foldl_append, unhide HP]
        show Fr _ _ _ (trim (pmul p [E m, 1]))
        rw [unhide HX1]
        have hBz := (unhide HB5).size
        refine Fr.box (unhide HR6) (by omega) ?_
        rintro g6 hg6 rfl
        have := block_lt_of_cell (unhide HC5)
        simp at this
        omega
  case done =>
    rintro D ys W hD hys ⟨⟨v, hc, hf, hF⟩, hB, _⟩ hK
    obtain ⟨av, lv, cv, rfl⟩ := hF.shape
    rw [hys, show (orb st).foldl minF [1] = minP st from rfl] at hF
    have HF := hide hF
    clear hF
    gi_wp2
    refine ⟨by simp, .inl ⟨_, _, rfl, run_takeDeferred hK, ?_⟩⟩
    refine ⟨_, results_tmp rfl _ _ _, _, rfl, ?_, hB.trans (belowK_b (w := w) (Nat.le_refl _) W D _ _ (by omega) hK rfl rfl)⟩
    rw [hst, Int.toNat_natCast]
    rcases unhide HF with h | ⟨g, c, k1, k2, k3, k4, k5⟩
    · exact .inl h
    · refine .inr ⟨g, c, k1, k2, k3, k4.of (World.putObj_heap_other ?_), k5⟩
      rintro rfl
      obtain ⟨cur, h1, _⟩ := k4
      rw [hK] at h1
      cases h1
  case stop =>
    rintro D c pre W _ _ h _
    exact h.elim

end Go.Proofs.Ytahjcahmlangiaa
