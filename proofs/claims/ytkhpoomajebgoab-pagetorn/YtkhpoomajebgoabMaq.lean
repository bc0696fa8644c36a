/-
  bch's terms: sum, doubled, locator.
  walk[terms].first, bch.wrong.
-/
import Derived.Test.YtkhpoomajebgoabMao
import Derived.Test.YtkhpoomajebgoabMap
namespace Go.Proofs.Ytkhpoomajebgoab
open Go.RowKit Go.Shelf

/-- Four bytes as one value. -/
def tv (a b c d : Nat) : Value := .agg #[.int .u8 (a : Int), .int .u8 (b : Int), .int .u8 (c : Int), .int .u8 (d : Int)]

theorem four_cells {w : World} {B : Nat} {a b c d : Value} (h : w.heap[B]? = some (.cells #[a, b, c, d] 71 (0, 0))) :
    (w.cell? ⟨B, 0, none⟩ = some a ∧ w.cell? ⟨B, 1, none⟩ = some b ∧ w.cell? ⟨B, 2, none⟩ = some c ∧ w.cell? ⟨B, 3, none⟩ = some d) ∧
    (w.frozen? ⟨B, 0, none⟩ = false ∧ w.frozen? ⟨B, 1, none⟩ = false ∧ w.frozen? ⟨B, 2, none⟩ = false ∧ w.frozen? ⟨B, 3, none⟩ = false) := by
  refine ⟨⟨?_, ?_, ?_, ?_⟩, ?_, ?_, ?_, ?_⟩ <;> simp [World.cell?, World.frozen?, h]

theorem results_cell {P : Program} {fn : Func} {p : Tmp} {ty : TypeId} (h : fn.results = #[.cell p ty]) (tmps : Array Value) (w : World) (ad : Addr) (x : Value) (hp : tmps.getD p undef = .pointer (some ad)) (hl : (loadVar ty ad).run P w = .ok x w) :
    (results fn tmps).run P w = .ok x w := by
  rw [Array.getD_eq_getD_getElem?] at hp
  simp only [results, h]
  simp [hp, asAddr, hl]
theorem load_four {W : World} {B : Nat} {a b c d : Value} (h : W.heap[B]? = some (.cells #[a, b, c, d] 71 (0, 0))) : (loadVar 71 ⟨B, 0, none⟩).run Try.prog W = .ok (.agg #[a, b, c, d]) W := by
  obtain ⟨⟨k0, k1, k2, k3⟩, _⟩ := four_cells h
  have hu := Try.underlying71
  simp [loadVar, isAgg, run_underlying hu, go_sem, k0, k1, k2, k3]
theorem four_set0 {w : World} {B : Nat} {a b c d x : Value} (h : w.heap[B]? = some (.cells #[a, b, c, d] 71 (0, 0))) : (w.setCell ⟨B, 0, none⟩ x).heap[B]? = some (.cells #[x, b, c, d] 71 (0, 0)) := by
  rw [heap_setCell_same w B 0 _ 71 x h]; rfl
theorem four_set1 {w : World} {B : Nat} {a b c d x : Value} (h : w.heap[B]? = some (.cells #[a, b, c, d] 71 (0, 0))) : (w.setCell ⟨B, 1, none⟩ x).heap[B]? = some (.cells #[a, x, c, d] 71 (0, 0)) := by
  rw [heap_setCell_same w B 1 _ 71 x h]; rfl
theorem four_set2 {w : World} {B : Nat} {a b c d x : Value} (h : w.heap[B]? = some (.cells #[a, b, c, d] 71 (0, 0))) : (w.setCell ⟨B, 2, none⟩ x).heap[B]? = some (.cells #[a, b, x, d] 71 (0, 0)) := by
  rw [heap_setCell_same w B 2 _ 71 x h]; rfl
theorem four_set3 {w : World} {B : Nat} {a b c d x : Value} (h : w.heap[B]? = some (.cells #[a, b, c, d] 71 (0, 0))) : (w.setCell ⟨B, 3, none⟩ x).heap[B]? = some (.cells #[a, b, c, x] 71 (0, 0)) := by
  rw [heap_setCell_same w B 3 _ 71 x h]; rfl
theorem four_sets {w : World} {B : Nat} {a b c d x y z u : Value} (h : w.heap[B]? = some (.cells #[a, b, c, d] 71 (0, 0))) : ((((w.setCell ⟨B, 0, none⟩ x).setCell ⟨B, 1, none⟩ y).setCell ⟨B, 2, none⟩ z).setCell ⟨B, 3, none⟩ u).heap[B]? = some (.cells #[x, y, z, u] 71 (0, 0)) :=
  four_set3 (four_set2 (four_set1 (four_set0 h)))
theorem below_sets {n : Nat} {w0 w : World} {B : Nat} {x y z u : Value} (h : Below n w0 w) (hB : n ≤ B) : Below n w0 ((((w.setCell ⟨B, 0, none⟩ x).setCell ⟨B, 1, none⟩ y).setCell ⟨B, 2, none⟩ z).setCell ⟨B, 3, none⟩ u) :=
  (((h.setCell (p := ⟨B, 0, none⟩) hB _).setCell (p := ⟨B, 1, none⟩) hB _).setCell (p := ⟨B, 2, none⟩) hB _).setCell (p := ⟨B, 3, none⟩) hB _

set_option maxRecDepth 100000 in
set_option maxHeartbeats 4000000 in
theorem sum_any (a b c d : Nat) (ha : a < 256) (hb : b < 256) (hc : c < 256) (hd : d < 256) (w : World) :
    Calls Try.prog 50 #[tv a b c d] w fun e w' => e = .returned (.int .u8 (((a ^^^ b) ^^^ c) ^^^ d : Nat)) ∧ Below w.heap.size w w' := by
  have x0 : bits .xor .u8 0 (a : Int) = (a : Int) := by have := bits_xor_u8 (a := 0) (b := a) (by omega) ha; rw [Nat.zero_xor] at this; exact this
  have x1 := bits_xor_u8 ha hb
  have x2 := bits_xor_u8 (xor_lt ha hb) hc
  have x3 := bits_xor_u8 (xor_lt (xor_lt ha hb) hc) hd
  have i0 : ∀ w : World, (Instr.index 71 (.agg #[.int .u8 (a : Int), .int .u8 (b : Int), .int .u8 (c : Int), .int .u8 (d : Int)]) (.int .i64 0)).run Try.prog w = .ok (.int .u8 (a : Int)) w := fun _ => by kernel_rfl
  have i1 : ∀ w : World, (Instr.index 71 (.agg #[.int .u8 (a : Int), .int .u8 (b : Int), .int .u8 (c : Int), .int .u8 (d : Int)]) (.int .i64 1)).run Try.prog w = .ok (.int .u8 (b : Int)) w := fun _ => by kernel_rfl
  have i2 : ∀ w : World, (Instr.index 71 (.agg #[.int .u8 (a : Int), .int .u8 (b : Int), .int .u8 (c : Int), .int .u8 (d : Int)]) (.int .i64 2)).run Try.prog w = .ok (.int .u8 (c : Int)) w := fun _ => by kernel_rfl
  have i3 : ∀ w : World, (Instr.index 71 (.agg #[.int .u8 (a : Int), .int .u8 (b : Int), .int .u8 (c : Int), .int .u8 (d : Int)]) (.int .i64 3)).run Try.prog w = .ok (.int .u8 (d : Int)) w := fun _ => by kernel_rfl
  unfold tv
  go_enter Try.func50, Try.ntmps50
  have HB := hide ((Below.refl _ w).alloc (Nat.le_refl _) (.cells #[.int .u8 (a : Int), .int .u8 (b : Int), .int .u8 (c : Int), .int .u8 (d : Int)] 71))
  go_wp2
  go_loopw [3, 7] (fun p q wr => Below w.heap.size w wr ∧ ((p = .int .u8 0 ∧ q = .int .i64 0) ∨ (p = .int .u8 a ∧ q = .int .i64 1) ∨ (p = .int .u8 (a ^^^ b : Nat) ∧ q = .int .i64 2) ∨ (p = .int .u8 ((a ^^^ b) ^^^ c : Nat) ∧ q = .int .i64 3) ∨ (p = .int .u8 (((a ^^^ b) ^^^ c) ^^^ d : Nat) ∧ q = .int .i64 4))) (fun _ q _ => 4 - (intOf q).toNat)
  case atStart => exact ⟨unhide HB, .inl ⟨rfl, rfl⟩⟩
  case round =>
    obtain ⟨hK, hrel⟩ := hrel
    have HK := hide hK
    clear hK HB
    rcases hrel with ⟨rfl, rfl⟩ | ⟨rfl, rfl⟩ | ⟨rfl, rfl⟩ | ⟨rfl, rfl⟩ | ⟨rfl, rfl⟩
    · go_wp2
      go_roundw
      case rel => exact ⟨unhide HK, .inr (.inl ⟨rfl, rfl⟩)⟩
      case measure => simp [intOf]
    · go_wp2
      go_roundw
      case rel => exact ⟨unhide HK, .inr (.inr (.inl ⟨rfl, rfl⟩))⟩
      case measure => simp [intOf]
    · go_wp2
      go_roundw
      case rel => exact ⟨unhide HK, .inr (.inr (.inr (.inl ⟨rfl, rfl⟩)))⟩
      case measure => simp [intOf]
    · go_wp2
      go_roundw
      case rel => exact ⟨unhide HK, .inr (.inr (.inr (.inr ⟨rfl, rfl⟩)))⟩
      case measure => simp [intOf]
    · go_wp2
      go_ret
      exact ⟨rfl, unhide HK⟩

set_option maxRecDepth 100000 in
set_option maxHeartbeats 4000000 in
theorem locator_any (v : Value) (g : Nat) (s : List Nat) (w : World) (hA : Arg w v g s) (hl : s.length = 8) :
    Calls Try.prog 46 #[v] w fun e w' => e = .returned (tv (cub3 (cf s 0) (cf s 1) (cf s 2) (cf s 4)) (cub2 (cf s 0) (cf s 1) (cf s 2) (cf s 4)) (cf s 0) 1) ∧ Below w.heap.size w w' := by
  obtain ⟨⟨ao, c, rfl, hc1, hc2, hnil, hr⟩, hbs⟩ := hA
  obtain ⟨o, rfl⟩ := row_some hr (by omega)
  rw [hl]
  have c0 := (row_cell hr (j := 0) (by omega))
  have c1 := (row_cell hr (j := 1) (by omega))
  have c2 := (row_cell hr (j := 2) (by omega))
  have c4 := (row_cell hr (j := 4) (by omega))
  have hgl := block_lt_of_cell c0
  obtain ⟨s1, e1⟩ : ∃ x, cf s 0 = x := ⟨_, rfl⟩
  obtain ⟨s2, e2⟩ : ∃ x, cf s 1 = x := ⟨_, rfl⟩
  obtain ⟨s3, e3⟩ : ∃ x, cf s 2 = x := ⟨_, rfl⟩
  obtain ⟨s5, e5⟩ : ∃ x, cf s 4 = x := ⟨_, rfl⟩
  have l1 := hbs 0
  have l2 := hbs 1
  have l3 := hbs 2
  have l5 := hbs 4
  rw [e1] at c0 l1
  rw [e2] at c1 l2
  rw [e3] at c2 l3
  rw [e5] at c4 l5
  rw [e1, e2, e3, e5]
  have D : Below w.heap.size w (w.alloc (.cells #[.int .u8 0, .int .u8 0, .int .u8 0, .int .u8 0] 71)) := (Below.refl _ w).alloc (Nat.le_refl _) _
  have d0 := (D.cell (p := ⟨g, o + 0, none⟩) hgl).trans c0
  have d1 := (D.cell (p := ⟨g, o + 1, none⟩) hgl).trans c1
  have d2 := (D.cell (p := ⟨g, o + 2, none⟩) hgl).trans c2
  have d4 := (D.cell (p := ⟨g, o + 4, none⟩) hgl).trans c4
  rw [Nat.add_zero] at d0
  have HN := hide (World.alloc_heap_new w (.cells #[.int .u8 0, .int .u8 0, .int .u8 0, .int .u8 0] 71))
  have HD := hide D
  clear e1 e2 e3 e5 hr hnil c0 c1 c2 c4 D
  obtain ⟨w0, hw0⟩ : ∃ w0, w.alloc (.cells #[.int .u8 0, .int .u8 0, .int .u8 0, .int .u8 0] 71) = w0 := ⟨_, rfl⟩
  rw [hw0] at d0 d1 d2 d4 HN HD
  have x1 := bits_xor_u8 (gmul_lt (b := s2) l1) l3
  have x2 := bits_xor_u8 (gmul_lt (b := s3) l2) l5
  have x3 := bits_xor_u8 (gmul_lt (b := s1) (cub2_lt (s1 := s1) (s2 := s2) (s3 := s3) (s5 := s5) l2 l5)) (cubD_lt (s1 := s1) (s2 := s2) (s3 := s3) l1 l3)
  go_enter Try.func46, Try.ntmps46
  go_wp2_with fail
  go_quiet (fail)
  clear d0 d1 d2 d4 hw0
  have HD2 : Hid (Below w.heap.size w (w0.drewN nq)) := ⟨(unhide HD).os, (unhide HD).tape, (unhide HD).output, (unhide HD).size, (unhide HD).block⟩
  have HN2 : Hid ((w0.drewN nq).heap[w.heap.size]? = some (.cells #[.int .u8 0, .int .u8 0, .int .u8 0, .int .u8 0] 71 (0, 0))) := unhide HN
  clear HD HN
  obtain ⟨w1, hw1⟩ : ∃ w1, w0.drewN nq = w1 := ⟨_, rfl⟩
  rw [hw1] at HD2 HN2 ⊢
  clear hw1
  go_wp2_with fail
  refine (mul_any s1 s2 l1 l2 _).mono ?_
  rintro e w2 ⟨rfl, hk2⟩
  have HD3 := hide ((unhide HD2).trans (hk2.mono (unhide HD2).size))
  have HN3 := hide ((hk2.block _ (Array.getElem?_eq_some_iff.1 (unhide HN2)).1).trans (unhide HN2))
  clear hk2 HD2 HN2
  rw [show gmul s1 s2 ^^^ s3 = cubD s1 s2 s3 from rfl] at x1
  go_wp2_with fail
  refine (mul_any s2 s3 l2 l3 _).mono ?_
  rintro e w3 ⟨rfl, hk3⟩
  have HD4 := hide ((unhide HD3).trans (hk3.mono (unhide HD3).size))
  have HN4 := hide ((hk3.block _ (Array.getElem?_eq_some_iff.1 (unhide HN3)).1).trans (unhide HN3))
  clear hk3 HD3 HN3
  go_wp2_with fail
  refine (inv_any (cubD s1 s2 s3) (cubD_lt l1 l3) _).mono ?_
  rintro e w4 ⟨rfl, hk4⟩
  have HD5 := hide ((unhide HD4).trans (hk4.mono (unhide HD4).size))
  have HN5 := hide ((hk4.block _ (Array.getElem?_eq_some_iff.1 (unhide HN4)).1).trans (unhide HN4))
  clear hk4 HD4 HN4
  go_wp2_with fail
  refine (mul_any (gmul s2 s3 ^^^ s5) (pw (cubD s1 s2 s3) (-1)) (xor_lt (gmul_lt l2) l5) (pw_lt _ _) _).mono ?_
  rintro e w5 ⟨rfl, hk5⟩
  have HD6 := hide ((unhide HD5).trans (hk5.mono (unhide HD5).size))
  have HN6 := hide ((hk5.block _ (Array.getElem?_eq_some_iff.1 (unhide HN5)).1).trans (unhide HN5))
  clear hk5 HD5 HN5
  rw [show gmul (gmul s2 s3 ^^^ s5) (pw (cubD s1 s2 s3) (-1)) = cub2 s1 s2 s3 s5 from rfl]
  have y1 := cub2_lt (s1 := s1) (s2 := s2) (s3 := s3) (s5 := s5) l2 l5
  have y2 := cubD_lt (s1 := s1) (s2 := s2) (s3 := s3) l1 l3
  obtain ⟨c2, hc2⟩ : ∃ x, cub2 s1 s2 s3 s5 = x := ⟨_, rfl⟩
  have H3 : Hid (cub3 s1 s2 s3 s5 = gmul c2 s1 ^^^ cubD s1 s2 s3) := by show _ = _; rw [← hc2]; rfl
  rw [hc2] at x3 y1 ⊢
  have HC2 := hide hc2
  clear hc2
  go_wp2_with fail
  refine (mul_any c2 s1 y1 l1 _).mono ?_
  rintro e w6 ⟨rfl, hk6⟩
  have HD7 := hide ((unhide HD6).trans (hk6.mono (unhide HD6).size))
  have hN7 := ((hk6.block _ (Array.getElem?_eq_some_iff.1 (unhide HN6)).1).trans (unhide HN6))
  clear hk6 HD6 HN6
  obtain ⟨⟨k0, k1, k2, k3⟩, f0, f1, f2, f3⟩ := four_cells hN7
  have HN7 := hide hN7
  clear hN7
  go_wp2
  have h4 := four_sets (x := .int .u8 ((gmul c2 s1 ^^^ cubD s1 s2 s3 : Nat) : Int)) (y := .int .u8 (c2 : Int)) (z := .int .u8 (s1 : Int)) (u := .int .u8 1) (unhide HN7)
  have hB4 := below_sets (unhide HD7) (B := w.heap.size) (x := .int .u8 ((gmul c2 s1 ^^^ cubD s1 s2 s3 : Nat) : Int)) (y := .int .u8 (c2 : Int)) (z := .int .u8 (s1 : Int)) (u := .int .u8 1) (Nat.le_refl _)
  rw [unhide H3, unhide HC2]
  clear k0 k1 k2 k3 f0 f1 f2 f3
  generalize (((w6.setCell ⟨w.heap.size, 0, none⟩ (.int .u8 ((gmul c2 s1 ^^^ cubD s1 s2 s3 : Nat) : Int))).setCell ⟨w.heap.size, 1, none⟩ (.int .u8 (c2 : Int))).setCell ⟨w.heap.size, 2, none⟩ (.int .u8 (s1 : Int))).setCell ⟨w.heap.size, 3, none⟩ (.int .u8 1) = W at h4 hB4 ⊢
  refine bodyPost_ret (results_cell rfl _ _ ⟨w.heap.size, 0, none⟩ _ rfl (load_four h4)) rfl ?_
  exact ⟨rfl, hB4⟩

set_option maxRecDepth 100000 in
set_option maxHeartbeats 8000000 in
theorem doubled_any (a b c d : Nat) (ha : a < 256) (hb : b < 256) (hc : c < 256) (hd : d < 256) (w : World) :
    Calls Try.prog 48 #[tv a b c d] w fun e w' => e = .returned (tv (gmul a 1) (gmul b 2) (gmul c 4) (gmul d 8)) ∧ Below w.heap.size w w' := by
  unfold tv
  have HB : Hid (Below w.heap.size w ((w.alloc (.cells #[.int .u8 (a : Int), .int .u8 (b : Int), .int .u8 (c : Int), .int .u8 (d : Int)] 71)).alloc (.cells #[.int .u8 0, .int .u8 0, .int .u8 0, .int .u8 0] 71))) := ((Below.refl _ w).alloc (Nat.le_refl _) _).alloc (by simp) _
  have HC : Hid (((w.alloc (.cells #[.int .u8 (a : Int), .int .u8 (b : Int), .int .u8 (c : Int), .int .u8 (d : Int)] 71)).alloc (.cells #[.int .u8 0, .int .u8 0, .int .u8 0, .int .u8 0] 71)).heap[w.heap.size]? = some (.cells #[.int .u8 (a : Int), .int .u8 (b : Int), .int .u8 (c : Int), .int .u8 (d : Int)] 71 (0, 0))) := (Below.heap_alloc _ _ _ (by simp)).trans (World.alloc_heap_new w _)
  have HR : Hid (((w.alloc (.cells #[.int .u8 (a : Int), .int .u8 (b : Int), .int .u8 (c : Int), .int .u8 (d : Int)] 71)).alloc (.cells #[.int .u8 0, .int .u8 0, .int .u8 0, .int .u8 0] 71)).heap[w.heap.size + 1]? = some (.cells #[.int .u8 0, .int .u8 0, .int .u8 0, .int .u8 0] 71 (0, 0))) := by
    have h := World.alloc_heap_new (w.alloc (.cells #[.int .u8 (a : Int), .int .u8 (b : Int), .int .u8 (c : Int), .int .u8 (d : Int)] 71)) (.cells #[.int .u8 0, .int .u8 0, .int .u8 0, .int .u8 0] 71)
    rw [World.size_alloc] at h
    exact h
  go_enter Try.func48, Try.ntmps48
  go_wp2_with fail
  go_loopw [4] (fun q wr => (Below w.heap.size w wr ∧ wr.heap[w.heap.size + 1]? = some (.cells #[.int .u8 0, .int .u8 0, .int .u8 0, .int .u8 0] 71 (0, 0))) ∧ ((q = .int .i64 0 ∧ wr.heap[w.heap.size]? = some (.cells #[.int .u8 (a : Int), .int .u8 (b : Int), .int .u8 (c : Int), .int .u8 (d : Int)] 71 (0, 0))) ∨ (q = .int .i64 1 ∧ wr.heap[w.heap.size]? = some (.cells #[.int .u8 ((gmul a 1 : Nat) : Int), .int .u8 (b : Int), .int .u8 (c : Int), .int .u8 (d : Int)] 71 (0, 0))) ∨ (q = .int .i64 2 ∧ wr.heap[w.heap.size]? = some (.cells #[.int .u8 ((gmul a 1 : Nat) : Int), .int .u8 ((gmul b 2 : Nat) : Int), .int .u8 (c : Int), .int .u8 (d : Int)] 71 (0, 0))) ∨ (q = .int .i64 3 ∧ wr.heap[w.heap.size]? = some (.cells #[.int .u8 ((gmul a 1 : Nat) : Int), .int .u8 ((gmul b 2 : Nat) : Int), .int .u8 ((gmul c 4 : Nat) : Int), .int .u8 (d : Int)] 71 (0, 0))) ∨ (q = .int .i64 4 ∧ wr.heap[w.heap.size]? = some (.cells #[.int .u8 ((gmul a 1 : Nat) : Int), .int .u8 ((gmul b 2 : Nat) : Int), .int .u8 ((gmul c 4 : Nat) : Int), .int .u8 ((gmul d 8 : Nat) : Int)] 71 (0, 0))))) (fun q _ => 4 - (intOf q).toNat)
  case atStart => exact ⟨⟨unhide HB, unhide HR⟩, .inl ⟨rfl, unhide HC⟩⟩
  case round =>
    obtain ⟨⟨hK, hR⟩, hrel⟩ := hrel
    have HK := hide hK
    have HR1 := hide hR
    clear hK hR HB HC HR
    rcases hrel with ⟨rfl, h4⟩ | ⟨rfl, h4⟩ | ⟨rfl, h4⟩ | ⟨rfl, h4⟩ | ⟨rfl, h4⟩
    · have H4 := hide h4
      clear h4
      go_wp2_with fail
      refine wp_region_noPanic ?_
      refine wp_region_held_drew (S := fun W => Kp [w.heap.size] wr W) (by kernel_rfl) ((Kp.refl _ _).drew) (fun hHeld => ?_)
      have HH := hide hHeld
      clear hHeld
      refine takeL (i := 0) (v := ?_) rfl (by kernel_rfl) (by kernel_rfl) (by kernel_rfl) (fun _ _ _ h => h) (Or.inl ⟨by rfl, ?_⟩) (unhide HH) ?_
      rotate_left 1
      · intro W hSW; go_simp; all_goals (with_reducible rfl)
      (try simp only [Act.put, List.setIfInBounds_toArray, List.set_cons_zero, List.set_cons_succ])
      refine takeL (i := 1) (v := ?_) rfl (by kernel_rfl) (by kernel_rfl) (by kernel_rfl) (fun _ _ _ h => h) (Or.inl ⟨by rfl, ?_⟩) (unhide HH) ?_
      rotate_left 1
      · intro W hSW; go_simp; all_goals (with_reducible rfl)
      (try simp only [Act.put, List.setIfInBounds_toArray, List.set_cons_zero, List.set_cons_succ])
      refine takeL (i := 2) (v := ?_) rfl (by kernel_rfl) (by kernel_rfl) (by kernel_rfl) (fun _ _ _ h => h) (Or.inl ⟨by rfl, ?_⟩) (unhide HH) ?_
      rotate_left 1
      · intro W hSW; go_simp; all_goals (with_reducible rfl)
      (try simp only [Act.put, List.setIfInBounds_toArray, List.set_cons_zero, List.set_cons_succ])
      refine takeL (i := 4) (v := ?_) rfl (by kernel_rfl) (by kernel_rfl) (by kernel_rfl) (fun _ _ _ h => h) (Or.inl ⟨by rfl, ?_⟩) (unhide HH) ?_
      rotate_left 1
      · intro W hSW; go_simp; all_goals (with_reducible rfl)
      (try simp only [Act.put, List.setIfInBounds_toArray, List.set_cons_zero, List.set_cons_succ])
      refine takeL (i := 5) (v := ?_) rfl (by kernel_rfl) (by kernel_rfl) (by kernel_rfl) (fun _ _ _ h => h) (Or.inl ⟨by rfl, ?_⟩) (unhide HH) ?_
      rotate_left 1
      · intro W hSW; go_simp; all_goals (with_reducible rfl)
      (try simp only [Act.put, List.setIfInBounds_toArray, List.set_cons_zero, List.set_cons_succ])
      refine wpAnyH_ready (rs := [3]) (by kernel_rfl) (by simp) ?_
      refine consL rfl (fun K hK => ?_) AllReadyH.nil
      have hc4 : wr.drew.cell? ⟨w.heap.size, 0, none⟩ = some (.int .u8 (a : Int)) := by have h := (four_cells (unhide H4)).1; exact h.1
      go_simp
      refine hK.out _ _ (unhide HH) (fun hHeld => ?_)
      clear hK K HH
      have HH := hide hHeld
      clear hHeld
      (try simp only [Act.put, List.setIfInBounds_toArray, List.set_cons_zero, List.set_cons_succ])
      clear hc4
      refine wpAnyH_ready (rs := [6]) (by kernel_rfl) (by simp) ?_
      refine consL rfl (fun K hK => ?_) AllReadyH.nil
      go_simp
      refine (mul_any a 1 ha (by omega) _).mono ?_
      rintro e w4 ⟨rfl, hk4⟩
      have HK4 := hide hk4
      clear hk4
      go_wp2_with fail
      refine hK.out _ _ ((unhide HH).ofBelow (unhide HK4)) (fun hHeld => ?_)
      clear hK K HH
      have HH := hide hHeld
      clear hHeld
      (try simp only [Act.put, List.setIfInBounds_toArray, List.set_cons_zero, List.set_cons_succ])
      refine takeL (i := 7) (v := ?_) rfl (by kernel_rfl) (by kernel_rfl) (by kernel_rfl) (fun _ _ _ h => h) (Or.inl ⟨by rfl, ?_⟩) (unhide HH) ?_
      rotate_left 1
      · intro W hSW; go_simp; all_goals (with_reducible rfl)
      (try simp only [Act.put, List.setIfInBounds_toArray, List.set_cons_zero, List.set_cons_succ])
      refine wpAnyH_ready (rs := [8]) (by kernel_rfl) (by simp) ?_
      refine consL rfl (fun K hK => ?_) AllReadyH.nil
      have HH2 := HH
      have H44 := hide (((unhide HK4).block _ (Array.getElem?_eq_some_iff.1 (unhide H4)).1).trans (unhide H4))
      have H45 := hide (((unhide HK4).block _ (Array.getElem?_eq_some_iff.1 (unhide HR1)).1).trans (unhide HR1))
      have hc4 := (four_cells (unhide H44)).1.1
      have hf4 := (four_cells (unhide H44)).2.1
      go_simp
      refine hK.out _ _ ((unhide HH2).setCell ⟨w.heap.size, 0, none⟩ _ (.inl (by simp))) (fun hHeld => ?_)
      clear hHeld hK K hc4 hf4
      (try simp only [Act.put, List.setIfInBounds_toArray, List.set_cons_zero, List.set_cons_succ])
      refine wpAnyH_done (by kernel_rfl) ?_ _
      refine NoPanic.normal ?_
      go_wp2_with fail
      go_roundw
      case rel =>
        have hb := (unhide HK).size
        refine ⟨⟨(((unhide HK).drew.trans ((unhide HK4).mono hb)).setCell (p := ⟨w.heap.size, 0, none⟩) (Nat.le_refl _) _), (Below.heap_setCell _ _ _ _ (by simp)).trans (unhide H45)⟩, ?_⟩
        exact .inr (.inl ⟨rfl, four_set0 (unhide H44)⟩)
      case measure => simp [intOf]
    · have H4 := hide h4
      clear h4
      go_wp2_with fail
      refine wp_region_noPanic ?_
      refine wp_region_held_drew (S := fun W => Kp [w.heap.size] wr W) (by kernel_rfl) ((Kp.refl _ _).drew) (fun hHeld => ?_)
      have HH := hide hHeld
      clear hHeld
      refine takeL (i := 0) (v := ?_) rfl (by kernel_rfl) (by kernel_rfl) (by kernel_rfl) (fun _ _ _ h => h) (Or.inl ⟨by rfl, ?_⟩) (unhide HH) ?_
      rotate_left 1
      · intro W hSW; go_simp; all_goals (with_reducible rfl)
      (try simp only [Act.put, List.setIfInBounds_toArray, List.set_cons_zero, List.set_cons_succ])
      refine takeL (i := 1) (v := ?_) rfl (by kernel_rfl) (by kernel_rfl) (by kernel_rfl) (fun _ _ _ h => h) (Or.inl ⟨by rfl, ?_⟩) (unhide HH) ?_
      rotate_left 1
      · intro W hSW; go_simp; all_goals (with_reducible rfl)
      (try simp only [Act.put, List.setIfInBounds_toArray, List.set_cons_zero, List.set_cons_succ])
      refine takeL (i := 2) (v := ?_) rfl (by kernel_rfl) (by kernel_rfl) (by kernel_rfl) (fun _ _ _ h => h) (Or.inl ⟨by rfl, ?_⟩) (unhide HH) ?_
      rotate_left 1
      · intro W hSW; go_simp; all_goals (with_reducible rfl)
      (try simp only [Act.put, List.setIfInBounds_toArray, List.set_cons_zero, List.set_cons_succ])
      refine takeL (i := 4) (v := ?_) rfl (by kernel_rfl) (by kernel_rfl) (by kernel_rfl) (fun _ _ _ h => h) (Or.inl ⟨by rfl, ?_⟩) (unhide HH) ?_
      rotate_left 1
      · intro W hSW; go_simp; all_goals (with_reducible rfl)
      (try simp only [Act.put, List.setIfInBounds_toArray, List.set_cons_zero, List.set_cons_succ])
      refine takeL (i := 5) (v := ?_) rfl (by kernel_rfl) (by kernel_rfl) (by kernel_rfl) (fun _ _ _ h => h) (Or.inl ⟨by rfl, ?_⟩) (unhide HH) ?_
      rotate_left 1
      · intro W hSW; go_simp; all_goals (with_reducible rfl)
      (try simp only [Act.put, List.setIfInBounds_toArray, List.set_cons_zero, List.set_cons_succ])
      refine wpAnyH_ready (rs := [3]) (by kernel_rfl) (by simp) ?_
      refine consL rfl (fun K hK => ?_) AllReadyH.nil
      have hc4 : wr.drew.cell? ⟨w.heap.size, 1, none⟩ = some (.int .u8 (b : Int)) := by have h := (four_cells (unhide H4)).1; exact h.2.1
      go_simp
      refine hK.out _ _ (unhide HH) (fun hHeld => ?_)
      clear hK K HH
      have HH := hide hHeld
      clear hHeld
      (try simp only [Act.put, List.setIfInBounds_toArray, List.set_cons_zero, List.set_cons_succ])
      clear hc4
      refine wpAnyH_ready (rs := [6]) (by kernel_rfl) (by simp) ?_
      refine consL rfl (fun K hK => ?_) AllReadyH.nil
      go_simp
      refine (mul_any b 2 hb (by omega) _).mono ?_
      rintro e w4 ⟨rfl, hk4⟩
      have HK4 := hide hk4
      clear hk4
      go_wp2_with fail
      refine hK.out _ _ ((unhide HH).ofBelow (unhide HK4)) (fun hHeld => ?_)
      clear hK K HH
      have HH := hide hHeld
      clear hHeld
      (try simp only [Act.put, List.setIfInBounds_toArray, List.set_cons_zero, List.set_cons_succ])
      refine takeL (i := 7) (v := ?_) rfl (by kernel_rfl) (by kernel_rfl) (by kernel_rfl) (fun _ _ _ h => h) (Or.inl ⟨by rfl, ?_⟩) (unhide HH) ?_
      rotate_left 1
      · intro W hSW; go_simp; all_goals (with_reducible rfl)
      (try simp only [Act.put, List.setIfInBounds_toArray, List.set_cons_zero, List.set_cons_succ])
      refine wpAnyH_ready (rs := [8]) (by kernel_rfl) (by simp) ?_
      refine consL rfl (fun K hK => ?_) AllReadyH.nil
      have HH2 := HH
      have H44 := hide (((unhide HK4).block _ (Array.getElem?_eq_some_iff.1 (unhide H4)).1).trans (unhide H4))
      have H45 := hide (((unhide HK4).block _ (Array.getElem?_eq_some_iff.1 (unhide HR1)).1).trans (unhide HR1))
      have hc4 := (four_cells (unhide H44)).1.2.1
      have hf4 := (four_cells (unhide H44)).2.2.1
      go_simp
      refine hK.out _ _ ((unhide HH2).setCell ⟨w.heap.size, 1, none⟩ _ (.inl (by simp))) (fun hHeld => ?_)
      clear hHeld hK K hc4 hf4
      (try simp only [Act.put, List.setIfInBounds_toArray, List.set_cons_zero, List.set_cons_succ])
      refine wpAnyH_done (by kernel_rfl) ?_ _
      refine NoPanic.normal ?_
      go_wp2_with fail
      go_roundw
      case rel =>
        have hb := (unhide HK).size
        refine ⟨⟨(((unhide HK).drew.trans ((unhide HK4).mono hb)).setCell (p := ⟨w.heap.size, 1, none⟩) (Nat.le_refl _) _), (Below.heap_setCell _ _ _ _ (by simp)).trans (unhide H45)⟩, ?_⟩
        exact .inr (.inr (.inl ⟨rfl, four_set1 (unhide H44)⟩))
      case measure => simp [intOf]
    · have H4 := hide h4
      clear h4
      go_wp2_with fail
      refine wp_region_noPanic ?_
      refine wp_region_held_drew (S := fun W => Kp [w.heap.size] wr W) (by kernel_rfl) ((Kp.refl _ _).drew) (fun hHeld => ?_)
      have HH := hide hHeld
      clear hHeld
      refine takeL (i := 0) (v := ?_) rfl (by kernel_rfl) (by kernel_rfl) (by kernel_rfl) (fun _ _ _ h => h) (Or.inl ⟨by rfl, ?_⟩) (unhide HH) ?_
      rotate_left 1
      · intro W hSW; go_simp; all_goals (with_reducible rfl)
      (try simp only [Act.put, List.setIfInBounds_toArray, List.set_cons_zero, List.set_cons_succ])
      refine takeL (i := 1) (v := ?_) rfl (by kernel_rfl) (by kernel_rfl) (by kernel_rfl) (fun _ _ _ h => h) (Or.inl ⟨by rfl, ?_⟩) (unhide HH) ?_
      rotate_left 1
      · intro W hSW; go_simp; all_goals (with_reducible rfl)
      (try simp only [Act.put, List.setIfInBounds_toArray, List.set_cons_zero, List.set_cons_succ])
      refine takeL (i := 2) (v := ?_) rfl (by kernel_rfl) (by kernel_rfl) (by kernel_rfl) (fun _ _ _ h => h) (Or.inl ⟨by rfl, ?_⟩) (unhide HH) ?_
      rotate_left 1
      · intro W hSW; go_simp; all_goals (with_reducible rfl)
      (try simp only [Act.put, List.setIfInBounds_toArray, List.set_cons_zero, List.set_cons_succ])
      refine takeL (i := 4) (v := ?_) rfl (by kernel_rfl) (by kernel_rfl) (by kernel_rfl) (fun _ _ _ h => h) (Or.inl ⟨by rfl, ?_⟩) (unhide HH) ?_
      rotate_left 1
      · intro W hSW; go_simp; all_goals (with_reducible rfl)
      (try simp only [Act.put, List.setIfInBounds_toArray, List.set_cons_zero, List.set_cons_succ])
      refine takeL (i := 5) (v := ?_) rfl (by kernel_rfl) (by kernel_rfl) (by kernel_rfl) (fun _ _ _ h => h) (Or.inl ⟨by rfl, ?_⟩) (unhide HH) ?_
      rotate_left 1
      · intro W hSW; go_simp; all_goals (with_reducible rfl)
      (try simp only [Act.put, List.setIfInBounds_toArray, List.set_cons_zero, List.set_cons_succ])
      refine wpAnyH_ready (rs := [3]) (by kernel_rfl) (by simp) ?_
      refine consL rfl (fun K hK => ?_) AllReadyH.nil
      have hc4 : wr.drew.cell? ⟨w.heap.size, 2, none⟩ = some (.int .u8 (c : Int)) := by have h := (four_cells (unhide H4)).1; exact h.2.2.1
      go_simp
      refine hK.out _ _ (unhide HH) (fun hHeld => ?_)
      clear hK K HH
      have HH := hide hHeld
      clear hHeld
      (try simp only [Act.put, List.setIfInBounds_toArray, List.set_cons_zero, List.set_cons_succ])
      clear hc4
      refine wpAnyH_ready (rs := [6]) (by kernel_rfl) (by simp) ?_
      refine consL rfl (fun K hK => ?_) AllReadyH.nil
      go_simp
      refine (mul_any c 4 hc (by omega) _).mono ?_
      rintro e w4 ⟨rfl, hk4⟩
      have HK4 := hide hk4
      clear hk4
      go_wp2_with fail
      refine hK.out _ _ ((unhide HH).ofBelow (unhide HK4)) (fun hHeld => ?_)
      clear hK K HH
      have HH := hide hHeld
      clear hHeld
      (try simp only [Act.put, List.setIfInBounds_toArray, List.set_cons_zero, List.set_cons_succ])
      refine takeL (i := 7) (v := ?_) rfl (by kernel_rfl) (by kernel_rfl) (by kernel_rfl) (fun _ _ _ h => h) (Or.inl ⟨by rfl, ?_⟩) (unhide HH) ?_
      rotate_left 1
      · intro W hSW; go_simp; all_goals (with_reducible rfl)
      (try simp only [Act.put, List.setIfInBounds_toArray, List.set_cons_zero, List.set_cons_succ])
      refine wpAnyH_ready (rs := [8]) (by kernel_rfl) (by simp) ?_
      refine consL rfl (fun K hK => ?_) AllReadyH.nil
      have HH2 := HH
      have H44 := hide (((unhide HK4).block _ (Array.getElem?_eq_some_iff.1 (unhide H4)).1).trans (unhide H4))
      have H45 := hide (((unhide HK4).block _ (Array.getElem?_eq_some_iff.1 (unhide HR1)).1).trans (unhide HR1))
      have hc4 := (four_cells (unhide H44)).1.2.2.1
      have hf4 := (four_cells (unhide H44)).2.2.2.1
      go_simp
      refine hK.out _ _ ((unhide HH2).setCell ⟨w.heap.size, 2, none⟩ _ (.inl (by simp))) (fun hHeld => ?_)
      clear hHeld hK K hc4 hf4
      (try simp only [Act.put, List.setIfInBounds_toArray, List.set_cons_zero, List.set_cons_succ])
      refine wpAnyH_done (by kernel_rfl) ?_ _
      refine NoPanic.normal ?_
      go_wp2_with fail
      go_roundw
      case rel =>
        have hb := (unhide HK).size
        refine ⟨⟨(((unhide HK).drew.trans ((unhide HK4).mono hb)).setCell (p := ⟨w.heap.size, 2, none⟩) (Nat.le_refl _) _), (Below.heap_setCell _ _ _ _ (by simp)).trans (unhide H45)⟩, ?_⟩
        exact .inr (.inr (.inr (.inl ⟨rfl, four_set2 (unhide H44)⟩)))
      case measure => simp [intOf]
    · have H4 := hide h4
      clear h4
      go_wp2_with fail
      refine wp_region_noPanic ?_
      refine wp_region_held_drew (S := fun W => Kp [w.heap.size] wr W) (by kernel_rfl) ((Kp.refl _ _).drew) (fun hHeld => ?_)
      have HH := hide hHeld
      clear hHeld
      refine takeL (i := 0) (v := ?_) rfl (by kernel_rfl) (by kernel_rfl) (by kernel_rfl) (fun _ _ _ h => h) (Or.inl ⟨by rfl, ?_⟩) (unhide HH) ?_
      rotate_left 1
      · intro W hSW; go_simp; all_goals (with_reducible rfl)
      (try simp only [Act.put, List.setIfInBounds_toArray, List.set_cons_zero, List.set_cons_succ])
      refine takeL (i := 1) (v := ?_) rfl (by kernel_rfl) (by kernel_rfl) (by kernel_rfl) (fun _ _ _ h => h) (Or.inl ⟨by rfl, ?_⟩) (unhide HH) ?_
      rotate_left 1
      · intro W hSW; go_simp; all_goals (with_reducible rfl)
      (try simp only [Act.put, List.setIfInBounds_toArray, List.set_cons_zero, List.set_cons_succ])
      refine takeL (i := 2) (v := ?_) rfl (by kernel_rfl) (by kernel_rfl) (by kernel_rfl) (fun _ _ _ h => h) (Or.inl ⟨by rfl, ?_⟩) (unhide HH) ?_
      rotate_left 1
      · intro W hSW; go_simp; all_goals (with_reducible rfl)
      (try simp only [Act.put, List.setIfInBounds_toArray, List.set_cons_zero, List.set_cons_succ])
      refine takeL (i := 4) (v := ?_) rfl (by kernel_rfl) (by kernel_rfl) (by kernel_rfl) (fun _ _ _ h => h) (Or.inl ⟨by rfl, ?_⟩) (unhide HH) ?_
      rotate_left 1
      · intro W hSW; go_simp; all_goals (with_reducible rfl)
      (try simp only [Act.put, List.setIfInBounds_toArray, List.set_cons_zero, List.set_cons_succ])
      refine takeL (i := 5) (v := ?_) rfl (by kernel_rfl) (by kernel_rfl) (by kernel_rfl) (fun _ _ _ h => h) (Or.inl ⟨by rfl, ?_⟩) (unhide HH) ?_
      rotate_left 1
      · intro W hSW; go_simp; all_goals (with_reducible rfl)
      (try simp only [Act.put, List.setIfInBounds_toArray, List.set_cons_zero, List.set_cons_succ])
      refine wpAnyH_ready (rs := [3]) (by kernel_rfl) (by simp) ?_
      refine consL rfl (fun K hK => ?_) AllReadyH.nil
      have hc4 : wr.drew.cell? ⟨w.heap.size, 3, none⟩ = some (.int .u8 (d : Int)) := by have h := (four_cells (unhide H4)).1; exact h.2.2.2
      go_simp
      refine hK.out _ _ (unhide HH) (fun hHeld => ?_)
      clear hK K HH
      have HH := hide hHeld
      clear hHeld
      (try simp only [Act.put, List.setIfInBounds_toArray, List.set_cons_zero, List.set_cons_succ])
      clear hc4
      refine wpAnyH_ready (rs := [6]) (by kernel_rfl) (by simp) ?_
      refine consL rfl (fun K hK => ?_) AllReadyH.nil
      go_simp
      refine (mul_any d 8 hd (by omega) _).mono ?_
      rintro e w4 ⟨rfl, hk4⟩
      have HK4 := hide hk4
      clear hk4
      go_wp2_with fail
      refine hK.out _ _ ((unhide HH).ofBelow (unhide HK4)) (fun hHeld => ?_)
      clear hK K HH
      have HH := hide hHeld
      clear hHeld
      (try simp only [Act.put, List.setIfInBounds_toArray, List.set_cons_zero, List.set_cons_succ])
      refine takeL (i := 7) (v := ?_) rfl (by kernel_rfl) (by kernel_rfl) (by kernel_rfl) (fun _ _ _ h => h) (Or.inl ⟨by rfl, ?_⟩) (unhide HH) ?_
      rotate_left 1
      · intro W hSW; go_simp; all_goals (with_reducible rfl)
      (try simp only [Act.put, List.setIfInBounds_toArray, List.set_cons_zero, List.set_cons_succ])
      refine wpAnyH_ready (rs := [8]) (by kernel_rfl) (by simp) ?_
      refine consL rfl (fun K hK => ?_) AllReadyH.nil
      have HH2 := HH
      have H44 := hide (((unhide HK4).block _ (Array.getElem?_eq_some_iff.1 (unhide H4)).1).trans (unhide H4))
      have H45 := hide (((unhide HK4).block _ (Array.getElem?_eq_some_iff.1 (unhide HR1)).1).trans (unhide HR1))
      have hc4 := (four_cells (unhide H44)).1.2.2.2
      have hf4 := (four_cells (unhide H44)).2.2.2.2
      go_simp
      refine hK.out _ _ ((unhide HH2).setCell ⟨w.heap.size, 3, none⟩ _ (.inl (by simp))) (fun hHeld => ?_)
      clear hHeld hK K hc4 hf4
      (try simp only [Act.put, List.setIfInBounds_toArray, List.set_cons_zero, List.set_cons_succ])
      refine wpAnyH_done (by kernel_rfl) ?_ _
      refine NoPanic.normal ?_
      go_wp2_with fail
      go_roundw
      case rel =>
        have hb := (unhide HK).size
        refine ⟨⟨(((unhide HK).drew.trans ((unhide HK4).mono hb)).setCell (p := ⟨w.heap.size, 3, none⟩) (Nat.le_refl _) _), (Below.heap_setCell _ _ _ _ (by simp)).trans (unhide H45)⟩, ?_⟩
        exact .inr (.inr (.inr (.inr (⟨rfl, four_set3 (unhide H44)⟩))))
      case measure => simp [intOf]
    · obtain ⟨⟨k0, k1, k2, k3⟩, _⟩ := four_cells h4
      obtain ⟨⟨m0, m1, m2, m3⟩, f0, f1, f2, f3⟩ := four_cells (unhide HR1)
      go_wp2
      have hR2 := four_sets (x := .int .u8 ((gmul a 1 : Nat) : Int)) (y := .int .u8 ((gmul b 2 : Nat) : Int)) (z := .int .u8 ((gmul c 4 : Nat) : Int)) (u := .int .u8 ((gmul d 8 : Nat) : Int)) (unhide HR1)
      have hB4 := below_sets (unhide HK) (B := w.heap.size + 1) (x := .int .u8 ((gmul a 1 : Nat) : Int)) (y := .int .u8 ((gmul b 2 : Nat) : Int)) (z := .int .u8 ((gmul c 4 : Nat) : Int)) (u := .int .u8 ((gmul d 8 : Nat) : Int)) (by omega)
      clear k0 k1 k2 k3 m0 m1 m2 m3 f0 f1 f2 f3 h4
      generalize (((wr.setCell ⟨w.heap.size + 1, 0, none⟩ (.int .u8 ((gmul a 1 : Nat) : Int))).setCell ⟨w.heap.size + 1, 1, none⟩ (.int .u8 ((gmul b 2 : Nat) : Int))).setCell ⟨w.heap.size + 1, 2, none⟩ (.int .u8 ((gmul c 4 : Nat) : Int))).setCell ⟨w.heap.size + 1, 3, none⟩ (.int .u8 ((gmul d 8 : Nat) : Int)) = W at hR2 hB4 ⊢
      refine bodyPost_ret (results_cell rfl _ _ ⟨w.heap.size + 1, 0, none⟩ _ rfl (load_four hR2)) rfl ?_
      exact ⟨rfl, hB4⟩

end Go.Proofs.Ytkhpoomajebgoab

namespace Go.Proofs.Ytkhpoomajebgoab
open Go.RowKit Go.Shelf
attribute [local go_sem] Oper.semAt_some

/-- What first's iterator has caught. -/
structure Capt (w : World) (Bc Bm a b c d : Nat) : Prop where
  c0 : w.cell? ⟨Bc, 0, none⟩ = some (.int .u8 (a : Int))
  c1 : w.cell? ⟨Bc, 1, none⟩ = some (.int .u8 (b : Int))
  c2 : w.cell? ⟨Bc, 2, none⟩ = some (.int .u8 (c : Int))
  c3 : w.cell? ⟨Bc, 3, none⟩ = some (.int .u8 (d : Int))
  c4 : w.cell? ⟨Bc, 4, none⟩ = some (.func (.func 48) #[] #[])
  m0 : w.cell? ⟨Bm, 0, none⟩ = some (.int .i64 224)

theorem Capt.lift {w w' : World} {Bc Bm a b c d : Nat} (h : Capt w Bc Bm a b c d) (hc : w'.heap[Bc]? = w.heap[Bc]?) (hm : w'.heap[Bm]? = w.heap[Bm]?) : Capt w' Bc Bm a b c d :=
  ⟨(World.cell?_of_block hc).trans h.c0, (World.cell?_of_block hc).trans h.c1, (World.cell?_of_block hc).trans h.c2, (World.cell?_of_block hc).trans h.c3, (World.cell?_of_block hc).trans h.c4, (World.cell?_of_block hm).trans h.m0⟩

set_option maxHeartbeats 1000000 in
theorem tfirst_any (a b c d : Nat) (w : World) : Calls Try.prog 49 #[.agg #[.int .u8 (a : Int), .int .u8 (b : Int), .int .u8 (c : Int), .int .u8 (d : Int), .func (.func 48) #[] #[]], .int .i64 224] w fun e w' =>
    e = .returned (.func (.func 58) #[] #[.pointer (some ⟨w.heap.size, 0, none⟩), .pointer (some ⟨w.heap.size + 1, 0, none⟩)]) ∧ Capt w' w.heap.size (w.heap.size + 1) a b c d ∧ w'.heap.size = w.heap.size + 2 ∧ Below w.heap.size w w' := by
  go_enter Try.func49, Try.ntmps49
  go_wp2
  go_ret
  have h := World.alloc_heap_new w (.cells #[.int .u8 (a : Int), .int .u8 (b : Int), .int .u8 (c : Int), .int .u8 (d : Int), .func (.func 48) #[] #[]] 76)
  have h1 : ((w.alloc (.cells #[.int .u8 (a : Int), .int .u8 (b : Int), .int .u8 (c : Int), .int .u8 (d : Int), .func (.func 48) #[] #[]] 76)).alloc (.cells #[.int .i64 224] 3)).heap[w.heap.size]? = some (.cells #[.int .u8 (a : Int), .int .u8 (b : Int), .int .u8 (c : Int), .int .u8 (d : Int), .func (.func 48) #[] #[]] 76 (0, 0)) := (Below.heap_alloc _ _ _ (by simp)).trans h
  have h2 := (cell_new' (w.alloc (.cells #[.int .u8 (a : Int), .int .u8 (b : Int), .int .u8 (c : Int), .int .u8 (d : Int), .func (.func 48) #[] #[]] 76)) (.int .i64 224) 3).1
  rw [World.size_alloc] at h2
  refine ⟨rfl, ⟨?_, ?_, ?_, ?_, ?_, h2⟩, by simp, ((Below.refl _ w).alloc (Nat.le_refl _) _).alloc (by simp) _⟩ <;> simp [World.cell?, h1]

/-- The terms at a place. -/
def tm (a b c d k : Nat) : Value := tv a (gmul b (E k)) (gmul c (E (2 * k))) (gmul d (E (3 * k)))
theorem tm_next {a b c d : Nat} (ha : a < 256) (hb : b < 256) (hc : c < 256) (hd : d < 256) (k : Nat) :
    tv (gmul a 1) (gmul (gmul b (E k)) 2) (gmul (gmul c (E (2 * k))) 4) (gmul (gmul d (E (3 * k))) 8) = tm a b c d (k + 1) := by
  have e1 : (2 : Nat) = E 1 := by decide +kernel
  have e2 : (4 : Nat) = E 2 := by decide +kernel
  have e3 : (8 : Nat) = E 3 := by decide +kernel
  unfold tm
  rw [gmul_one ha, e3, e2]
  congr 1
  · show gmul (gmul b (E k)) 2 = _
    rw [show gmul (gmul b (E k)) 2 = gmul (gmul b (E k)) (E 1) from by rw [← e1], gmul_assoc hb (E_lt _) (E_lt _), gmul_E]
  · rw [gmul_assoc hc (E_lt _) (E_lt _), gmul_E]
    congr 2
  · rw [gmul_assoc hd (E_lt _) (E_lt _), gmul_E]
    congr 2

/-- The block of the terms at a place. -/
def tcells (a b c d k : Nat) : Obj := .cells #[.int .u8 (a : Int), .int .u8 ((gmul b (E k) : Nat) : Int), .int .u8 ((gmul c (E (2 * k)) : Nat) : Int), .int .u8 ((gmul d (E (3 * k)) : Nat) : Int)] 71 (0, 0)
theorem tcells_zero {a b c d : Nat} (hb : b < 256) (hc : c < 256) (hd : d < 256) : tcells a b c d 0 = .cells #[.int .u8 (a : Int), .int .u8 (b : Int), .int .u8 (c : Int), .int .u8 (d : Int)] 71 (0, 0) := by
  unfold tcells
  rw [show E 0 = 1 from rfl, gmul_one hb, gmul_one hc, gmul_one hd]

set_option maxRecDepth 100000 in
set_option maxHeartbeats 8000000 in
theorem tfirst_x (T : Nat → Prop) (Bc Bm a b c d : Nat) (ha : a < 256) (hb : b < 256) (hc : c < 256) (hd : d < 256) (w : World) (hcap : Capt w Bc Bm a b c d) (hTc : T Bc) (hTm : T Bm) (hBc : Bc < w.heap.size) (hBm : Bm < w.heap.size) :
    SeqX Try.prog 58 #[.pointer (some ⟨Bc, 0, none⟩), .pointer (some ⟨Bm, 0, none⟩)] (fun k : Fin 224 => #[.int .i64 k.val, tm a b c d k.val]) T (fun xs => xs.map Fin.val = List.range 224) 224 w := by
  intro l J W hW hJ hY h0 n
  have hcapW := hcap.lift (hW.block _ hBc) (hW.block _ hBm)
  have hsz := hW.size
  have HCW := hide hcapW
  obtain ⟨c0, c1, c2, c3, _, m0⟩ := hcapW
  show CallsIn Fence.wide n Try.prog 58 #[.func (.yield l) #[] #[], .pointer (some ⟨Bc, 0, none⟩), .pointer (some ⟨Bm, 0, none⟩)] W _
  refine callsIn_of_wp Try.func58 rfl trivial ?_ rfl
  simp only [Try.ntmps58, List.size_toArray, List.length_cons, List.length_nil, Nat.reduceAdd, Nat.reduceSub, Array.replicate_succ, Array.replicate_zero, List.push_toArray, List.append_toArray, List.nil_append, List.cons_append]
  have m0' : (W.alloc (.cells #[.int .u8 (a : Int), .int .u8 (b : Int), .int .u8 (c : Int), .int .u8 (d : Int)] 71)).cell? ⟨Bm, 0, none⟩ = some (.int .i64 224) := (World.cell?_of_block (Below.heap_alloc _ _ _ (by show Bm < _; omega))).trans m0
  have HI : Hid ((W.alloc (.cells #[.int .u8 (a : Int), .int .u8 (b : Int), .int .u8 (c : Int), .int .u8 (d : Int)] 71)).heap[W.heap.size]? = some (tcells a b c d 0)) := by
    show _ = _
    rw [tcells_zero hb hc hd]
    exact World.alloc_heap_new W _
  have HC1 : Hid (Capt (W.alloc (.cells #[.int .u8 (a : Int), .int .u8 (b : Int), .int .u8 (c : Int), .int .u8 (d : Int)] 71)) Bc Bm a b c d) := (unhide HCW).lift (Below.heap_alloc _ _ _ (by omega)) (Below.heap_alloc _ _ _ (by omega))
  have HJ1 := hide (hJ [] _ _ h0 ((Below.refl _ W).alloc (Nat.le_refl _) (.cells #[.int .u8 (a : Int), .int .u8 (b : Int), .int .u8 (c : Int), .int .u8 (d : Int)] 71)))
  clear h0
  gi_wp2
  clear m0' c0 c1 c2 c3 m0
  gi_loopw [9] (fun q wr => ∃ (k : Nat) (pre : List (Fin 224)), q = .int .i64 k ∧ k ≤ 224 ∧ pre.map Fin.val = List.range k ∧ J pre wr ∧ Capt wr Bc Bm a b c d ∧ wr.heap[W.heap.size]? = some (tcells a b c d k)) (fun q _ => 224 - (intOf q).toNat)
  case atStart => exact ⟨0, [], rfl, by omega, rfl, unhide HJ1, unhide HC1, unhide HI⟩
  case round =>
    obtain ⟨k, pre, rfl, hk, hp, hj, hcp, hit⟩ := hrel
    have HP := hide hp
    have HCP := hide hcp
    have HIT := hide hit
    have hBc' := block_lt_of_cell hcp.c0
    have hBm' := block_lt_of_cell hcp.m0
    have hBi' := (Array.getElem?_eq_some_iff.1 hit).1
    dsimp only at hBc' hBm'
    clear hp hcp hit
    by_cases hlt : k < 224
    · have hk1 : (k : Int) < 224 := by omega
      have hlen : pre.length = k := by have := congrArg List.length (unhide HP); simpa using this
      obtain ⟨fn, tmps, assign, body, hy1, hR⟩ := hY pre ⟨k, hlt⟩ wr hj (by omega)
      dsimp only [tm, tv] at hy1
      obtain ⟨⟨k0, k1, k2, k3⟩, _⟩ := four_cells (unhide HIT)
      have HLEN := hide hlen
      clear hlen
      gi_wp2
      refine ⟨fun h => absurd h (by simp [Fence.wide]), (round_any hR).mono ?_⟩
      rintro e W3 ⟨rfl, hJ3, hk3⟩
      have hI3 := (hk3.block W.heap.size hBi' (.inl (Nat.le_refl _))).trans (unhide HIT)
      have hC3 := (unhide HCP).lift (hk3.block Bc hBc' (.inr hTc)) (hk3.block Bm hBm' (.inr hTm))
      have HC3 := hide hC3
      have q4 := hC3.c4
      have hBc3 := block_lt_of_cell hC3.c0
      have hBm3 := block_lt_of_cell hC3.m0
      have hBi3 := (Array.getElem?_eq_some_iff.1 hI3).1
      dsimp only at hBc3 hBm3
      obtain ⟨⟨j0, j1, j2, j3⟩, _⟩ := four_cells hI3
      have HI3 := hide hI3
      have HJ3 := hide hJ3
      clear hC3 hI3 hJ3 hk3 k0 k1 k2 k3 hy1 hR
      gi_wp2
      refine ⟨trivial, fun h => absurd h (by simp [Fence.wide]), (callsIn_wide.2 (doubled_any a (gmul b (E k)) (gmul c (E (2 * k))) (gmul d (E (3 * k))) ha (gmul_lt hb) (gmul_lt hc) (gmul_lt hd) W3)).mono ?_⟩
      rintro e W4 ⟨rfl, hk4⟩
      rw [tm_next ha hb hc hd]
      have hI4 := (hk4.block W.heap.size hBi3).trans (unhide HI3)
      obtain ⟨⟨j0, j1, j2, j3⟩, f0, f1, f2, f3⟩ := four_cells hI4
      have HI4 := hide hI4
      have HC4 := hide ((unhide HC3).lift (hk4.block Bc hBc3) (hk4.block Bm hBm3))
      have HK4 := hide hk4
      clear hk4 hI4
      unfold tm tv
      gi_wp2
      go_roundw
      case rel =>
        refine ⟨k + 1, pre ++ [⟨k, hlt⟩], by go_num, by omega, ?_, hJ _ _ _ (unhide HJ3) (below_sets ((unhide HK4).mono (by omega)) (Nat.le_refl _)), ?_, ?_⟩
        · rw [List.map_append, unhide HP, List.range_succ]; rfl
        · refine (unhide HC4).lift ?_ ?_
          · rw [Below.heap_setCell _ _ _ _ (show Bc ≠ W.heap.size by omega), Below.heap_setCell _ _ _ _ (show Bc ≠ W.heap.size by omega), Below.heap_setCell _ _ _ _ (show Bc ≠ W.heap.size by omega), Below.heap_setCell _ _ _ _ (show Bc ≠ W.heap.size by omega)]
          · rw [Below.heap_setCell _ _ _ _ (show Bm ≠ W.heap.size by omega), Below.heap_setCell _ _ _ _ (show Bm ≠ W.heap.size by omega), Below.heap_setCell _ _ _ _ (show Bm ≠ W.heap.size by omega), Below.heap_setCell _ _ _ _ (show Bm ≠ W.heap.size by omega)]
        · exact four_sets (unhide HI4)
      case measure => simp [intOf]; omega
    · have hk2 : k = 224 := by omega
      subst hk2
      gi_wp2
      go_end0
      exact ⟨⟨_, rfl⟩, pre, unhide HP, hj⟩

set_option maxHeartbeats 1000000 in
theorem wrong_any (r : Nat) (w : World) : Calls Try.prog 36 #[.int .u32 (r : Int)] w fun e w' =>
    e = .returned (.func (.func 45) #[] #[.pointer (some ⟨w.heap.size, 0, none⟩)]) ∧ w'.cell? ⟨w.heap.size, 0, none⟩ = some (.int .u32 (r : Int)) ∧ w'.heap.size = w.heap.size + 1 ∧ Below w.heap.size w w' := by
  go_enter Try.func36, Try.ntmps36
  go_wp2
  go_ret
  exact ⟨rfl, (cell_new' w _ _).1, by simp, (Below.refl _ w).alloc (Nat.le_refl _) _⟩

theorem ev_terms {a b c k : Nat} (hb : b < 256) (hc : c < 256) : ev [a, b, c, 1] (E k) = ((a ^^^ gmul b (E k)) ^^^ gmul c (E (2 * k))) ^^^ gmul 1 (E (3 * k)) := by
  have hx := E_lt k
  rw [ev_four hx, one_gmul (E_lt _), xor_gmul (gmul_lt (xor_lt hx hc)) hb hx, xor_gmul hx hc hx, xor_gmul (gmul_lt hx) (gmul_lt hc) hx, gmul_E, gmul_E, gmul_assoc hc hx hx, gmul_E,
    show k + k + k = 3 * k from by omega, show k + k = 2 * k from by omega, Nat.xor_comm _ a, Nat.xor_comm (E (3 * k) ^^^ _), Nat.xor_comm (E (3 * k)), ← Nat.xor_assoc, ← Nat.xor_assoc]

/-- Of the places that have come those that are roots. -/
def hits (r : Nat) (xs : List (Fin 224)) : List (Fin 224) := xs.filter (fun k => ev (cubS (vals r)) (E k.val) == 0)
theorem hits_all {r : Nat} {xs : List (Fin 224)} (h : xs.map Fin.val = List.range 224) : (hits r xs).map Fin.val = rootsOf r := by
  unfold hits rootsOf
  rw [← h, List.filter_map]
  rfl
theorem hits_len (r : Nat) (xs : List (Fin 224)) : (hits r xs).length ≤ xs.length := List.length_filter_le _ _

set_option maxRecDepth 100000 in
set_option maxHeartbeats 8000000 in
theorem wrong_x (T : Nat → Prop) (b r : Nat) (hr : r < 4294967296) (w : World) (hcap : w.cell? ⟨b, 0, none⟩ = some (.int .u32 (r : Int))) :
    SeqX Try.prog 45 #[.pointer (some ⟨b, 0, none⟩)] (fun k : Fin 224 => #[.int .i64 k.val]) T (fun xs => xs.map Fin.val = found r) 224 w := by
  intro l J W hW hJ hY h0 n
  have hb := block_lt_of_cell hcap
  dsimp only at hb
  have hsz := hW.size
  have hcW := (hW.cell (p := ⟨b, 0, none⟩) hb).trans hcap
  have hcW' : (W.alloc (.cells #[.func (.yield l) #[] #[]] 57)).cell? ⟨b, 0, none⟩ = some (.int .u32 (r : Int)) := (World.cell?_of_block (Below.heap_alloc _ _ _ (by show b < _; omega))).trans hcW
  have HY0 := hide (cell_new' W (.func (.yield l) #[] #[]) 57).1
  have HJ0 := hide (hJ [] _ _ h0 ((Below.refl _ W).alloc (Nat.le_refl _) (.cells #[.func (.yield l) #[] #[]] 57)))
  have HB0 := hide ((Below.refl _ W).alloc (Nat.le_refl _) (.cells #[.func (.yield l) #[] #[]] 57))
  have HS0 : Hid ((W.alloc (.cells #[.func (.yield l) #[] #[]] 57)).heap.size = W.heap.size + 1) := World.size_alloc _ _
  show CallsIn Fence.wide n Try.prog 45 #[.func (.yield l) #[] #[], .pointer (some ⟨b, 0, none⟩)] W _
  refine callsIn_of_wp_marks Try.func45 rfl trivial ?_ rfl
  simp only [Try.ntmps45, List.size_toArray, List.length_cons, List.length_nil, Nat.reduceAdd, Nat.reduceSub, Array.replicate_succ, Array.replicate_zero, List.push_toArray, List.append_toArray, List.nil_append, List.cons_append]
  by_cases h0r : r = 0
  · subst h0r
    gi_wp2
    exact ⟨_, results_none rfl _ _ _, ⟨_, rfl⟩, [], rfl, unhide HJ0⟩
  · have hr0 : ((r : Int) == 0) = false := by rw [beq_eq_false_iff_ne]; omega
    gi_wp2
    refine ⟨trivial, fun h => absurd h (by simp [Fence.wide]), (callsIn_wide.2 (values_any r hr _)).mono ?_⟩
    rintro e w1 ⟨v1, rfl, hF1, hk1⟩
    obtain ⟨g1, hA1, hg1⟩ := hF1.arg (valL_bs r)
    have HA1 := hide hA1
    have HB1 := hide ((unhide HB0).trans (hk1.mono (by rw [unhide HS0]; omega)))
    have HS1 : Hid (W.heap.size + 1 ≤ w1.heap.size) := by have := hk1.size; rw [unhide HS0] at this; exact this
    have HY1 := hide ((hk1.cell (block_lt_of_cell (unhide HY0))).trans (unhide HY0))
    clear hA1 hF1 hk1 hcW'
    gi_wp2
    refine ⟨trivial, fun h => absurd h (by simp [Fence.wide]), (callsIn_wide.2 (locator_any v1 g1 (valL r) _ (unhide HA1) rfl)).mono ?_⟩
    rintro e w2 ⟨rfl, hk2⟩
    have HB2 := hide ((unhide HB1).trans (hk2.mono (unhide HB1).size))
    have HS2 : Hid (W.heap.size + 1 ≤ w2.heap.size) := Nat.le_trans (unhide HS1) hk2.size
    have HY2 := hide ((hk2.cell (block_lt_of_cell (unhide HY1))).trans (unhide HY1))
    clear hk2
    have HE : Hid (cubS (vals r) = [cub3 (cf (valL r) 0) (cf (valL r) 1) (cf (valL r) 2) (cf (valL r) 4), cub2 (cf (valL r) 0) (cf (valL r) 1) (cf (valL r) 2) (cf (valL r) 4), cf (valL r) 0, 1]) := rfl
    have h3l := cub3_lt (valL_bs r 0) (valL_bs r 1) (valL_bs r 2) (valL_bs r 4)
    have h2l := cub2_lt (s1 := cf (valL r) 0) (s3 := cf (valL r) 2) (valL_bs r 1) (valL_bs r 4)
    have h1l := valL_bs r 0
    obtain ⟨C3, e3⟩ : ∃ x, cub3 (cf (valL r) 0) (cf (valL r) 1) (cf (valL r) 2) (cf (valL r) 4) = x := ⟨_, rfl⟩
    obtain ⟨C2, e2⟩ : ∃ x, cub2 (cf (valL r) 0) (cf (valL r) 1) (cf (valL r) 2) (cf (valL r) 4) = x := ⟨_, rfl⟩
    obtain ⟨C1, e1⟩ : ∃ x, cf (valL r) 0 = x := ⟨_, rfl⟩
    rw [e3] at h3l
    rw [e2] at h2l
    rw [e3, e2, e1] at HE
    rw [e3, e2, e1]
    rw [e1] at h1l
    clear e1 e2 e3
    unfold tv
    gi_wp2
    refine ⟨trivial, fun h => absurd h (by simp [Fence.wide]), (callsIn_wide.2 (tfirst_any C3 C2 C1 1 _)).mono ?_⟩
    rintro e w3 ⟨rfl, hcap3, hz3, hk3⟩
    rw [World.size_alloc] at hcap3 hz3 hk3 ⊢
    have hs2 := unhide HS2
    have HB3 := hide (((unhide HB2).alloc (unhide HB2).size (.cells #[.int .u8 (C3 : Int), .int .u8 (C2 : Int), .int .u8 (C1 : Int), .int .u8 1, .func (.func 48) #[] #[]] 76)).trans (hk3.mono (by have := (unhide HB2).size; omega)))
    have HY3 : Hid (w3.cell? ⟨W.heap.size, 0, none⟩ = some (.func (.yield l) #[] #[])) := (hk3.cell (p := ⟨W.heap.size, 0, none⟩) (by show W.heap.size < _; omega)).trans ((World.cell?_of_block (Below.heap_alloc _ _ _ (by show W.heap.size < _; omega))).trans (unhide HY2))
    have HJ3 := hide (hJ [] _ _ h0 (unhide HB3))
    clear hk3
    gi_wp2
    refine wpIn_range_x (gf := 58) (lb := #[.pointer (some ⟨w2.heap.size + 1, 0, none⟩), .pointer (some ⟨w2.heap.size + 1 + 1, 0, none⟩)]) rfl (enters_of Try.func58 (by kernel_rfl) rfl)
      (tfirst_x (fun k => W.heap.size ≤ k ∧ k < w3.heap.size) (w2.heap.size + 1) (w2.heap.size + 1 + 1) C3 C2 C1 1 h3l h2l h1l (by omega) w3 hcap3 ⟨by omega, by omega⟩ ⟨by omega, by omega⟩ (by omega) (by omega))
      (fun k hk => hk.2) (fun _ => rfl)
      (fun pre A => J (hits r pre) A ∧ A.cell? ⟨W.heap.size, 0, none⟩ = some (.func (.yield l) #[] #[]) ∧ w3.heap.size ≤ A.heap.size)
      (fun s A B h hb => ⟨hJ _ _ _ h.1 (hb.mono (by omega)), (hb.cell (p := ⟨W.heap.size, 0, none⟩) (by show W.heap.size < _; omega)).trans h.2.1, Nat.le_trans h.2.2 hb.size⟩)
      ⟨unhide HJ3, unhide HY3, Nat.le_refl _⟩ ?round ?done
    case done =>
      rintro D xs A hD hxs ⟨hj, _, _⟩ hK
      gi_wp2
      refine ⟨by simp, .inl ⟨_, _, rfl, run_takeDeferred hK, ?_⟩⟩
      refine ⟨_, results_none rfl _ _ _, ⟨_, rfl⟩, hits r xs, ?_, hJ _ _ _ hj (below_put _ _ (by omega))⟩
      rw [hits_all hxs, found, if_neg h0r]
    case round =>
      rintro l' pre x A ⟨hj, hy, hsA⟩ hlen hs2A
      have hx := x.isLt
      have hs3A : W.heap.size < w3.heap.size := by omega
      unfold tm tv
      gi_wp2
      have hal := (Below.refl _ A).alloc (Nat.le_refl _) (.cells #[.int .u8 (C3 : Int), .int .u8 ((gmul C2 (E x.val) : Nat) : Int), .int .u8 ((gmul C1 (E (2 * x.val)) : Nat) : Int), .int .u8 ((gmul 1 (E (3 * x.val)) : Nat) : Int)] 71)
      refine ⟨⟨(KeepsOthers.alloc A _).from _, Kx.of_below hal, hJ _ _ _ hj (hal.mono (by omega)), (hal.cell (p := ⟨W.heap.size, 0, none⟩) (by show W.heap.size < _; omega)).trans hy, by simp; omega⟩, ?_⟩
      clear hal
      rintro W₂ hsz2 - hbl ⟨hj2, hy2, hs3⟩
      rw [World.size_alloc] at hsz2
      have hit := (hbl A.heap.size (by omega)).trans (World.alloc_heap_new A _)
      obtain ⟨⟨k0, k1, k2, k3⟩, _⟩ := four_cells hit
      have HJ2 := hide hj2
      have HY2' := hide hy2
      have HSUM := hide (ev_terms (a := C3) (k := x.val) h2l h1l)
      clear hbl hit hj2 hy2 hj hy
      gi_wp2
      refine ⟨trivial, rfl, (CallsIn.inRound l' (callsIn_wide.2 (sum_any C3 (gmul C2 (E x.val)) (gmul C1 (E (2 * x.val))) (gmul 1 (E (3 * x.val))) h3l (gmul_lt h2l) (gmul_lt h1l) (gmul_lt (by omega)) W₂))).mono ?_⟩
      rintro e w4 ⟨rfl, hk4⟩
      have HK4 := hide hk4
      have hz4 := hk4.size
      have hy4 := (hk4.cell (block_lt_of_cell (unhide HY2'))).trans (unhide HY2')
      have HJ4 := hide (hJ _ _ _ (unhide HJ2) (hk4.mono (by omega)))
      clear hk4 k0 k1 k2 k3
      obtain ⟨z, hz⟩ : ∃ z, ((C3 ^^^ gmul C2 (E x.val)) ^^^ gmul C1 (E (2 * x.val))) ^^^ gmul 1 (E (3 * x.val)) = z := ⟨_, rfl⟩
      have HZ : Hid (ev (cubS (vals r)) (E x.val) = z) := by show _ = _; rw [unhide HE, unhide HSUM, hz]
      rw [hz]
      clear hz
      by_cases h0z : z = 0
      · subst h0z
        have hh : hits r (pre ++ [x]) = hits r pre ++ [x] := by unfold hits; rw [List.filter_append]; congr 1; simp [unhide HZ]
        obtain ⟨fn, tmps, assign, body, hy1, hR⟩ := hY (hits r pre) x w4 (unhide HJ4) (by have := hits_len r pre; omega)
        gi_wp2
        refine ⟨rfl, (round_in (l' := l') (round_any hR)).mono ?_⟩
        rintro e W5 ⟨rfl, hJ5, hk5⟩
        have hy5 := hk5.cell hy4 (.inl (Nat.le_refl _))
        gi_wp2
        have hz5 := hk5.size
        have hboth : ∀ k, W.heap.size ≤ k → k < W₂.heap.size → W5.heap[k]? = W₂.heap[k]? := fun k h1 h2 => (hk5.block k (by omega) (.inl h1)).trans ((unhide HK4).block k h2)
        refine ⟨⟨by omega, fun k o h1 h2 _ => (hboth k (by omega) (Array.getElem?_eq_some_iff.1 h2).1).trans h2⟩, ⟨by omega, fun k h1 h2 => hboth k (by rcases h2 with h2 | h2 <;> omega) h1⟩, ?_, hy5, by omega⟩
        rw [hh]
        exact hJ5
      · have hh : hits r (pre ++ [x]) = hits r pre := by unfold hits; rw [List.filter_append]; simp [unhide HZ, h0z]
        have hz1 : ((z : Int) == 0) = false := by rw [beq_eq_false_iff_ne]; omega
        gi_wp2
        refine ⟨fun _ h => (by cases h), ?_⟩
        gi_wp2
        refine ⟨(kept_of_below (unhide HK4)).from _, Kx.of_below (unhide HK4), ?_, hy4, by omega⟩
        rw [hh]
        exact unhide HJ4

end Go.Proofs.Ytkhpoomajebgoab
