/-
  geom.places, without, with their iterators.
-/
import Derived.Test.YtnhhemecfcljbaaK9e
import Derived.Test.YtnhhemecfcljbaaG9
import Derived.Test.YtnhhemecfcljbaaRy
namespace Go.Proofs.Ytnhhemecfcljbaa
open Go.RowKit Go.Shelf
attribute [local go_sem] Oper.semAt_some

theorem PArg.kept {w w' : World} {v : Value} {g : Nat} {l : List (Int × Int)} (h : PArg w v g l) (k : l ≠ [] → w'.heap[g]? = w.heap[g]?) : PArg w' v g l := by
  obtain ⟨ao, c, h1, h2, h3, h4⟩ := h
  refine ⟨ao, c, h1, h2, h3, fun hne => ?_⟩
  obtain ⟨o, h5, h6⟩ := h4 hne
  exact ⟨o, h5, fun i hi => ⟨(World.cell?_of_block (k hne)).trans (h6 i hi).1, (World.cell?_of_block (k hne)).trans (h6 i hi).2⟩⟩

set_option maxHeartbeats 1000000 in
theorem places9_any (d n : Int) (w : World) : Calls Try.prog 26 #[.int .i64 d, .int .i64 n] w fun e w' =>
    e = .returned (.func (.func 32) #[] #[.pointer (some ⟨w.heap.size + 1, 0, none⟩), .pointer (some ⟨w.heap.size, 0, none⟩)]) ∧ w'.cell? ⟨w.heap.size, 0, none⟩ = some (.int .i64 d) ∧ w'.cell? ⟨w.heap.size + 1, 0, none⟩ = some (.int .i64 n) ∧ w'.heap.size = w.heap.size + 2 ∧ Below w.heap.size w w' := by
  go_enter Try.func26, Try.ntmps26
  go_wp2
  go_ret
  have h := (cell_new' (w.alloc (.cells #[.int .i64 d] 3)) (.int .i64 n) 3).1
  rw [World.size_alloc] at h
  exact ⟨rfl, (World.cell?_of_block (Below.heap_alloc _ _ _ (by simp))).trans (cell_new' w _ _).1, h, by simp, ((Below.refl _ w).alloc (Nat.le_refl _) _).alloc (by simp) _⟩

theorem SeqY.below9 {α : Type} {P : Program} {g : Nat} {lb : Array Value} {encs : α → Array Value} {T : Nat → Prop} {D : Nat} {S : List α → Prop} {N : Nat} {w w' : World} (h : SeqY P g lb encs T D S N w) (k : Below w.heap.size w w') : SeqY P g lb encs T D S N w' :=
  fun l J W hW hJ hY h0 n => h l J W (k.trans (hW.mono k.size)) hJ hY h0 n

set_option maxRecDepth 100000 in
set_option maxHeartbeats 4000000 in
theorem places_x (T : Nat → Prop) (bn bd N : Nat) (d : Int) (hN : N ≤ 281474976710656) (w : World) (hcn : w.cell? ⟨bn, 0, none⟩ = some (.int .i64 (N : Int))) (hcd : w.cell? ⟨bd, 0, none⟩ = some (.int .i64 d)) (hT : T bd) :
    SeqY Try.prog 32 #[.pointer (some ⟨bn, 0, none⟩), .pointer (some ⟨bd, 0, none⟩)] (fun x : Fin N => #[.agg #[.int .i64 d, .int .i64 (x.val : Nat)]]) T 0 (fun xs => xs.map Fin.val = List.range N) N w := by
  intro l J W hW hJ hY h0 n
  have hA := (hW.cell (p := ⟨bn, 0, none⟩) (block_lt_of_cell hcn)).trans hcn
  have HD := hide ((hW.cell (p := ⟨bd, 0, none⟩) (block_lt_of_cell hcd)).trans hcd)
  clear hcn hcd
  show CallsIn Fence.wide n Try.prog 32 #[.func (.yield l) #[] #[], .pointer (some ⟨bn, 0, none⟩), .pointer (some ⟨bd, 0, none⟩)] W _
  refine callsIn_of_wp Try.func32 rfl trivial ?_ rfl
  simp only [Try.ntmps32, List.size_toArray, List.length_cons, List.length_nil, Nat.reduceAdd, Nat.reduceSub, Array.replicate_succ, Array.replicate_zero, List.push_toArray, List.append_toArray, List.nil_append, List.cons_append]
  gi_wp2
  gi_loopw [6] (fun q wr => ∃ (pre : List (Fin N)) (i : Nat), q = .int .i64 i ∧ i ≤ N ∧ pre.map Fin.val = List.range i ∧ J pre wr ∧ W.heap.size ≤ wr.heap.size ∧ wr.cell? ⟨bd, 0, none⟩ = some (.int .i64 d)) (fun q _ => N - (intOf q).toNat)
  case atStart => exact ⟨[], 0, rfl, by omega, rfl, h0, Nat.le_refl _, unhide HD⟩
  case round =>
    obtain ⟨pre, i, rfl, hi, hp, hJ1, hzW, hc1⟩ := hrel
    have hl : pre.length = i := by have := congrArg List.length hp; simpa using this
    have HP := hide hp
    have HL := hide hl
    have HC1 := hide hc1
    have HJ1 := hide hJ1
    clear hp hl hJ1
    by_cases hlt : i < N
    · have hi1 : (i : Int) < (N : Int) := by omega
      obtain ⟨fn, tmps, assign, body, hy1, hR⟩ := hY pre ⟨i, hlt⟩ wr (unhide HJ1) (by rw [unhide HL]; exact hlt) hzW
      dsimp only at hy1
      gi_wp2
      refine ⟨fun h => absurd h (by simp [Fence.wide]), (round_any hR).mono ?_⟩
      rintro e W3 ⟨rfl, hJ3, hk3⟩
      have HC3 := hide (hk3.cell (p := ⟨bd, 0, none⟩) (unhide HC1) (.inr hT))
      have HZ3 : Hid (W.heap.size ≤ W3.heap.size) := Nat.le_trans hzW hk3.size
      have HJ3 := hide hJ3
      clear hJ3 hk3 hy1 hR hc1
      gi_wp2
      go_roundw
      case rel => exact ⟨pre ++ [⟨i, hlt⟩], i + 1, by go_num, by omega, by rw [List.map_append, unhide HP, List.range_succ]; rfl, unhide HJ3, unhide HZ3, unhide HC3⟩
      case measure => simp [intOf]; omega
    · have hi2 : i = N := by omega
      subst hi2
      gi_wp2
      go_end0
      exact ⟨⟨_, rfl⟩, pre, unhide HP, unhide HJ1⟩

set_option maxHeartbeats 1000000 in
theorem without_any (gf : Nat) (lb : Array Value) (ao : Option Addr) (n c : Nat) (w : World) : Calls Try.prog 25 #[.func (.func gf) #[] lb, .slice ao n c] w fun e w' =>
    e = .returned (.func (.func 30) #[] #[.pointer (some ⟨w.heap.size, 0, none⟩), .pointer (some ⟨w.heap.size + 1, 0, none⟩)]) ∧ w'.cell? ⟨w.heap.size, 0, none⟩ = some (.func (.func gf) #[] lb) ∧ w'.cell? ⟨w.heap.size + 1, 0, none⟩ = some (.slice ao n c) ∧ w'.heap.size = w.heap.size + 2 ∧ Below w.heap.size w w' := by
  go_enter Try.func25, Try.ntmps25
  go_wp2
  go_ret
  have h := (cell_new' (w.alloc (.cells #[.func (.func gf) #[] lb] 52)) (.slice ao n c) 24).1
  rw [World.size_alloc] at h
  exact ⟨rfl, (World.cell?_of_block (Below.heap_alloc _ _ _ (by simp))).trans (cell_new' w _ _).1, h, by simp, ((Below.refl _ w).alloc (Nat.le_refl _) _).alloc (by simp) _⟩

/-- It isn't bad. -/
def good9 (d : Int) (bad : List (Int × Int)) {N : Nat} (x : Fin N) : Bool := !decide ((d, ((x.val : Nat) : Int)) ∈ bad)
theorem good9_all {d : Int} {bad : List (Int × Int)} {N : Nat} {xs : List (Fin N)} (h : xs.map Fin.val = List.range N) : (xs.filter (good9 d bad)).map Fin.val = gdL d N bad := by
  unfold gdL
  rw [← h, List.filter_map]
  rfl

set_option maxRecDepth 100000 in
set_option maxHeartbeats 8000000 in
theorem without_x (T : Nat → Prop) (D bi bb N gf : Nat) (lb : Array Value) (d : Int) (bad : List (Int × Int)) (ao : Option Addr) (nb cb g : Nat) (w : World)
    (hcap : w.cell? ⟨bi, 0, none⟩ = some (.func (.func gf) #[] lb)) (hcb : w.cell? ⟨bb, 0, none⟩ = some (.slice ao nb cb)) (hP : PArg w (.slice ao nb cb) g bad)
    (hT : ∀ k, T k → k < w.heap.size) (hTb : T bb) (hTg : bad ≠ [] → T g) (hen : ∀ args W, (callFunc gf args).run Try.prog W = .ok (.enter gf args) W)
    (hS : SeqY Try.prog gf lb (fun x : Fin N => #[.agg #[.int .i64 d, .int .i64 (x.val : Nat)]]) T D (fun xs => xs.map Fin.val = List.range N) N w) :
    SeqY Try.prog 30 #[.pointer (some ⟨bi, 0, none⟩), .pointer (some ⟨bb, 0, none⟩)] (fun x : Fin N => #[.agg #[.int .i64 d, .int .i64 (x.val : Nat)]]) T (3 + D) (fun xs => xs.map Fin.val = gdL d N bad) N w := by
  intro l J W hW hJ hY h0 n
  have hb := block_lt_of_cell hcap
  have hbb := hT _ hTb
  dsimp only at hb
  have hsz := hW.size
  have hcW := (hW.cell (p := ⟨bi, 0, none⟩) hb).trans hcap
  have hcbW := (hW.cell (p := ⟨bb, 0, none⟩) hbb).trans hcb
  have hcW' : (W.alloc (.cells #[.func (.yield l) #[] #[]] 58)).cell? ⟨bi, 0, none⟩ = some (.func (.func gf) #[] lb) := (World.cell?_of_block (Below.heap_alloc _ _ _ (by show bi < _; omega))).trans hcW
  have HY0 := hide (cell_new' W (.func (.yield l) #[] #[]) 58).1
  have hal := (Below.refl W.heap.size W).alloc (Nat.le_refl _) (.cells #[.func (.yield l) #[] #[]] 58)
  have HJ0 := hide (hJ [] _ _ h0 (Ka.of_below hal))
  have HCB0 := hide (hal.cell (p := ⟨bb, 0, none⟩) (by dsimp only; omega) |>.trans hcbW)
  have HP0 := hide ((hP.below' hW).below' hal)
  have HGL : Hid (bad ≠ [] → g < w.heap.size) := fun hne => hP.lt hne
  have HB0 := hide hal
  have HS0 : Hid ((W.alloc (.cells #[.func (.yield l) #[] #[]] 58)).heap.size = W.heap.size + 1) := World.size_alloc _ _
  have HSQ := hide (SeqY.below9 hS (hW.trans ((unhide HB0).mono hsz)))
  clear hcap hcb hcbW hP hal
  show CallsIn Fence.wide n Try.prog 30 #[.func (.yield l) #[] #[], .pointer (some ⟨bi, 0, none⟩), .pointer (some ⟨bb, 0, none⟩)] W _
  refine callsIn_of_wp_marks Try.func30 rfl trivial ?_ rfl
  simp only [Try.ntmps30, List.size_toArray, List.length_cons, List.length_nil, Nat.reduceAdd, Nat.reduceSub, Array.replicate_succ, Array.replicate_zero, List.push_toArray, List.append_toArray, List.nil_append, List.cons_append]
  gi_wp2
  clear hcW' hcW
  have hTW : ∀ k, T k → k < W.heap.size := fun k hk => Nat.lt_of_lt_of_le (hT k hk) hsz
  refine wpIn_range_y (gf := gf) (lb := lb) rfl hen (unhide HSQ) (fun k hk => by rw [unhide HS0]; exact Nat.lt_succ_of_lt (hTW k hk)) (fun _ => rfl)
    (fun pre A => J (pre.filter (good9 d bad)) A ∧ A.cell? ⟨W.heap.size, 0, none⟩ = some (.func (.yield l) #[] #[]) ∧ A.cell? ⟨bb, 0, none⟩ = some (.slice ao nb cb) ∧ PArg A (.slice ao nb cb) g bad ∧ W.heap.size + 1 ≤ A.heap.size)
    (fun s A B h hb => by
      rw [unhide HS0] at hb
      obtain ⟨h1, h2, h3, h4, h5⟩ := h
      exact ⟨hJ _ _ _ h1 (hb.mono (by omega) (by omega)), hb.cell h2 (by dsimp only; omega), hb.cell h3 (by dsimp only; omega), h4.kept (fun hne => hb.block g (h4.lt hne) (by have := unhide HGL hne; omega)), Nat.le_trans h5 hb.size⟩)
    ⟨unhide HJ0, unhide HY0, unhide HCB0, unhide HP0, by rw [unhide HS0]; omega⟩ ?round ?done
  case done =>
    rintro D1 xs A hD hD2 hxs ⟨hj, _, _⟩ hK
    rw [unhide HS0] at hD hD2
    gi_wp2
    refine ⟨by simp, .inl ⟨_, _, rfl, run_takeDeferred hK, ?_⟩⟩
    refine ⟨_, results_none rfl _ _ _, ⟨_, rfl⟩, xs.filter (good9 d bad), good9_all hxs, hJ _ _ _ hj (Ka.put _ _ (by omega) (by omega))⟩
  case round =>
    rintro l' pre x A ⟨hj, hy, hcb, hp, hsA⟩ hlen hs2A
    rw [unhide HS0] at hs2A
    gi_wp2
    rw [unhide HS0]
    have hal := (Below.refl A.heap.size A).alloc (Nat.le_refl _) (.cells #[.int .i64 d, .int .i64 ((x.val : Nat) : Int)] 39)
    have hbx := World.alloc_heap_new A (.cells #[.int .i64 d, .int .i64 ((x.val : Nat) : Int)] 39)
    obtain ⟨A1, hA1⟩ : ∃ A1, A.alloc (.cells #[.int .i64 d, .int .i64 ((x.val : Nat) : Int)] 39) = A1 := ⟨_, rfl⟩
    have hz1 : A1.heap.size = A.heap.size + 1 := by rw [← hA1]; exact World.size_alloc _ _
    rw [hA1] at hal hbx ⊢
    clear hA1
    refine ⟨⟨Ky.of_below hal, hJ _ _ _ hj (Ka.of_below hal), (hal.cell (by dsimp only; omega)).trans hy, (hal.cell (by dsimp only; omega)).trans hcb, hp.below' hal, by omega⟩, ?_⟩
    clear hj hy hcb hp hal
    rintro W₂ hsz2 - hkb ⟨hj, hy, hcb, hp, hs3⟩
    have hbx2 := (hkb A.heap.size (by omega)).trans hbx
    have i0 : W₂.cell? ⟨A.heap.size, 0, none⟩ = some (.int .i64 d) := cell_blk hbx2 rfl
    have i1 : W₂.cell? ⟨A.heap.size, 1, none⟩ = some (.int .i64 ((x.val : Nat) : Int)) := cell_blk hbx2 rfl
    have HBX := hide hbx2
    have HJ2 := hide hj
    have HY2 := hide hy
    have HP2 := hide hp
    have HZ2 : Hid (W.heap.size + 3 + D ≤ W₂.heap.size) := by show _ ≤ _; omega
    have HSN : Hid ((pre ++ [x]).filter (good9 d bad) = pre.filter (good9 d bad) ++ (if (d, ((x.val : Nat) : Int)) ∈ bad then [] else [x])) := by
      show _ = _
      rw [List.filter_append]
      by_cases h : (d, ((x.val : Nat) : Int)) ∈ bad
      · simp [good9, h]
      · simp [good9, h]
    clear hbx hbx2 hkb hsz2 hj hp hz1
    gi_wp2
    clear i0 i1
    refine ⟨trivial, rfl, CallsIn.inRound _ ((callsIn_wide.2 (contains9_any ao nb cb g bad d (x.val : Nat) W₂ (unhide HP2))).mono ?_)⟩
    rintro e W4 ⟨rfl, hk⟩
    have i0 : W4.cell? ⟨A.heap.size, 0, none⟩ = some (.int .i64 d) := (hk.cell (lt_of_block (unhide HBX))).trans (cell_blk (unhide HBX) rfl)
    have i1 : W4.cell? ⟨A.heap.size, 1, none⟩ = some (.int .i64 ((x.val : Nat) : Int)) := (hk.cell (lt_of_block (unhide HBX))).trans (cell_blk (unhide HBX) rfl)
    have y4 : W4.cell? ⟨W.heap.size, 0, none⟩ = some (.func (.yield l) #[] #[]) := (hk.cell (by dsimp only; have := unhide HZ2; omega)).trans (unhide HY2)
    have HJ4 : Hid (J (pre.filter (good9 d bad)) W4) := hJ _ _ _ (unhide HJ2) (Ka.of_below hk)
    have HK4 : Hid (Ky T W.heap.size (W.heap.size + (3 + D)) W₂ W4) := Ky.of_below hk
    have HCB4 := hide ((hk.cell (p := ⟨bb, 0, none⟩) (by dsimp only; have := unhide HZ2; omega)).trans hcb)
    have HP4 := hide ((unhide HP2).below' hk)
    have hz4 : W.heap.size + (3 + D) ≤ W4.heap.size := by have := hk.size; have := unhide HZ2; omega
    clear hk hy hcb
    by_cases hbad : (d, ((x.val : Nat) : Int)) ∈ bad
    · have hd : decide ((d, ((x.val : Nat) : Int)) ∈ bad) = true := decide_eq_true hbad
      rw [if_pos hbad, List.append_nil] at HSN
      rw [hd]
      clear hbad hd i0 i1
      gi_wp2
      refine ⟨fun _ h => (by cases h), ?_⟩
      gi_wp2
      refine ⟨(unhide HK4).mono (fun k h => by rcases h with h | h; exact .inl ⟨by omega, by omega⟩; exact .inr h), ?_, y4, unhide HCB4, unhide HP4, by omega⟩
      rw [unhide HSN]
      exact unhide HJ4
    · have hd : decide ((d, ((x.val : Nat) : Int)) ∈ bad) = false := decide_eq_false hbad
      rw [if_neg hbad] at HSN
      rw [hd]
      have hll := List.length_filter_le (good9 d bad) pre
      obtain ⟨fn, tmps, assign, body, hyy, hR⟩ := hY (pre.filter (good9 d bad)) x W4 (unhide HJ4) (by omega) hz4
      clear hbad hd hll
      gi_wp2
      refine ⟨rfl, (round_in (l' := l') (round_any hR)).mono ?_⟩
      rintro e W5 ⟨rfl, hJ5, hk5⟩
      have HJ5 := hide hJ5
      have HK5 := hide ((unhide HK4).trans hk5)
      have HY5 := hide (hk5.cell y4 (.inl ⟨Nat.le_refl _, by dsimp only; omega⟩))
      have HCB5 := hide (hk5.cell (p := ⟨bb, 0, none⟩) (unhide HCB4) (.inr hTb))
      have HP5 := hide ((unhide HP4).kept (fun hne => hk5.block g ((unhide HP4).lt hne) (.inr (hTg hne))))
      have hz5 := hk5.size
      clear hJ5 hk5 hyy hR y4 i0 i1
      gi_wp2
      refine ⟨(unhide HK5).mono (fun k h => by rcases h with h | h; exact .inl ⟨by omega, by omega⟩; exact .inr h), ?_, unhide HY5, unhide HCB5, unhide HP5, by omega⟩
      rw [unhide HSN]
      exact unhide HJ5

end Go.Proofs.Ytnhhemecfcljbaa
