/-
  slices.All of bytes, bits.count, bits.Ones.
-/
import Derived.Test.YtoljplfijopcmaaB6b
namespace Go.Proofs.Ytoljplfijopcmaa
open Go.RowKit Go.Shelf
attribute [local go_sem] Oper.semAt_some

set_option maxHeartbeats 1000000 in
theorem all6_any (v : Value) (w : World) (hv : ∃ ao n c, v = .slice ao n c) : Calls Try.prog 26 #[v] w fun e w' =>
    e = .returned (.func (.func 33) #[] #[.pointer (some ⟨w.heap.size, 0, none⟩)]) ∧ w'.cell? ⟨w.heap.size, 0, none⟩ = some v ∧ w'.heap.size = w.heap.size + 1 ∧ Below w.heap.size w w' := by
  obtain ⟨ao, n, c, rfl⟩ := hv
  go_enter Try.func26, Try.ntmps26
  go_wp2
  go_ret
  exact ⟨rfl, (cell_new' w _ _).1, by simp, (Below.refl _ w).alloc (Nat.le_refl _) _⟩

set_option maxRecDepth 100000 in
set_option maxHeartbeats 4000000 in
theorem all6_x (T : Nat → Prop) (Ba : Nat) (ao : Option Addr) (ga ca N : Nat) (a : List Nat) (ha : a.length = N) (hN : N ≤ 281474976710656) (w : World)
    (hcap : w.cell? ⟨Ba, 0, none⟩ = some (.slice ao N ca)) (hra : Row w ao ga (ints a)) (hga : a ≠ [] → T ga) :
    Seq6 33 #[.pointer (some ⟨Ba, 0, none⟩)] N (fun i => cf a i) T 0 w := by
  refine ⟨enters_of Try.func33 (by kernel_rfl) rfl, ?_⟩
  intro l J W hW hJ hY h0 n
  have hA := (hW.cell (p := ⟨Ba, 0, none⟩) (block_lt_of_cell hcap)).trans hcap
  have HRA := hide (hra.below hW)
  have HLA := hide ha
  clear hra ha
  show CallsIn Fence.wide n Try.prog 33 #[.func (.yield l) #[] #[], .pointer (some ⟨Ba, 0, none⟩)] W _
  refine callsIn_of_wp Try.func33 rfl trivial ?_ rfl
  simp only [Try.ntmps33, List.size_toArray, List.length_cons, List.length_nil, Nat.reduceAdd, Nat.reduceSub, Array.replicate_succ, Array.replicate_zero, List.push_toArray, List.append_toArray, List.nil_append, List.cons_append]
  gi_wp2
  gi_loopw [7] (fun q wr => ∃ (pre : List (Fin N)) (i : Nat), q = .int .i64 i ∧ i ≤ N ∧ pre.map Fin.val = List.range i ∧ J pre wr ∧ W.heap.size ≤ wr.heap.size ∧ Row wr ao ga (ints a)) (fun q _ => N - (intOf q).toNat)
  case atStart => exact ⟨[], 0, rfl, by omega, rfl, h0, Nat.le_refl _, unhide HRA⟩
  case round =>
    obtain ⟨pre, i, rfl, hi, hp, hJ1, hzW, hr1⟩ := hrel
    have hl : pre.length = i := by have := congrArg List.length hp; simpa using this
    have HP := hide hp
    have HR1 := hide hr1
    have HL := hide hl
    have HJ1 := hide hJ1
    clear hp hr1 hl hJ1
    by_cases hlt : i < N
    · have hi1 : (i : Int) < (N : Int) := by omega
      obtain ⟨oa, rfl⟩ := row_some (unhide HR1) (by rw [unhide HLA]; omega)
      have hca := row_cell (unhide HR1) (j := i) (by rw [unhide HLA]; exact hlt)
      obtain ⟨fn, tmps, assign, body, hy1, hR⟩ := hY pre ⟨i, hlt⟩ wr (unhide HJ1) (by rw [unhide HL]; exact hlt) hzW
      dsimp only at hy1
      gi_wp2
      refine ⟨fun h => absurd h (by simp [Fence.wide]), (round_any hR).mono ?_⟩
      rintro e W3 ⟨rfl, hJ3, hk3⟩
      have HR1' := hide ((unhide HR1).ky hk3 (fun h => .inr (hga h)))
      have HZ3 : Hid (W.heap.size ≤ W3.heap.size) := Nat.le_trans hzW hk3.size
      have HJ3 := hide hJ3
      clear hJ3 hk3 hy1 hR hca
      gi_wp2
      go_roundw
      case rel => exact ⟨pre ++ [⟨i, hlt⟩], i + 1, by go_num, by omega, by rw [List.map_append, unhide HP, List.range_succ]; rfl, unhide HJ3, unhide HZ3, unhide HR1'⟩
      case measure => simp [intOf]; omega
    · have hi2 : i = N := by omega
      subst hi2
      gi_wp2
      go_end0
      exact ⟨⟨_, rfl⟩, pre, unhide HP, unhide HJ1⟩

set_option maxRecDepth 100000 in
set_option maxHeartbeats 4000000 in
theorem count_any {α : Type} (gf : Nat) (lb : Array Value) (p : α → Nat) (D N : Nat) (S : List α → Prop) (hN : N ≤ 100000) (w : World) (hen : ∀ args W, (callFunc gf args).run Try.prog W = .ok (.enter gf args) W)
    (hseq : SeqY Try.prog gf lb (fun x : α => #[.int .i64 (p x : Nat)]) (fun k => k < w.heap.size) D S N w) :
    Calls Try.prog 25 #[.func (.func gf) #[] lb] w fun e w' => ∃ xs : List α, e = .returned (.int .i64 (xs.length : Nat)) ∧ S xs ∧ Below w.heap.size w w' := by
  refine (callsIn_wide (n := 3)).1 ?_
  refine callsIn_of_wp_marks Try.func25 rfl trivial ?_ rfl
  simp only [Try.ntmps25, List.size_toArray, List.length_cons, List.length_nil, Nat.reduceAdd, Nat.reduceSub, Array.replicate_succ, Array.replicate_zero, List.push_toArray, List.append_toArray, List.nil_append, List.cons_append]
  gi_wp2
  have HB1 := hide ((Below.refl _ w).alloc (Nat.le_refl _) (.cells #[.int .i64 0] 3))
  have HC1 := hide (cell_new' w (.int .i64 0) 3)
  have HZ1 : Hid ((w.alloc (.cells #[.int .i64 0] 3)).heap.size = w.heap.size + 1) := World.size_alloc _ _
  obtain ⟨w1, hw1⟩ : ∃ w1, w.alloc (.cells #[.int .i64 0] 3) = w1 := ⟨_, rfl⟩
  rw [hw1] at HB1 HC1 HZ1 ⊢
  clear hw1
  have hz1a := Nat.le_of_eq (unhide HZ1)
  have hz1b := Nat.le_of_eq (unhide HZ1).symm
  refine wpIn_range_y (gf := gf) (lb := lb) rfl hen (hseq.below (unhide HB1)) (fun k hk => by omega) (fun _ => rfl)
    (fun pre A => (A.cell? ⟨w.heap.size, 0, none⟩ = some (.int .i64 (pre.length : Nat)) ∧ A.frozen? ⟨w.heap.size, 0, none⟩ = false) ∧ pre.length ≤ N ∧ Below w.heap.size w A ∧ w1.heap.size ≤ A.heap.size)
    (fun s A B h hb => by
      obtain ⟨⟨h1, h2⟩, h3, h4, h5⟩ := h
      have hkb := hb.block w.heap.size (by omega) (by omega)
      exact ⟨⟨(World.cell?_of_block hkb).trans h1, (World.frozen?_of_block (a := ⟨w.heap.size, 0, none⟩) hkb).trans h2⟩, h3, h4.trans ((hb.below (by omega)).mono (by omega)), Nat.le_trans h5 hb.size⟩)
    ⟨unhide HC1, by simp, unhide HB1, Nat.le_refl _⟩ ?round ?done
  case done =>
    rintro D1 xs A hD hD2 hxs ⟨⟨hc, hf⟩, hn, hB, hzA⟩ hK
    have HB := hide hB
    clear hB
    gi_wp2
    refine ⟨by simp, .inl ⟨_, _, rfl, run_takeDeferred hK, ?_⟩⟩
    exact ⟨_, results_tmp rfl _ _ _, xs, rfl, hxs, (unhide HB).trans (below_put _ _ (by omega))⟩
  case round =>
    rintro l pre x A ⟨⟨hc, hf⟩, hn, hB, hzA⟩ hlen hs2A
    gi_wp2
    refine ⟨⟨Ky.refl _ _ _ _, ⟨hc, hf⟩, hn, hB, hzA⟩, ?_⟩
    clear hc hf hB
    rintro W₂ hsz2 - - ⟨⟨hc, hf⟩, hn, hB, hz3⟩
    have HB := hide hB
    have HL : Hid ((pre ++ [x]).length = pre.length + 1) := by show _ = _; simp
    clear hsz2 hB
    obtain ⟨m, hm⟩ : ∃ m, pre.length = m := ⟨_, rfl⟩
    rw [hm] at hc hn hlen HL
    clear hm
    gi_wp2
    refine ⟨Ky.set _ _ (by dsimp only; omega), ⟨?_, by rw [World.frozen?_setCell]; exact hf⟩, by rw [unhide HL]; omega, (unhide HB).setCell (p := ⟨w.heap.size, 0, none⟩) (Nat.le_refl _) _, by simp [World.setCell]; omega⟩
    rw [unhide HL]
    exact World.cell?_setCell_same' _ _ _ (by rw [hc]; rfl)

set_option maxRecDepth 100000 in
set_option maxHeartbeats 2000000 in
theorem ones6_any (u : Value) (ga : Nat) (a : List Nat) (w : World) (hA : Arg w u ga a) (hla : a.length ≤ 1000) :
    Calls Try.prog 12 #[u] w fun e w' => e = .returned (.int .i64 ((onF (cf a) a.length).length : Nat)) ∧ Below w.heap.size w w' := by
  obtain ⟨⟨ao, ca, rfl, hc1, hc2, hnila, hra⟩, hba⟩ := hA
  have HRA := hide hra
  clear hra hnila
  obtain ⟨N, hN⟩ : ∃ N, a.length = N := ⟨_, rfl⟩
  rw [hN] at hc1 hla ⊢
  have HL1 := hide hN
  clear hN
  go_enter Try.func12, Try.ntmps12
  go_wp2_with fail
  refine (all6_any _ w ⟨_, _, _, rfl⟩).mono ?_
  rintro e w1 ⟨rfl, hcap, hz1, hk1⟩
  have HK1 := hide hk1
  have HCAP := hide hcap
  have HZ1 := hide hz1
  clear hcap hk1 hz1
  go_wp2_with fail
  refine (ones_any _ _ w1).mono ?_
  rintro e w2 ⟨rfl, hc2', hz2, hk2⟩
  have hz1 := unhide HZ1
  have HS : Hid (SeqY Try.prog 31 #[.pointer (some ⟨w1.heap.size, 0, none⟩)] (fun x : Fin N × Fin 8 => #[.int .i64 (pl8 x : Nat)]) (fun k => k < w2.heap.size) (3 + 0) (fun xs => xs.map pl8 = onF (cf a) N) (8 * N) w2) := by
    refine (ones_x (fun k => k < w2.heap.size) 0 w1.heap.size N 33 _ _ (fun i => hba i) (by omega) w2 hc2' (fun _ h => h) ?_)
    have hq := all6_x (fun k => k < w2.heap.size) w.heap.size ao ga ca N a (unhide HL1) (by omega) w1 (unhide HCAP) ((unhide HRA).below (unhide HK1))
      (fun h => by have := (unhide HRA).block_lt h; omega)
    exact ⟨hq.enters, hq.seq.below hk2⟩
  have HK2 := hide ((unhide HK1).trans (hk2.mono (by omega)))
  clear hc2' hz2 hk2 hz1
  go_wp2_with fail
  refine (count_any 31 _ pl8 _ (8 * N) _ (by omega) w2 (enters_of Try.func31 (by kernel_rfl) rfl) (unhide HS)).mono ?_
  rintro e w3 ⟨xs, rfl, hxs, hk3⟩
  have HX : Hid (xs.length = (onF (cf a) N).length) := by show _ = _; rw [← hxs, List.length_map]
  have hK := unhide HK2
  have HK3 := hide (hK.trans (hk3.mono hK.size))
  clear hxs hk3 hK
  go_wp2
  go_ret
  exact ⟨by rw [unhide HX]; rfl, unhide HK3⟩

end Go.Proofs.Ytoljplfijopcmaa
