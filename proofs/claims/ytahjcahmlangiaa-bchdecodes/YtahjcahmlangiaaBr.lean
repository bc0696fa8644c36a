/-
  bch.falling, bch.rest.
-/
import Derived.Test.YtahjcahmlangiaaPs
import Derived.Test.YtahjcahmlangiaaPolG
namespace Go.Proofs.Ytahjcahmlangiaa
open Go.RowKit Go.Shelf
attribute [local go_sem] Oper.semAt_some

set_option maxHeartbeats 1000000 in
theorem falling_any (v : Value) (w : World) (hv : ∃ ao n c, v = .slice ao n c) : Calls Try.prog 47 #[v] w fun e w' =>
    ∃ b, e = .returned (.func (.func 68) #[] #[.pointer (some ⟨b, 0, none⟩)]) ∧ w'.cell? ⟨b, 0, none⟩ = some v ∧ w.heap.size ≤ b ∧ b < w'.heap.size ∧ Below w.heap.size w w' := by
  obtain ⟨ao, n, c, rfl⟩ := hv
  go_enter Try.func47, Try.ntmps47
  go_wp2
  go_ret
  exact ⟨_, rfl, (cell_new' w _ _).1, Nat.le_refl _, by simp, (Below.refl _ w).alloc (Nat.le_refl _) _⟩

theorem cf_wb8 (s : List Nat) (j m : Nat) (hm : m < 8) : cf (wb s) (8 * j + m) = bt (cf s j) m := by
  rw [cf_wb, show (8 * j + m) / 8 = j from by omega, show (8 * j + m) % 8 = m from by omega]

theorem bit_u8 {x : Nat} (m : Nat) (hx : x < 256) : bits .and .u8 ((x : Int) / 2 ^ m) 1 = ((bt x m : Nat) : Int) := by
  have h := (bits_nat .u8 8 (by decide) wraps_u8 (x / 2 ^ m) 1 (Nat.lt_of_le_of_lt (Nat.div_le_self _ _) hx) (by omega)).1
  rw [Nat.and_one_is_mod] at h
  rw [show (x : Int) / 2 ^ m = ((x / 2 ^ m : Nat) : Int) from by simp]
  exact h
theorem u64_bt (x m : Nat) : IntKind.u64.wrap ((bt x m : Nat) : Int) = ((bt x m : Nat) : Int) := IntWalk.u64_in _ ⟨by omega, by have := bt_le x m; omega⟩

set_option maxRecDepth 100000 in
set_option maxHeartbeats 4000000 in
theorem falling_in (S : List Nat) (n l B n₀ : Nat) (ao : Option Addr) (g N c : Nat) (s : List Nat) (hs : s.length = N) (hbs : Bs s) (hNc : N ≤ 1000000) (J Jx : List (Fin 2) → World → Prop)
    (hY : ∀ pre (x : Fin 2) W, J pre W → pre.length < 8 * N → YieldAt Fence.wide (n - 1) Try.prog l #[.int .u64 x.val] W fun e W' =>
      (e = .returned (.bool true) ∧ J (pre ++ [x]) W' ∧ Kq S n₀ W W') ∨ (e = .returned (.bool false) ∧ Jx (pre ++ [x]) W'))
    (W : World) (hcap : W.cell? ⟨B, 0, none⟩ = some (.slice ao N c)) (hrow : Row W ao g (ints s)) (hg : s ≠ [] → g < n₀ ∧ g ∉ S) (hB : B < n₀) (sB : B ∉ S) (h0 : J [] W) :
    CallsIn Fence.wide n Try.prog 68 #[.func (.yield l) #[] #[], .pointer (some ⟨B, 0, none⟩)] W fun e W' => (∃ v, e = .returned v) ∧
      ((∃ ys, ys.map Fin.val = downB (wb s) (8 * N) ∧ J ys W') ∨ (∃ pre, True ∧ Jx pre W')) := by
  have HR := hide hrow
  have HS := hide hs
  have HC := hide hcap
  clear hrow hs
  refine callsIn_of_wp Try.func68 rfl trivial ?_ rfl
  simp only [Try.ntmps68, List.size_toArray, List.length_cons, List.length_nil, Nat.reduceAdd, Nat.reduceSub, Array.replicate_succ, Array.replicate_zero, List.push_toArray, List.append_toArray, List.nil_append, List.cons_append]
  gi_wp2
  clear hcap
  gi_loopw [3] (fun q wr => ∃ (pre : List (Fin 2)) (i : Nat), q = .int .i64 ((i : Int) - 1) ∧ i ≤ 8 * N ∧ pre.length + i = 8 * N ∧ pre.map Fin.val ++ downB (wb s) i = downB (wb s) (8 * N) ∧ J pre wr ∧ Row wr ao g (ints s) ∧ wr.cell? ⟨B, 0, none⟩ = some (.slice ao N c)) (fun q _ => (intOf q + 1).toNat)
  case atStart => exact ⟨[], 8 * N, by go_num, by omega, by simp, by simp, h0, unhide HR, unhide HC⟩
  case round =>
    obtain ⟨pre, i, rfl, hi, hl, hp, hJ1, hr1, hc1⟩ := hrel
    have HP := hide hp
    have HR1 := hide hr1
    have HC1 := hide hc1
    clear hp hr1
    have HS' := unhide HS
    by_cases hlt : 0 < i
    · obtain ⟨k, rfl⟩ : ∃ k, i = k + 1 := ⟨i - 1, by omega⟩
      have hm : k % 8 < 8 := by omega
      have HK := hide (show k = 8 * (k / 8) + k % 8 by omega)
      have hjN : k / 8 < N := by omega
      obtain ⟨o, rfl⟩ := row_some (unhide HR1) (by omega)
      have hc := row_cell (unhide HR1) (j := k / 8) (by omega)
      clear HS'
      have hb2 : bt (cf s (k / 8)) (k % 8) < 2 := by have := bt_le (cf s (k / 8)) (k % 8); omega
      obtain ⟨fn, tmps, assign, body, hy1, hR⟩ := hY pre ⟨bt (cf s (k / 8)) (k % 8), hb2⟩ wr hJ1 (by omega)
      dsimp only at hy1
      have HP' : Hid ((pre ++ [(⟨bt (cf s (k / 8)) (k % 8), hb2⟩ : Fin 2)]).map Fin.val ++ downB (wb s) k = downB (wb s) (8 * N)) := by
        show _ = _
        rw [← unhide HP, List.map_append, List.append_assoc]
        show _ ++ (bt (cf s (k / 8)) (k % 8) :: downB (wb s) k) = _
        rw [← cf_wb8 s (k / 8) (k % 8) hm, ← unhide HK]
        rfl
      have e1 : ((k + 1 : Nat) : Int) - 1 = (k : Int) := by omega
      rw [e1]
      clear e1
      have w1 := bit_u8 (k % 8) (hbs (k / 8))
      have w2 := u64_bt (cf s (k / 8)) (k % 8)
      gi_wp2
      refine ⟨fun h => absurd h (by simp [Fence.wide]), hR.mono ?_⟩
      rintro e W3 (⟨rfl, hJ3, hk3⟩ | ⟨rfl, hJx3⟩)
      · have HR3 := hide ((unhide HR1).kq hk3 hg)
        have HC3 := hide (hk3.cell (unhide HC1) hB sB)
        gi_wp2
        go_roundw
        case rel => exact ⟨pre ++ [(⟨bt (cf s (k / 8)) (k % 8), hb2⟩ : Fin 2)], k, by go_num, by omega, by simp; omega, unhide HP', hJ3, unhide HR3, unhide HC3⟩
        case measure => simp [intOf]
      · gi_wp2
        refine bodyPost_ret (results_none rfl _ _ _) rfl ?_
        exact ⟨⟨_, rfl⟩, .inr ⟨pre ++ [(⟨bt (cf s (k / 8)) (k % 8), hb2⟩ : Fin 2)], trivial, hJx3⟩⟩
    · have hi2 : i = 0 := by omega
      subst hi2
      have HP' := hide ((List.append_nil _).symm.trans (unhide HP))
      clear HS'
      gi_wp2
      go_end0
      exact ⟨⟨_, rfl⟩, .inl ⟨pre, unhide HP', hJ1⟩⟩

theorem falling_stops (S : List Nat) (n B n₀ : Nat) (ao : Option Addr) (g N c : Nat) (s : List Nat) (hs : s.length = N) (hbs : Bs s) (hNc : N ≤ 1000000) (w : World) (hcap : w.cell? ⟨B, 0, none⟩ = some (.slice ao N c)) (hrow : Row w ao g (ints s)) (hg : s ≠ [] → g < n₀ ∧ g ∉ S) (hB : B < n₀) (sB : B ∉ S) :
    SeqStopsK Fence.wide n Try.prog 68 #[.pointer (some ⟨B, 0, none⟩)] (fun x : Fin 2 => #[Value.int .u64 x.val]) (Kq S n₀) (fun ys => ys.map Fin.val = downB (wb s) (8 * N)) (fun _ => True) (8 * N) w := fun l J Jx W hW _ _ hY h0 =>
  falling_in S n l B n₀ ao g N c s hs hbs hNc J Jx hY W ((hW.cell (p := ⟨B, 0, none⟩) (block_lt_of_cell hcap)).trans hcap) (hrow.below hW) hg hB sB h0

theorem or_bit {r b : Nat} (hr : r < 4294967296) (hb : b < 2) : bits .or .u64 ((r : Int) * 2) (b : Int) = ((2 * r + b : Nat) : Int) := by
  have h := bits_or_u64_nat (2 * r) b (by omega) (by omega)
  have e : 2 * r ||| b = 2 * r + b := by
    have : b = 0 ∨ b = 1 := by omega
    rcases this with rfl | rfl
    · simp
    · exact (Nat.two_pow_add_eq_or_of_lt (i := 1) (b := 1) (by omega) r).symm
  rw [e] at h
  rw [show (r : Int) * 2 = ((2 * r : Nat) : Int) from by omega]
  exact h
theorem xor_rule {r b : Nat} (hr : r < 4294967296) (hb : b < 2) : bits .xor .u64 ((2 * r + b : Nat) : Int) (((2 * r + b : Nat) : Int) / 4294967296 * 8293925629) = ((rs r b : Nat) : Int) := by
  have h := bits_xor_u64_nat (2 * r + b) ((2 * r + b) / 4294967296 * rule) (by omega) (by have : (2 * r + b) / 4294967296 ≤ 1 := by omega
                                                                                          unfold rule; omega)
  rw [show (((2 * r + b : Nat) : Int) / 4294967296 * 8293925629) = (((2 * r + b) / 4294967296 * rule : Nat) : Int) from by unfold rule; omega]
  exact h
theorem rs_lt' {l : List (Fin 2)} : (l.map Fin.val).foldl rs 0 < 4294967296 := by
  have : ∀ (l : List (Fin 2)) (v : Nat), v < 4294967296 → (l.map Fin.val).foldl rs v < 4294967296 := by
    intro l
    induction l with
    | nil => intro v h; exact h
    | cons x l ih => intro v h; exact ih _ (rs_lt h (by omega))
  exact this l 0 (by omega)

set_option maxRecDepth 100000 in
set_option maxHeartbeats 4000000 in
theorem rest_any (v : Value) (g : Nat) (s : List Nat) (w : World) (hA : Arg w v g s) (hs : s.length ≤ 100000) :
    Calls Try.prog 26 #[v] w fun e W' => e = .returned (.int .u32 (restF s : Nat)) ∧ Below w.heap.size w W' := by
  obtain ⟨⟨ao, c, rfl, hc1, hc2, hnil, hr⟩, hbs⟩ := hA
  have HR := hide hr
  clear hr hnil
  refine (callsIn_wide (n := 3)).1 ?_
  refine callsIn_of_wp_marks Try.func26 rfl trivial ?_ rfl
  simp only [Try.ntmps26, List.size_toArray, List.length_cons, List.length_nil, Nat.reduceAdd, Nat.reduceSub, Array.replicate_succ, Array.replicate_zero, List.push_toArray, List.append_toArray, List.nil_append, List.cons_append]
  gi_wp2
  have HC5 : Hid ((w.alloc (.cells #[.int .u64 0] 67)).cell? ⟨w.heap.size, 0, none⟩ = some (.int .u64 0) ∧ (w.alloc (.cells #[.int .u64 0] 67)).frozen? ⟨w.heap.size, 0, none⟩ = false) := cell_new' w (.int .u64 0) 67
  have HW2 : Hid (Below w.heap.size w (w.alloc (.cells #[.int .u64 0] 67))) := (Below.refl _ w).alloc (Nat.le_refl _) _
  refine ⟨trivial, (callsIn_wide.2 (falling_any _ _ ⟨_, _, _, rfl⟩)).mono ?_⟩
  rintro e w2 ⟨b1, rfl, hcb, hb1, hb2, hk2⟩
  have hz2 := hk2.size
  simp only [World.size_alloc] at hz2 hb1
  have hw2 : Below w.heap.size w w2 := (unhide HW2).trans (hk2.mono (by simp))
  have c5 := box_below (unhide HC5) hk2 (block_lt_of_cell (unhide HC5).1)
  have hr2 := (unhide HR).below hw2
  clear hk2 HW2 HC5
  gi_wp2
  refine wpIn_rangeFunc_ownF rfl (by omega) (gf := 68) (lb := #[.pointer (some ⟨b1, 0, none⟩)]) rfl trivial (enters_of Try.func68 (by kernel_rfl) rfl)
    (falling_stops [w.heap.size] 2 b1 w2.heap.size ao g s.length c s rfl hbs (by omega) w2 hcb hr2 (fun h => ⟨hr2.block_lt h, by have := (unhide HR).block_lt h; simp; omega⟩) hb2 (by simp; omega))
    (fun h k => h.trans k) (kq_b (Nat.le_refl _)) (Below.refl _ _) (fun _ => rfl)
    (fun pre W => (W.cell? ⟨w.heap.size, 0, none⟩ = some (.int .u64 ((pre.map Fin.val).foldl rs 0 : Nat)) ∧ W.frozen? ⟨w.heap.size, 0, none⟩ = false) ∧ Below w.heap.size w W)
    (fun _ _ _ => False)
    (OwnFrom.and (Own.from (fun s A B row hs hg hr => ⟨cell_kept hs.1 hg hr, (frozen_kept hs.1 hg hr).trans hs.2⟩) _) (ownFrom_below (Nat.le_refl _) (by omega)))
    (fun _ _ _ _ _ hs _ _ => hs)
    ⟨c5, hw2⟩
    (fun x => { tmps := #[.slice ao s.length c, undef, .int .u32 0, .pointer (some ⟨w.heap.size, 0, none⟩), .int .u64 x.val, .slice ao s.length c, .func (.func 68) #[] #[.pointer (some ⟨b1, 0, none⟩)], .int .u64 x.val, undef, undef, undef, undef, undef, undef, undef, undef, undef, undef, undef], defers := [] }) ?assign ?body ?done ?stop
  case assign =>
    intro l x W K hK
    gi_wp2
    exact hK
  case body =>
    rintro l pre ⟨b, hb⟩ W ⟨⟨hc, hf⟩, hB⟩ _
    obtain ⟨r, hr⟩ : ∃ r, (pre.map Fin.val).foldl rs 0 = r := ⟨_, rfl⟩
    have hlt : r < 4294967296 := by rw [← hr]; exact rs_lt'
    rw [hr] at hc
    have HT := hide hr
    clear hr
    obtain ⟨y, hy⟩ : ∃ y, 2 * r + b = y := ⟨_, rfl⟩
    have q1 : bits .or .u64 ((r : Int) * 2) (b : Int) = (y : Int) := by rw [← hy]; exact or_bit hlt hb
    have q2 : bits .xor .u64 (y : Int) ((y : Int) / 4294967296 * 8293925629) = ((rs r b : Nat) : Int) := by rw [← hy]; exact xor_rule hlt hb
    have hy2 : y < 8589934592 := by omega
    clear hy
    gi_wp2
    refine ⟨(KeepsOthers.setCell _ _ _).trans (KeepsOthers.setCell _ _ _), ((Kq.refl _ _ W).setCell ⟨w.heap.size, 0, none⟩ _ (by simp)).setCell ⟨w.heap.size, 0, none⟩ _ (by simp), ⟨?_, by rw [World.frozen?_setCell, World.frozen?_setCell]; exact hf⟩, (hB.setCell (p := ⟨w.heap.size, 0, none⟩) (Nat.le_refl _) _).setCell (p := ⟨w.heap.size, 0, none⟩) (Nat.le_refl _) _⟩
    rw [List.map_append, List.foldl_append, unhide HT]
    exact World.cell?_setCell_same' _ _ _ (by rw [World.cell?_setCell_same' _ _ _ (by rw [hc]; rfl)]; rfl)
  case done =>
    rintro D ys W hD hys ⟨⟨hc, _⟩, hB⟩ hK
    rw [hys] at hc
    clear hys
    have hc' : W.cell? ⟨w.heap.size, 0, none⟩ = some (.int .u64 (restF s : Nat)) := hc
    clear hc
    have hlt := rest_lt s
    gi_wp2
    refine ⟨by simp, .inl ⟨_, _, rfl, run_takeDeferred hK, ?_⟩⟩
    exact ⟨_, results_tmp rfl _ _ _, rfl, hB.trans (belowK_b (w := w) (Nat.le_refl _) W D _ _ (by omega) hK rfl rfl)⟩
  case stop =>
    rintro D c pre W _ _ h _
    exact h.elim

end Go.Proofs.Ytahjcahmlangiaa
