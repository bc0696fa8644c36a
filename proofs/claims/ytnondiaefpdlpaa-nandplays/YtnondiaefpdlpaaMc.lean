/-
  bits.ones, its iterator.
  bits.joined, its iterator.
  slices.AppendSeq, slices.Collect of ints.
  bits.Apart.
  What the laws of bits want of bytes by themselves.
  What the laws of bits want of mixed bytes.
  The least of two or three numbers; fronts of slices; strings.
-/
import Derived.Test.YtnondiaefpdlpaaMb
import Derived.Test.YtnondiaefpdlpaaRy
import Derived.Test.YtnondiaefpdlpaaBa
namespace Go.Proofs.Ytnondiaefpdlpaa
open Go.RowKit Go.Shelf
attribute [local go_sem] Oper.semAt_some

/-- The iterator's word: each place with its byte. -/
structure Seq6 (gf : Nat) (lb : Array Value) (N : Nat) (f : Nat → Nat) (T : Nat → Prop) (D : Nat) (w : World) : Prop where
  enters : ∀ args W, (callFunc gf args).run Try.prog W = .ok (.enter gf args) W
  seq : SeqY Try.prog gf lb (fun i : Fin N => #[Value.int .i64 (i.val : Nat), Value.int .u8 (f i.val : Nat)]) T D (fun xs => xs.map Fin.val = List.range N) N w

theorem SeqY.below {α : Type} {P : Program} {g : Nat} {lb : Array Value} {encs : α → Array Value} {T : Nat → Prop} {D : Nat} {S : List α → Prop} {N : Nat} {w w' : World} (h : SeqY P g lb encs T D S N w) (k : Below w.heap.size w w') : SeqY P g lb encs T D S N w' :=
  fun l J W hW hJ hY h0 n => h l J W (k.trans (hW.mono k.size)) hJ hY h0 n
theorem SeqY.more {α : Type} {P : Program} {g : Nat} {lb : Array Value} {encs : α → Array Value} {T U : Nat → Prop} {D : Nat} {S : List α → Prop} {N : Nat} {w : World} (h : SeqY P g lb encs T D S N w) (k : ∀ i, T i → U i) : SeqY P g lb encs U D S N w :=
  fun l J W hW hJ hY h0 n => h l J W hW hJ (fun pre x W1 hj hl hz => by
    obtain ⟨fn, tmps, assign, body, h1, h2⟩ := hY pre x W1 hj hl hz
    exact ⟨fn, tmps, assign, body, h1, h2.mono (fun e W' he => ⟨he.1, he.2.1, he.2.2.mono (fun i hi => hi.imp id (k i))⟩)⟩) h0 n

set_option maxHeartbeats 1000000 in
theorem ones_any (gf : Nat) (lb : Array Value) (w : World) : Calls Try.prog 78 #[.func (.func gf) #[] lb] w fun e w' =>
    e = .returned (.func (.func 84) #[] #[.pointer (some ⟨w.heap.size, 0, none⟩)]) ∧ w'.cell? ⟨w.heap.size, 0, none⟩ = some (.func (.func gf) #[] lb) ∧ w'.heap.size = w.heap.size + 1 ∧ Below w.heap.size w w' := by
  go_enter Try.func78, Try.ntmps78
  go_wp2
  go_ret
  exact ⟨rfl, (cell_new' w _ _).1, by simp, (Below.refl _ w).alloc (Nat.le_refl _) _⟩

set_option maxRecDepth 100000 in
set_option maxHeartbeats 8000000 in
theorem ones_x (T : Nat → Prop) (D b N gf : Nat) (lb : Array Value) (f : Nat → Nat) (hf : ∀ i, f i < 256) (hN : N ≤ 281474976710656) (w : World) (hcap : w.cell? ⟨b, 0, none⟩ = some (.func (.func gf) #[] lb)) (hT : ∀ k, T k → k < w.heap.size) (hS : Seq6 gf lb N f T D w) :
    SeqY Try.prog 84 #[.pointer (some ⟨b, 0, none⟩)] (fun x : Fin N × Fin 8 => #[.int .i64 (pl8 x : Nat)]) T (3 + D) (fun xs => xs.map pl8 = onF f N) (8 * N) w := by
  intro l J W hW hJ hY h0 n
  have hb := block_lt_of_cell hcap
  dsimp only at hb
  have hsz := hW.size
  have hcW := (hW.cell (p := ⟨b, 0, none⟩) hb).trans hcap
  have hcW' : (W.alloc (.cells #[.func (.yield l) #[] #[]] 144)).cell? ⟨b, 0, none⟩ = some (.func (.func gf) #[] lb) := (World.cell?_of_block (Below.heap_alloc _ _ _ (by show b < _; omega))).trans hcW
  have HY0 := hide (cell_new' W (.func (.yield l) #[] #[]) 144).1
  have HJ0 := hide (hJ [] _ _ h0 (Ka.of_below ((Below.refl _ W).alloc (Nat.le_refl _) (.cells #[.func (.yield l) #[] #[]] 144))))
  have HB0 := hide ((Below.refl _ W).alloc (Nat.le_refl _) (.cells #[.func (.yield l) #[] #[]] 144))
  have HS0 : Hid ((W.alloc (.cells #[.func (.yield l) #[] #[]] 144)).heap.size = W.heap.size + 1) := World.size_alloc _ _
  have HSQ := hide (hS.seq.below (hW.trans ((unhide HB0).mono hsz)))
  show CallsIn Fence.wide n Try.prog 84 #[.func (.yield l) #[] #[], .pointer (some ⟨b, 0, none⟩)] W _
  refine callsIn_of_wp_marks Try.func84 rfl trivial ?_ rfl
  simp only [Try.ntmps84, List.size_toArray, List.length_cons, List.length_nil, Nat.reduceAdd, Nat.reduceSub, Array.replicate_succ, Array.replicate_zero, List.push_toArray, List.append_toArray, List.nil_append, List.cons_append]
  gi_wp2
  clear hcW' hcW
  have hTW : ∀ k, T k → k < W.heap.size := fun k hk => Nat.lt_of_lt_of_le (hT k hk) hsz
  refine wpIn_range_y (gf := gf) (lb := lb) rfl hS.enters (unhide HSQ) (fun k hk => by rw [unhide HS0]; exact Nat.lt_succ_of_lt (hTW k hk)) (fun _ => rfl)
    (fun pre A => J (hitsF f pre) A ∧ A.cell? ⟨W.heap.size, 0, none⟩ = some (.func (.yield l) #[] #[]) ∧ W.heap.size + 1 ≤ A.heap.size)
    (fun s A B h hb => by
      rw [unhide HS0] at hb
      exact ⟨hJ _ _ _ h.1 (hb.mono (by omega) (by omega)), hb.cell h.2.1 (by dsimp only; omega), Nat.le_trans h.2.2 hb.size⟩)
    ⟨unhide HJ0, unhide HY0, by rw [unhide HS0]; omega⟩ ?round ?done
  case done =>
    rintro D1 xs A hD hD2 hxs ⟨hj, _, _⟩ hK
    rw [unhide HS0] at hD hD2
    gi_wp2
    refine ⟨by simp, .inl ⟨_, _, rfl, run_takeDeferred hK, ?_⟩⟩
    refine ⟨_, results_none rfl _ _ _, ⟨_, rfl⟩, hitsF f xs, hitsF_all hxs, hJ _ _ _ hj (Ka.put _ _ (by omega) (by omega))⟩
  case round =>
    rintro l' pre x A ⟨hj, hy, hsA⟩ hlen hs2A
    rw [unhide HS0] at hs2A
    have hx := x.isLt
    gi_wp2
    rw [unhide HS0]
    refine ⟨⟨Ky.refl _ _ _ _, hj, hy, hsA⟩, ?_⟩
    clear hj hy
    rintro W₂ hsz2 - - ⟨hj, hy, hs3⟩
    have HJ2 := hide hj
    have HY2 := hide hy
    clear hj hy
    gi_wp2
    gi_loopw [9] (fun q wr => ∃ j : Nat, q = .int .i64 j ∧ j ≤ 8 ∧ J (hitsF f pre ++ hitF f j x) wr ∧ wr.cell? ⟨W.heap.size, 0, none⟩ = some (.func (.yield l) #[] #[]) ∧ Ky T W.heap.size (W.heap.size + (3 + D)) W₂ wr) (fun q _ => 8 - (intOf q).toNat)
    case atStart => exact ⟨0, rfl, by omega, by rw [hitF_zero, List.append_nil]; exact unhide HJ2, unhide HY2, Ky.refl _ _ _ _⟩
    case round =>
      obtain ⟨j, rfl, hj8, hj1, hy1, hk1⟩ := hrel
      have HJ3 := hide hj1
      have HK3 := hide hk1
      have hz3 := hk1.size
      clear hj1 hk1
      by_cases hlt : j < 8
      · have hji : (j : Int) < 8 := by omega
        have hfx := hf x.val
        have q1 := bit_u8 j hfx
        have hle := bt_le (f x.val) j
        have hll := hitF_len f j x
        have hls := hitsF_len f pre
        by_cases hb1 : bt (f x.val) j = 1
        · have hh := hitF_one (i := x) hlt hb1
          have HH := hide hh
          rw [hb1] at q1
          have q1' : bits .and .u8 (((f x.val : Nat) : Int) / 2 ^ j) 1 = 1 := q1
          obtain ⟨fn, tmps, assign, body, hyy, hR⟩ := hY (hitsF f pre ++ hitF f j x) (x, ⟨j, hlt⟩) wr (unhide HJ3) (by rw [List.length_append]; omega) (by omega)
          have hyy' := hyy
          have he : ((pl8 (x, (⟨j, hlt⟩ : Fin 8)) : Nat) : Int) = (x.val : Int) * 8 + (j : Int) := by unfold pl8; dsimp only; omega
          rw [he] at hyy
          have HE := hide he
          clear hh hb1 q1 hyy' he
          gi_wp2
          refine ⟨rfl, (round_in (l' := l') (round_any hR)).mono ?_⟩
          rintro e W5 ⟨rfl, hJ5, hk5⟩
          have HJ5 := hide hJ5
          have HK5 := hide hk5
          have HY5 := hide (hk5.cell hy1 (.inl ⟨Nat.le_refl _, by dsimp only; omega⟩))
          clear hJ5 hk5 hyy hR
          gi_wp2
          go_roundw
          case rel => exact ⟨j + 1, by go_num, by omega, by rw [unhide HH, ← List.append_assoc]; exact unhide HJ5, unhide HY5, (unhide HK3).trans (unhide HK5)⟩
          case measure => simp [intOf]; omega
        · have hb0 : bt (f x.val) j = 0 := by omega
          have hh := hitF_none (i := x) hlt hb0
          have HH := hide hh
          rw [hb0] at q1
          have q1' : bits .and .u8 (((f x.val : Nat) : Int) / 2 ^ j) 1 = 0 := q1
          clear hh hb1 hb0 q1
          gi_wp2
          refine ⟨fun _ h => (by cases h), ?_⟩
          gi_wp2
          go_roundw
          case rel => exact ⟨j + 1, by go_num, by omega, by rw [unhide HH]; exact unhide HJ3, hy1, unhide HK3⟩
          case measure => simp [intOf]; omega
      · have hj2 : j = 8 := by omega
        subst hj2
        gi_wp2
        have hk := unhide HK3
        refine ⟨hk.mono (fun k h => by rcases h with h | h; exact .inl ⟨by omega, by omega⟩; exact .inr h), ?_, hy1, by omega⟩
        rw [hitsF_snoc]
        exact unhide HJ3

end Go.Proofs.Ytnondiaefpdlpaa

namespace Go.Proofs.Ytnondiaefpdlpaa
open Go.RowKit Go.Shelf
attribute [local go_sem] Oper.semAt_some

theorem Row.ky {T : Nat → Prop} {n m : Nat} {w w' : World} (h : Ky T n m w w') {ao : Option Addr} {g : Nat} {s : List Nat} (hr : Row w ao g (ints s)) (hg : s ≠ [] → (n ≤ g ∧ g < m) ∨ T g) : Row w' ao g (ints s) := by
  rcases hr with h0 | ⟨o, rfl, hc⟩
  · exact .inl h0
  · by_cases hs : s = []
    · subst hs; exact .inl rfl
    · exact .inr ⟨o, rfl, fun j hj => h.cell (hc j hj) (hg hs)⟩

set_option maxHeartbeats 1000000 in
theorem xor_any (x y : Nat) (hx : x < 256) (hy : y < 256) (w : World) : Calls Try.prog 80 #[.int .u8 x, .int .u8 y] w fun e w' => e = .returned (.int .u8 (x ^^^ y : Nat)) ∧ w' = w := by
  have hq := bits_xor_u8 hx hy
  go_enter Try.func80, Try.ntmps80
  go_wp2
  go_ret
  exact ⟨rfl, rfl⟩

/-- What joined has caught. -/
structure Cap3 (w : World) (Ba Bb Bj : Nat) (u v : Value) : Prop where
  a : w.cell? ⟨Ba, 0, none⟩ = some u
  b : w.cell? ⟨Bb, 0, none⟩ = some v
  j : w.cell? ⟨Bj, 0, none⟩ = some (.func (.func 80) #[] #[])

theorem three_boxes (w : World) (a b c : Value) (s t u : TypeId) : ∀ W, W = ((w.alloc (.cells #[a] s)).alloc (.cells #[b] t)).alloc (.cells #[c] u) →
    W.cell? ⟨w.heap.size, 0, none⟩ = some a ∧ W.cell? ⟨w.heap.size + 1, 0, none⟩ = some b ∧ W.cell? ⟨w.heap.size + 1 + 1, 0, none⟩ = some c ∧ Below w.heap.size w W ∧ W.heap.size = w.heap.size + 3 := by
  rintro W rfl
  refine ⟨?_, ?_, ?_, (((Below.refl _ w).alloc (Nat.le_refl _) _).alloc (by simp) _).alloc (by simp; omega) _, by simp⟩
  · refine (World.cell?_of_block (Below.heap_alloc _ _ _ (by simp; omega))).trans ?_
    exact (World.cell?_of_block (Below.heap_alloc _ _ _ (by simp))).trans (cell_new' w _ _).1
  · have h := (cell_new' (w.alloc (.cells #[a] s)) b t).1
    rw [World.size_alloc] at h
    exact (World.cell?_of_block (Below.heap_alloc _ _ _ (by simp))).trans h
  · have h := (cell_new' ((w.alloc (.cells #[a] s)).alloc (.cells #[b] t)) c u).1
    rw [World.size_alloc, World.size_alloc] at h
    exact h

set_option maxHeartbeats 1000000 in
theorem joined_any (u v : Value) (w : World) (hu : ∃ ao n c, u = .slice ao n c) (hv : ∃ ao n c, v = .slice ao n c) : Calls Try.prog 79 #[u, v, .func (.func 80) #[] #[]] w fun e w' =>
    e = .returned (.func (.func 85) #[] #[.pointer (some ⟨w.heap.size, 0, none⟩), .pointer (some ⟨w.heap.size + 1 + 1, 0, none⟩), .pointer (some ⟨w.heap.size + 1, 0, none⟩)]) ∧ Cap3 w' w.heap.size (w.heap.size + 1) (w.heap.size + 1 + 1) u v ∧ w'.heap.size = w.heap.size + 3 ∧ Below w.heap.size w w' := by
  obtain ⟨ao, n, c, rfl⟩ := hu
  obtain ⟨bo, m, d, rfl⟩ := hv
  go_enter Try.func79, Try.ntmps79
  go_wp2
  go_ret
  obtain ⟨h1, h2, h3, h4, h5⟩ := three_boxes w (.slice ao n c) (.slice bo m d) (.func (.func 80) #[] #[]) 38 38 136 _ rfl
  exact ⟨rfl, ⟨h1, h2, h3⟩, h5, h4⟩

set_option maxRecDepth 100000 in
set_option maxHeartbeats 4000000 in
theorem joined_x (T : Nat → Prop) (Ba Bb Bj : Nat) (ao bo : Option Addr) (ga gb ca cb N : Nat) (a b : List Nat) (ha : a.length = N) (hb : b.length = N) (hba : Bs a) (hbb : Bs b) (hN : N ≤ 281474976710656) (w : World)
    (hcap : Cap3 w Ba Bb Bj (.slice ao N ca) (.slice bo N cb)) (hra : Row w ao ga (ints a)) (hrb : Row w bo gb (ints b)) (hTb : T Bb) (hTj : T Bj) (hga : a ≠ [] → T ga) (hgb : b ≠ [] → T gb) :
    Seq6 85 #[.pointer (some ⟨Ba, 0, none⟩), .pointer (some ⟨Bj, 0, none⟩), .pointer (some ⟨Bb, 0, none⟩)] N (fun i => cf a i ^^^ cf b i) T 0 w := by
  refine ⟨enters_of Try.func85 (by kernel_rfl) rfl, ?_⟩
  intro l J W hW hJ hY h0 n
  have hA := (hW.cell (p := ⟨Ba, 0, none⟩) (block_lt_of_cell hcap.a)).trans hcap.a
  have hB := (hW.cell (p := ⟨Bb, 0, none⟩) (block_lt_of_cell hcap.b)).trans hcap.b
  have hJb := (hW.cell (p := ⟨Bj, 0, none⟩) (block_lt_of_cell hcap.j)).trans hcap.j
  have HB := hide hB
  have HJB := hide hJb
  have HRA := hide (hra.below hW)
  have HRB := hide (hrb.below hW)
  have HLA := hide ha
  have HLB := hide hb
  clear hra hrb hB hJb ha hb
  show CallsIn Fence.wide n Try.prog 85 #[.func (.yield l) #[] #[], .pointer (some ⟨Ba, 0, none⟩), .pointer (some ⟨Bj, 0, none⟩), .pointer (some ⟨Bb, 0, none⟩)] W _
  refine callsIn_of_wp Try.func85 rfl trivial ?_ rfl
  simp only [Try.ntmps85, List.size_toArray, List.length_cons, List.length_nil, Nat.reduceAdd, Nat.reduceSub, Array.replicate_succ, Array.replicate_zero, List.push_toArray, List.append_toArray, List.nil_append, List.cons_append]
  gi_wp2
  gi_loopw [9] (fun q wr => ∃ (pre : List (Fin N)) (i : Nat), q = .int .i64 i ∧ i ≤ N ∧ pre.map Fin.val = List.range i ∧ J pre wr ∧ W.heap.size ≤ wr.heap.size ∧ Row wr ao ga (ints a) ∧ Row wr bo gb (ints b) ∧ wr.cell? ⟨Bb, 0, none⟩ = some (.slice bo N cb) ∧ wr.cell? ⟨Bj, 0, none⟩ = some (.func (.func 80) #[] #[])) (fun q _ => N - (intOf q).toNat)
  case atStart => exact ⟨[], 0, rfl, by omega, rfl, h0, Nat.le_refl _, unhide HRA, unhide HRB, unhide HB, unhide HJB⟩
  case round =>
    obtain ⟨pre, i, rfl, hi, hp, hJ1, hzW, hr1, hr2, hc1, hc2⟩ := hrel
    have hl : pre.length = i := by have := congrArg List.length hp; simpa using this
    have HP := hide hp
    have HR1 := hide hr1
    have HR2 := hide hr2
    have HL := hide hl
    have HC1 := hide hc1
    have HC2 := hide hc2
    have HJ1 := hide hJ1
    clear hp hr1 hr2 hl hJ1
    by_cases hlt : i < N
    · have hi1 : (i : Int) < (N : Int) := by omega
      obtain ⟨oa, rfl⟩ := row_some (unhide HR1) (by rw [unhide HLA]; omega)
      obtain ⟨ob, rfl⟩ := row_some (unhide HR2) (by rw [unhide HLB]; omega)
      have hca := row_cell (unhide HR1) (j := i) (by rw [unhide HLA]; exact hlt)
      have hcb := row_cell (unhide HR2) (j := i) (by rw [unhide HLB]; exact hlt)
      obtain ⟨fn, tmps, assign, body, hy1, hR⟩ := hY pre ⟨i, hlt⟩ wr.drew (hJ _ _ _ (unhide HJ1) (Ka.of_below ((Below.refl _ wr).drew))) (by rw [unhide HL]; exact hlt) (Nat.le_trans hzW (Nat.le_refl _))
      dsimp only at hy1
      have hbx := hba i
      have hby := hbb i
      have hmix : Try.prog.follows .mixedOrders = true := by kernel_rfl
      gi_wp2
      refine wpIn_mono (Q := Exit.then (fun aa W3 => J (pre ++ [⟨i, hlt⟩]) W3 ∧ Ky T W.heap.size (W.heap.size + 0) wr.drew W3 ∧ aa = { tmps := #[.func (.yield l) #[] #[], .pointer (some ⟨Ba, 0, none⟩), .pointer (some ⟨Bj, 0, none⟩), .pointer (some ⟨Bb, 0, none⟩), undef, .int .i64 (i : Nat), .int .u8 (cf a i : Nat), .slice (some ⟨ga, oa, none⟩) N ca, .int .i64 (N : Nat), .int .i64 (i : Nat), .bool true, .int .i64 (i : Nat), .pointer (some ⟨ga, oa + i, none⟩), .int .u8 (cf a i : Nat), .func (.yield l) #[] #[], .int .i64 (i : Nat), .func (.func 80) #[] #[], .int .u8 (cf a i : Nat), .slice (some ⟨gb, ob, none⟩) N cb, .int .i64 (i : Nat), .pointer (some ⟨gb, ob + i, none⟩), .int .u8 (cf b i : Nat), .int .u8 (cf a i ^^^ cf b i : Nat), .bool true, .bool false, u25], defers := [] }) (fun _ _ _ => False)) ?_ ?_
      · gi_region_with_o (first
          | (refine ⟨trivial, fun h => absurd h (by simp [Fence.wide]), (callsIn_wide.2 (xor_any (cf a i) (cf b i) hbx hby _)).mono ?_⟩; rintro e W2 ⟨rfl, hW2⟩; subst hW2)
          | (refine ⟨fun h => absurd h (by simp [Fence.wide]), (round_any hR).mono ?_⟩; rintro e W3 ⟨rfl, hJ3, hk3⟩))
        all_goals exact ⟨hJ3, hk3, rfl⟩
      · intro e aa W3 hQ
        cases e with
        | normal => ?_
        | _ => exact hQ.elim
        obtain ⟨hJ3, hk3, rfl⟩ := hQ
        have HR1' := hide (((unhide HR1).below ((Below.refl _ wr).drew)).ky hk3 (fun h => .inr (hga h)))
        have HR2' := hide (((unhide HR2).below ((Below.refl _ wr).drew)).ky hk3 (fun h => .inr (hgb h)))
        have HC1' := hide (hk3.cell (p := ⟨Bb, 0, none⟩) (unhide HC1) (.inr hTb))
        have HC2' := hide (hk3.cell (p := ⟨Bj, 0, none⟩) (unhide HC2) (.inr hTj))
        have HZ3 : Hid (W.heap.size ≤ W3.heap.size) := Nat.le_trans hzW hk3.size
        have HJ3 := hide hJ3
        clear hJ3 hk3 hy1 hR hca hcb hc1 hc2
        gi_wp2
        go_roundw
        case rel => exact ⟨pre ++ [⟨i, hlt⟩], i + 1, by go_num, by omega, by rw [List.map_append, unhide HP, List.range_succ]; rfl, unhide HJ3, unhide HZ3, unhide HR1', unhide HR2', unhide HC1', unhide HC2'⟩
        case measure => simp [intOf]; omega
    · have hi2 : i = N := by omega
      subst hi2
      gi_wp2
      go_end0
      exact ⟨⟨_, rfl⟩, pre, unhide HP, unhide HJ1⟩

end Go.Proofs.Ytnondiaefpdlpaa

namespace Go.Proofs.Ytnondiaefpdlpaa
open Go.RowKit Go.Shelf
attribute [local go_sem] Oper.semAt_some

theorem one_at {w : World} {g : Nat} {u : Value} (h : w.cell? ⟨g, 0, none⟩ = some u) : ∀ j v, [u][j]? = some v → w.cell? ((⟨g, 0, none⟩ : Addr).add j) = some v := by
  intro j v hv
  obtain ⟨hj, hv⟩ := List.getElem?_eq_some_iff.1 hv
  have : j = 0 := by simpa using hj
  subst this
  rw [Addr.add_lit]
  simp at hv
  rw [← hv]
  exact h

set_option maxRecDepth 100000 in
set_option maxHeartbeats 4000000 in
theorem appendSeq_any {α : Type} (gf : Nat) (lb : Array Value) (p : α → Nat) (D N : Nat) (S : List α → Prop) (hN : N ≤ 100000) (w : World) (hen : ∀ args W, (callFunc gf args).run Try.prog W = .ok (.enter gf args) W)
    (hseq : SeqY Try.prog gf lb (fun x : α => #[.int .i64 (p x : Nat)]) (fun k => k < w.heap.size) D S N w) :
    Calls Try.prog 83 #[.slice none 0 0, .func (.func gf) #[] lb] w fun e w' => ∃ v xs, e = .returned v ∧ S xs ∧ OwnI w.heap.size w' v (xs.map p) ∧ Below w.heap.size w w' := by
  refine (callsIn_wide (n := 3)).1 ?_
  refine callsIn_of_wp_marks Try.func83 rfl trivial ?_ rfl
  simp only [Try.ntmps83, List.size_toArray, List.length_cons, List.length_nil, Nat.reduceAdd, Nat.reduceSub, Array.replicate_succ, Array.replicate_zero, List.push_toArray, List.append_toArray, List.nil_append, List.cons_append]
  gi_wp2
  have HB1 := hide ((Below.refl _ w).alloc (Nat.le_refl _) (.cells #[.slice none 0 0] 24))
  have HC1 := hide (cell_new' w (.slice none 0 0) 24)
  have HZ1 : Hid ((w.alloc (.cells #[.slice none 0 0] 24)).heap.size = w.heap.size + 1) := World.size_alloc _ _
  obtain ⟨w1, hw1⟩ : ∃ w1, w.alloc (.cells #[.slice none 0 0] 24) = w1 := ⟨_, rfl⟩
  rw [hw1] at HB1 HC1 HZ1 ⊢
  clear hw1
  have hz1a := Nat.le_of_eq (unhide HZ1)
  have hz1b := Nat.le_of_eq (unhide HZ1).symm
  obtain ⟨i0, hi0, hz0, hzz1, hz2⟩ := info_parts infoI
  have HI := hide hi0
  clear hi0
  refine wpIn_range_y (gf := gf) (lb := lb) rfl hen (hseq.below (unhide HB1)) (fun k hk => by omega) (fun _ => rfl)
    (fun pre A => ∃ v, (A.cell? ⟨w.heap.size, 0, none⟩ = some v ∧ A.frozen? ⟨w.heap.size, 0, none⟩ = false) ∧ OwnI (w1.heap.size + 2 + D) A v (pre.map p) ∧ Below w.heap.size w A ∧ w1.heap.size ≤ A.heap.size)
    (fun s A B h hb => by
      obtain ⟨v, ⟨h1, h2⟩, h3, h4, h5⟩ := h
      have hkb := hb.block w.heap.size (by omega) (by omega)
      exact ⟨v, ⟨(World.cell?_of_block hkb).trans h1, (World.frozen?_of_block (a := ⟨w.heap.size, 0, none⟩) hkb).trans h2⟩, h3.keep (fun b h6 h7 => hb.block b h7 (by omega)), h4.trans ((hb.below (by omega)).mono (by omega)), Nat.le_trans h5 hb.size⟩)
    ⟨.slice none 0 0, unhide HC1, OwnI.nil _ _, unhide HB1, Nat.le_refl _⟩ ?round ?done
  case done =>
    rintro D1 xs A hD hD2 hxs ⟨v, ⟨hc, hf⟩, hO, hB, hzA⟩ hK
    have HO := hide hO
    have HB := hide hB
    obtain ⟨vo, vn, vc, hv⟩ : ∃ vo vn vc, v = .slice vo vn vc := by
      rcases hO.shape with ⟨h1, h2⟩ | ⟨q, cq, h1, _⟩
      · exact ⟨_, _, _, h1⟩
      · exact ⟨_, _, _, h1⟩
    subst hv
    clear hO hB
    gi_wp2
    refine ⟨by simp, .inl ⟨_, _, rfl, run_takeDeferred hK, ?_⟩⟩
    exact ⟨_, results_tmp rfl _ _ _, _, xs, rfl, hxs, ((unhide HO).keep (fun b h1 h2 => World.putObj_heap_other (by omega))).mono (by omega), (unhide HB).trans (below_put _ _ (by omega))⟩
  case round =>
    rintro l pre x A ⟨v, ⟨hc, hf⟩, hO, hB, hzA⟩ hlen hs2A
    gi_wp2
    refine ⟨⟨Ky.refl _ _ _ _, v, ⟨hc, hf⟩, hO, hB, hzA⟩, ?_⟩
    clear hc hf hO hB v
    rintro W₂ hsz2 - - ⟨v, ⟨hc, hf⟩, hO, hB, hz3⟩
    have hsz3 : w1.heap.size + 2 + D ≤ W₂.heap.size := by omega
    clear hsz2
    have HO := hide hO
    have HB := hide hB
    obtain ⟨vo, vn, vc, hv⟩ : ∃ vo vn vc, v = .slice vo vn vc := by
      rcases hO.shape with ⟨h1, h2⟩ | ⟨q, cq, h1, _⟩
      · exact ⟨_, _, _, h1⟩
      · exact ⟨_, _, _, h1⟩
    subst hv
    have HAL := hide ((Below.refl _ W₂).alloc (Nat.le_refl _) (.cells #[.int .i64 ((p x : Nat) : Int)] 3))
    have HO2 : Hid (OwnI (w1.heap.size + 2 + D) (W₂.alloc (.cells #[.int .i64 ((p x : Nat) : Int)] 3)) (.slice vo vn vc) (pre.map p)) := hO.below (unhide HAL)
    have HC2 := hide (cell_new' W₂ (.int .i64 ((p x : Nat) : Int)) 3).1
    have HL : Hid ((pre.map p).length = pre.length) := List.length_map _
    clear hO hB
    gi_wp2_with (gi_at_builtin; refine wpListIn_append_own _ rfl _ _ 24 rfl (w1.heap.size + 2 + D) 3 i0 (.int .i64 0) 1 8 Try.underlying24 (unhide HI) hz0 hzz1 hz2 rfl (by decide) (.slice vo vn vc) (pre.map p).length _ rfl (unhide HO2) ⟨W₂.heap.size, 0, none⟩ 1 1 [.int .i64 ((p x : Nat) : Int)] rfl (by simp) (one_at (unhide HC2)) (ints_oneCell .i64 [((p x : Nat) : Int)]) (by rw [unhide HL]; unfold maxLen; omega) (by rw [unhide HL]; omega) (by simp; omega) ?_)
    intro v' w' ho hg _
    have hO3 : OwnI (w1.heap.size + 2 + D) w' v' (pre.map p ++ [p x]) := OwnI.snoc (by rw [List.length_map]; exact ho)
    have hrow : ∀ k, (Value.slice vo vn vc).ownBlock = some k → w1.heap.size + 2 + D ≤ k := fun k e => by
      rcases (unhide HO2).shape with ⟨h1, _⟩ | ⟨q, cq, h1, h2, _⟩
      · rw [h1] at e; cases e
      · rw [h1] at e; cases e; exact h2
    have hbx : w'.heap[w.heap.size]? = W₂.heap[w.heap.size]? := (hg.block w.heap.size (by simp; omega) (fun e => by have := hrow _ e.symm; omega)).trans ((unhide HAL).block _ (by omega))
    have hc' := (World.cell?_of_block (a := ⟨w.heap.size, 0, none⟩) hbx).trans hc
    have hf' := (World.frozen?_of_block (a := ⟨w.heap.size, 0, none⟩) hbx).trans hf
    have HO3 := hide hO3
    have hzs := hg.size
    rw [World.size_alloc] at hzs
    have HKY : Hid (Ky (fun k => k < w.heap.size) w1.heap.size (w1.heap.size + 2 + D) W₂ w') := (Ky.of_below (unhide HAL)).trans (Ky.grown hg (fun k e h => by have := hrow k e; rcases h with h | h <;> omega))
    have HBW : Hid (Below w.heap.size w w') := ((unhide HB).trans ((unhide HAL).mono (by omega))).trans ⟨hg.os, hg.tape, hg.output, hg.size, fun k hk => hg.block k (by simp; omega) (fun e => by have := hrow k e.symm; omega)⟩
    obtain ⟨uo, un, uc, hv'⟩ : ∃ uo un uc, v' = .slice uo un uc := by
      rcases hO3.shape with ⟨h1, h2⟩ | ⟨q, cq, h1, _⟩
      · exact ⟨_, _, _, h1⟩
      · exact ⟨_, _, _, h1⟩
    subst hv'
    clear hO3 hrow hbx ho hg hc hf
    gi_wp2
    refine ⟨(unhide HKY).trans (Ky.set _ _ (by dsimp only; omega)), _, ⟨World.cell?_setCell_same' _ _ _ (by rw [hc']; rfl), by rw [World.frozen?_setCell]; exact hf'⟩, ?_, (unhide HBW).setCell (p := ⟨w.heap.size, 0, none⟩) (Nat.le_refl _) _, by simp [World.setCell]; omega⟩
    rw [List.map_append]
    exact (unhide HO3).keep (fun b h1 h2 => Below.heap_setCell _ _ _ _ (by dsimp only; omega))

set_option maxHeartbeats 1000000 in
theorem collect_any {α : Type} (gf : Nat) (lb : Array Value) (p : α → Nat) (D N : Nat) (S : List α → Prop) (hN : N ≤ 100000) (w : World) (hen : ∀ args W, (callFunc gf args).run Try.prog W = .ok (.enter gf args) W)
    (hseq : SeqY Try.prog gf lb (fun x : α => #[.int .i64 (p x : Nat)]) (fun k => k < w.heap.size) D S N w) :
    Calls Try.prog 77 #[.func (.func gf) #[] lb] w fun e w' => ∃ v xs, e = .returned v ∧ S xs ∧ OwnI w.heap.size w' v (xs.map p) ∧ Below w.heap.size w w' := by
  go_enter Try.func77, Try.ntmps77
  go_wp2_with fail
  refine (appendSeq_any gf lb p D N S hN w hen hseq).mono ?_
  rintro e w' ⟨v, xs, rfl, h1, h2, h3⟩
  have HO := hide h2
  clear h2
  go_wp2
  go_ret
  exact ⟨v, xs, rfl, h1, unhide HO, h3⟩

end Go.Proofs.Ytnondiaefpdlpaa

namespace Go.Proofs.Ytnondiaefpdlpaa
open Go.RowKit Go.Shelf

/-- Where two differ: nothing, if they are not of as many bytes. -/
def apL (a b : List Nat) : List Nat := if a.length = b.length then onF (fun i => cf a i ^^^ cf b i) a.length else []

set_option maxRecDepth 100000 in
set_option maxHeartbeats 2000000 in
theorem apart_any (u v : Value) (ga gb : Nat) (a b : List Nat) (w : World) (hA : Arg w u ga a) (hB : Arg w v gb b) (hla : a.length = b.length → a.length ≤ 1000) :
    Calls Try.prog 73 #[u, v] w fun e w' => ∃ r, e = .returned r ∧ OwnI w.heap.size w' r (apL a b) ∧ Below w.heap.size w w' := by
  obtain ⟨⟨ao, ca, rfl, hc1, hc2, hnila, hra⟩, hba⟩ := hA
  obtain ⟨⟨bo, cb, rfl, hd1, hd2, hnilb, hrb⟩, hbb⟩ := hB
  have HRA := hide hra
  have HRB := hide hrb
  clear hra hrb hnila hnilb
  by_cases hl : a.length = b.length
  · have hap : apL a b = onF (fun i => cf a i ^^^ cf b i) a.length := if_pos hl
    rw [hap]
    clear hap
    obtain ⟨N, hN⟩ : ∃ N, a.length = N := ⟨_, rfl⟩
    have hN2 : b.length = N := by rw [← hl]; exact hN
    rw [hN] at hc1 hla ⊢
    rw [hN2] at hd1 ⊢
    have hN3 := hla hN2.symm
    have HL1 := hide hN
    have HL2 := hide hN2
    clear hl hN hN2 hla
    go_enter Try.func73, Try.ntmps73
    go_wp2_with fail
    refine (joined_any _ _ w ⟨_, _, _, rfl⟩ ⟨_, _, _, rfl⟩).mono ?_
    rintro e w1 ⟨rfl, hcap, hz1, hk1⟩
    have HK1 := hide hk1
    have HCAP := hide hcap
    have HZ1 := hide hz1
    clear hcap hk1 hz1
    go_wp2_with fail
    refine (ones_any _ _ w1).mono ?_
    rintro e w2 ⟨rfl, hc2', hz2, hk2⟩
    have hz1 := unhide HZ1
    have HS : Hid (SeqY Try.prog 84 #[.pointer (some ⟨w1.heap.size, 0, none⟩)] (fun x : Fin N × Fin 8 => #[.int .i64 (pl8 x : Nat)]) (fun k => k < w2.heap.size) (3 + 0) (fun xs => xs.map pl8 = onF (fun i => cf a i ^^^ cf b i) N) (8 * N) w2) := by
      refine (ones_x (fun k => k < w2.heap.size) 0 w1.heap.size N 85 _ _ (fun i => xor_lt (hba i) (hbb i)) (by omega) w2 hc2' (fun _ h => h) ?_)
      have hq := joined_x (fun k => k < w2.heap.size) w.heap.size (w.heap.size + 1) (w.heap.size + 1 + 1) ao bo ga gb ca cb N a b (unhide HL1) (unhide HL2) hba hbb (by omega) w1 (unhide HCAP) ((unhide HRA).below (unhide HK1)) ((unhide HRB).below (unhide HK1)) (by omega) (by omega)
        (fun h => by have := (unhide HRA).block_lt h; omega) (fun h => by have := (unhide HRB).block_lt h; omega)
      exact ⟨hq.enters, hq.seq.below hk2⟩
    have HK2 := hide ((unhide HK1).trans (hk2.mono (by omega)))
    clear hc2' hz2 hk2 hz1
    go_wp2_with fail
    refine (collect_any 84 _ pl8 _ (8 * N) _ (by omega) w2 (enters_of Try.func84 (by kernel_rfl) rfl) (unhide HS)).mono ?_
    rintro e w3 ⟨r, xs, rfl, hxs, hO, hk3⟩
    rw [hxs] at hO
    have hK := unhide HK2
    have HO := hide (hO.mono (b' := w.heap.size) hK.size)
    have HK3 := hide (hK.trans (hk3.mono hK.size))
    clear hxs hO hk3 hK
    go_wp2
    go_ret
    exact ⟨r, rfl, unhide HO, unhide HK3⟩
  · have hap : apL a b = [] := if_neg hl
    rw [hap]
    have hne : (((a.length : Nat) : Int) != ((b.length : Nat) : Int)) = true := by rw [bne_iff_ne]; omega
    clear hap hl
    go_enter Try.func73, Try.ntmps73
    go_wp2_with fail
    go_ret
    exact ⟨_, rfl, OwnI.nil _ _, Below.refl _ _⟩

end Go.Proofs.Ytnondiaefpdlpaa

namespace Go.Proofs.Ytnondiaefpdlpaa
open Go.RowKit Go.Shelf

theorem bt_pow (j k : Nat) : bt (2 ^ j) k = if k = j then 1 else 0 := by
  rw [bt_test, Nat.testBit_two_pow]
  by_cases h : j = k
  · simp [h]
  · rw [if_neg (fun e => h e.symm)]; simp [h]
theorem bfle (f : Nat → Nat) (k : Nat) : bf f k ≤ 1 := bt_le _ _

theorem bf_flip1 {s : List Nat} {j : Nat} (hj : j < 8 * s.length) (k : Nat) : bf (cf (flip1 s j)) k = bf (cf s) k ^^^ (if j = k then 1 else 0) := by
  unfold bf
  rw [flip1, cf_set _ _ _ _ (by omega)]
  by_cases h : k / 8 = j / 8
  · rw [if_pos h, bt_xor, bt_pow, h]
    congr 1
    by_cases h2 : k % 8 = j % 8
    · rw [if_pos h2, if_pos (by omega)]
    · rw [if_neg h2, if_neg (by omega)]
  · rw [if_neg h, if_neg (by omega), Nat.xor_zero]
theorem bf_flZ {s : List Nat} (z : Int) {k : Nat} (hk : k < 8 * s.length) : bf (cf (flZ s z)) k = bf (cf s) k ^^^ (if z = (k : Int) then 1 else 0) := by
  unfold flZ
  by_cases h : 0 ≤ z ∧ z < 8 * (s.length : Int)
  · rw [if_pos h, bf_flip1 (by omega)]
    congr 1
    by_cases e : z = (k : Int)
    · rw [if_pos e, if_pos (by omega)]
    · rw [if_neg e, if_neg (by omega)]
  · rw [if_neg h, if_neg (by omega), Nat.xor_zero]

theorem xor_bits {x c e : Nat} (hx : x ≤ 1) (he : e ≤ 1) : x ^^^ ((c + e) % 2) = (x ^^^ e) ^^^ (c % 2) := by
  have h1 : x = 0 ∨ x = 1 := by omega
  have h2 : e = 0 ∨ e = 1 := by omega
  have h3 : c % 2 = 0 ∨ c % 2 = 1 := by omega
  rcases h1 with rfl | rfl <;> rcases h2 with rfl | rfl <;> rcases h3 with h3 | h3 <;> rw [h3] <;> simp [Nat.add_mod, h3]

/-- Each bit is turned as often as its number stands there. -/
theorem bf_flipZ (zs : List Int) : ∀ (s : List Nat) {k : Nat}, k < 8 * s.length → bf (cf (flipZ s zs)) k = bf (cf s) k ^^^ (zs.count (k : Int) % 2) := by
  induction zs with
  | nil => intro s k hk; simp [flipZ]
  | cons z zs ih =>
    intro s k hk
    rw [flipZ, List.foldl_cons, ← flipZ, ih (flZ s z) (by rw [flZ_len]; exact hk), bf_flZ z hk, List.count_cons]
    by_cases e : z = (k : Int)
    · rw [if_pos e, show ((z == (k : Int)) = true) from by rw [e]; simp, if_pos rfl, xor_bits (bfle _ _) (Nat.le_refl 1)]
    · rw [if_neg e, show ((z == (k : Int)) = false) from by rw [beq_eq_false_iff_ne]; exact e, if_neg (by simp), Nat.xor_zero, Nat.add_zero]

theorem bytes_ext {a b : List Nat} (hl : a.length = b.length) (ha : Bs a) (hb : Bs b) (h : ∀ k, k < 8 * a.length → bf (cf a) k = bf (cf b) k) : a = b := by
  refine eq_of_cf hl (fun i => ?_)
  by_cases hi : i < a.length
  · refine bt_ext (ha i) (hb i) (fun k hk => ?_)
    have := h (8 * i + k) (by omega)
    unfold bf at this
    rwa [show (8 * i + k) / 8 = i from by omega, show (8 * i + k) % 8 = k from by omega] at this
  · rw [cf_ge (by omega), cf_ge (by omega)]

theorem bfxor (f g : Nat → Nat) (k : Nat) : bf (fun i => f i ^^^ g i) k = bf f k ^^^ bf g k := bt_xor _ _ _
theorem ap_mem {a b : List Nat} (hl : a.length = b.length) (k : Nat) : k ∈ apL a b ↔ k < 8 * a.length ∧ bf (cf a) k ≠ bf (cf b) k := by
  rw [apL, if_pos hl, onF, List.mem_filter, List.mem_range, bfxor]
  have h1 := bfle (cf a) k
  have h2 := bfle (cf b) k
  generalize bf (cf a) k = x at *
  generalize bf (cf b) k = y at *
  have hx : x = 0 ∨ x = 1 := by omega
  have hy : y = 0 ∨ y = 1 := by omega
  rcases hx with rfl | rfl <;> rcases hy with rfl | rfl <;> simp
theorem ap_nodup (a b : List Nat) : (apL a b).Nodup := by
  unfold apL
  split
  · exact List.Pairwise.filter _ List.nodup_range
  · exact List.nodup_nil
theorem ap_lt {a b : List Nat} {k : Nat} (h : k ∈ apL a b) : k < 8 * a.length := by
  unfold apL at h
  split at h
  · exact List.mem_range.1 (List.mem_filter.1 h).1
  · simp at h
theorem ap_len (a b : List Nat) : (apL a b).length ≤ 8 * a.length := by
  unfold apL
  split
  · refine Nat.le_trans (List.length_filter_le _ _) ?_
    rw [List.length_range]
    exact Nat.le_refl _
  · simp
theorem count_ints {l : List Nat} (h : l.Nodup) (k : Nat) : (ints l).count (k : Int) = if k ∈ l then 1 else 0 := by
  have hn : (ints l).Nodup := ints_nodup h
  have hm : (k : Int) ∈ ints l ↔ k ∈ l := by
    unfold ints
    rw [List.mem_map]
    constructor
    · rintro ⟨j, hj, e⟩
      have : j = k := by omega
      exact this ▸ hj
    · exact fun h => ⟨k, h, rfl⟩
  by_cases e : k ∈ l
  · rw [if_pos e, hn.count, if_pos (hm.2 e)]
  · rw [if_neg e, List.count_eq_zero]
    exact fun h => e (hm.1 h)

theorem xor_self2 {x y : Nat} (hx : x ≤ 1) (hy : y ≤ 1) : x ^^^ ((if x ≠ y then 1 else 0) % 2) = y := by
  have h1 : x = 0 ∨ x = 1 := by omega
  have h2 : y = 0 ∨ y = 1 := by omega
  rcases h1 with rfl | rfl <;> rcases h2 with rfl | rfl <;> rfl

/-- What is turned where two differ is the other one. -/
theorem flip_apart {a b : List Nat} (hl : a.length = b.length) (ha : Bs a) (hb : Bs b) : flipZ a (ints (apL a b)) = b := by
  refine bytes_ext (by rw [flipZ_len]; exact hl) (flipZ_bs ha _) hb (fun k hk => ?_)
  rw [flipZ_len] at hk
  rw [bf_flipZ _ _ hk, count_ints (ap_nodup _ _)]
  have : (if k ∈ apL a b then 1 else 0) = (if bf (cf a) k ≠ bf (cf b) k then 1 else 0) := by
    by_cases e : k ∈ apL a b
    · rw [if_pos e, if_pos ((ap_mem hl k).1 e).2]
    · rw [if_neg e, if_neg (fun h => e ((ap_mem hl k).2 ⟨hk, h⟩))]
  rw [this]
  exact xor_self2 (bfle _ _) (bfle _ _)
theorem flip_back {a b : List Nat} (hl : a.length = b.length) (ha : Bs a) (hb : Bs b) : flipZ b (ints (apL a b)) = a := by
  refine bytes_ext (by rw [flipZ_len]; exact hl.symm) (flipZ_bs hb _) ha (fun k hk => ?_)
  rw [flipZ_len] at hk
  rw [bf_flipZ _ _ hk, count_ints (ap_nodup _ _)]
  have : (if k ∈ apL a b then 1 else 0) = (if bf (cf b) k ≠ bf (cf a) k then 1 else 0) := by
    by_cases e : k ∈ apL a b
    · rw [if_pos e, if_pos (Ne.symm ((ap_mem hl k).1 e).2)]
    · rw [if_neg e, if_neg (fun h => e ((ap_mem hl k).2 ⟨by omega, Ne.symm h⟩))]
  rw [this]
  exact xor_self2 (bfle _ _) (bfle _ _)
theorem ap_self (a : List Nat) : apL a a = [] := by
  refine List.eq_nil_iff_forall_not_mem.2 (fun k h => ?_)
  exact ((ap_mem rfl k).1 h).2 rfl

end Go.Proofs.Ytnondiaefpdlpaa

namespace Go.Proofs.Ytnondiaefpdlpaa
open Go.RowKit Go.Shelf

theorem bf_mixF {a b mask : List Nat} {k : Nat} (hk : k < 8 * a.length) (hm : mask ≠ []) : bf (cf (mixF a b mask)) k = if bt (mAt mask (k / 8)) (k % 8) = 1 then bf (cf b) k else bf (cf a) k := by
  unfold bf
  rw [cf_mixF (by omega) hm, bt_mx]
theorem mixL_len {a b : List Nat} (hl : a.length = b.length) (mask : List Nat) : (mixL a b mask).length = a.length := by rw [mixL, if_pos hl, mixF_len]
theorem mixL_bs {a b : List Nat} (mask : List Nat) (ha : Bs a) (hb : Bs b) : Bs (mixL a b mask) := by
  unfold mixL
  split
  · exact mixF_bs ha hb
  · exact Bs.nil
theorem mix_none {a b : List Nat} (hl : a.length = b.length) : mixL a b [] = a := by rw [mixL, if_pos hl, mixF, if_pos rfl]
theorem mix_all {a b : List Nat} (hl : a.length = b.length) (ha : Bs a) (hb : Bs b) : mixL a b [255] = b := by
  refine bytes_ext (by rw [mixL_len hl]; exact hl) (mixL_bs _ ha hb) hb (fun k hk => ?_)
  rw [mixL_len hl] at hk
  rw [mixL, if_pos hl, bf_mixF hk (by simp)]
  have : ∀ j, j < 8 → bt 255 j = 1 := by decide
  rw [if_pos]
  show bt (cf [255] (k / 8 % 1)) (k % 8) = 1
  rw [Nat.mod_one]
  exact this _ (by omega)

theorem filter_sum {p q r : Nat → Bool} (h : ∀ k, (r k).toNat = (p k).toNat + (q k).toNat) (l : List Nat) : (l.filter p).length + (l.filter q).length = (l.filter r).length := by
  induction l with
  | nil => rfl
  | cons x l ih =>
    have hx := h x
    rw [List.filter_cons, List.filter_cons, List.filter_cons]
    cases hp : p x <;> cases hq : q x <;> cases hr : r x <;> simp [hp, hq, hr] at hx ⊢ <;> omega

theorem ap_eq {a b : List Nat} (hl : a.length = b.length) : apL a b = (List.range (8 * a.length)).filter (fun k => decide (bf (cf a) k ≠ bf (cf b) k)) := by
  rw [apL, if_pos hl, onF]
  refine List.filter_congr (fun k _ => ?_)
  rw [bfxor]
  have h1 := bfle (cf a) k
  have h2 := bfle (cf b) k
  generalize bf (cf a) k = x at *
  generalize bf (cf b) k = y at *
  have hx : x = 0 ∨ x = 1 := by omega
  have hy : y = 0 ∨ y = 1 := by omega
  rcases hx with rfl | rfl <;> rcases hy with rfl | rfl <;> rfl

theorem filter_sum' {p q r : Nat → Bool} (l : List Nat) (h : ∀ k ∈ l, (r k).toNat = (p k).toNat + (q k).toNat) : (l.filter p).length + (l.filter q).length = (l.filter r).length := by
  induction l with
  | nil => rfl
  | cons x l ih =>
    have hx := h x List.mem_cons_self
    have ih := ih (fun k hk => h k (List.mem_cons_of_mem _ hk))
    rw [List.filter_cons, List.filter_cons, List.filter_cons]
    cases hp : p x <;> cases hq : q x <;> cases hr : r x <;> simp [hp, hq, hr] at hx ⊢ <;> omega

/-- A mix differs from both nowhere where they are the same. -/
theorem mix_sum {a b : List Nat} (hl : a.length = b.length) (mask : List Nat) : (apL a (mixL a b mask)).length + (apL (mixL a b mask) b).length = (apL a b).length := by
  rw [ap_eq (by rw [mixL_len hl]), ap_eq (by rw [mixL_len hl]; exact hl), ap_eq hl, mixL_len hl]
  refine filter_sum' _ (fun k hk => ?_)
  rw [List.mem_range] at hk
  rw [mixL, if_pos hl]
  by_cases hm : mask = []
  · rw [mixF, if_pos hm]; simp
  · rw [bf_mixF hk hm]
    by_cases e : bt (mAt mask (k / 8)) (k % 8) = 1
    · rw [if_pos e]; simp
    · rw [if_neg e]; simp

theorem nil_arg (w : World) : Arg w (.slice none 0 0) 0 [] := ⟨⟨none, 0, rfl, by simp, by unfold maxLen; omega, fun _ => rfl, .inl rfl⟩, Bs.nil⟩

end Go.Proofs.Ytnondiaefpdlpaa

namespace Go.Proofs.Ytnondiaefpdlpaa
open Go.RowKit Go.Shelf

theorem min_three (t : TypeId) (ts : Array TypeId) (x y z : Int) (w : World) : (Builtin.min_ ts t #[.int .i64 x, .int .i64 y, .int .i64 z]).run Try.prog w = .ok (.int .i64 (min (min x y) z)) w := by
  unfold Builtin.min_
  simp only [List.foldlM_cons, List.foldlM_nil, Builtin.min2]
  by_cases h1 : y < x
  · by_cases h2 : z < y
    · simp [h1, h2, Sem.run_pure]; omega
    · simp [h1, h2, Sem.run_pure]; omega
  · by_cases h2 : z < x
    · simp [h1, h2, Sem.run_pure]; omega
    · simp [h1, h2, Sem.run_pure]; omega

theorem min_two (t : TypeId) (ts : Array TypeId) (x y : Int) (w : World) : (Builtin.min_ ts t #[.int .i64 x, .int .i64 y]).run Try.prog w = .ok (.int .i64 (min x y)) w := by
  unfold Builtin.min_
  simp only [List.foldlM_cons, List.foldlM_nil, Builtin.min2]
  by_cases h1 : y < x
  · simp [h1, Sem.run_pure]; omega
  · simp [h1, Sem.run_pure]; omega

theorem Arg.front {w : World} {ao : Option Addr} {n c g m : Nat} {s : List Nat} (h : Arg w (.slice ao n c) g s) (hm : m ≤ n) : Arg w (.slice ao m c) g (s.take m) := by
  obtain ⟨⟨ao', c', h1, h2, h3, h4, h5⟩, hb⟩ := h
  injection h1 with e1 e2 e3
  subst e1
  subst e3
  have hl : (s.take m).length = m := by rw [List.length_take]; omega
  refine ⟨⟨ao, c, by rw [hl], by omega, h3, h4, row_front h5⟩, fun i => ?_⟩
  rw [cf_take]
  split
  · exact hb i
  · omega

theorem below_drewN (w : World) (n : Nat) : Below w.heap.size w (w.drewN n) := ⟨rfl, rfl, rfl, Nat.le_refl _, fun _ _ => rfl⟩
theorem arg_row {w : World} {ao : Option Addr} {n c g : Nat} {s : List Nat} (h : Arg w (.slice ao n c) g s) : Row w ao g (ints s) := by
  obtain ⟨⟨ao', c', h1, h2, h3, h4, h5⟩, hb⟩ := h
  injection h1 with e1 e2 e3
  subst e1
  exact h5
theorem str_eq (a : List Nat) : ((strOf (ints a)).toList == (strOf (ints a)).toList) = true := by simp

end Go.Proofs.Ytnondiaefpdlpaa
