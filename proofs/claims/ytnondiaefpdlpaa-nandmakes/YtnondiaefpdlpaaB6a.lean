/-
  bits.ones, its iterator.
-/
import Derived.Test.YtnondiaefpdlpaaN6a
import Derived.Test.YtnondiaefpdlpaaRy
namespace Go.Proofs.Ytnondiaefpdlpaa
open Go.RowKit Go.Shelf
attribute [local go_sem] Oper.semAt_some

/-- The iterator's word: each place with its byte. -/
structure Seq6 (gf : Nat) (lb : Array Value) (N : Nat) (f : Nat → Nat) (T : Nat → Prop) (D : Nat) (w : World) : Prop where
  enters : ∀ args W, (callFunc gf args).run Try.prog W = .ok (.enter gf args) W
  seq : SeqY Try.prog gf lb (fun i : Fin N => #[Value.int .i64 (i.val : Nat), Value.int .u8 (f i.val : Nat)]) T D (fun xs => xs.map Fin.val = List.range N) N w

theorem SeqY.below {α : Type} {P : Program} {g : Nat} {lb : Array Value} {encs : α → Array Value} {T : Nat → Prop} {D : Nat} {S : List α → Prop} {N : Nat} {w w' : World} (h : SeqY P g lb encs T D S N w) (k : Below w.heap.size w w') : SeqY P g lb encs T D S N w' :=
  fun l J W hW hJ hY h0 n => h l J W (k.trans (hW.mono k.size)) hJ hY h0 n
theorem SeqY.more {α : Type} {P : Program} {g : Nat} {lb : Array Value} {encs : α → Array Value} {T U : Nat → Prop} {D : Nat} {S : List α → Prop} {N : Nat} {w : World} (h : SeqY P g lb encs T D S N w) (k : ∀ i, T i → U i) : SeqY P g lb encs U D S N w :=
  fun l J W hW hJ hY h0 n => h l J W hW hJ (fun pre x W1 hj hl hz => by
    obtain ⟨fn, tmps, assign, body, h1, h2⟩ := hY pre x W1 hj hl hz
    exact ⟨fn, tmps, assign, body, h1, h2.mono (fun e W' he => ⟨he.1, he.2.1, he.2.2.mono (fun i hi => hi.imp id (k i))⟩)⟩) h0 n

set_option maxHeartbeats 1000000 in
theorem ones_any (gf : Nat) (lb : Array Value) (w : World) : Calls Try.prog 78 #[.func (.func gf) #[] lb] w fun e w' =>
    e = .returned (.func (.func 84) #[] #[.pointer (some ⟨w.heap.size, 0, none⟩)]) ∧ w'.cell? ⟨w.heap.size, 0, none⟩ = some (.func (.func gf) #[] lb) ∧ w'.heap.size = w.heap.size + 1 ∧ Below w.heap.size w w' := by
  go_enter Try.func78, Try.ntmps78
  go_wp2
  go_ret
  exact ⟨rfl, (cell_new' w _ _).1, by simp, (Below.refl _ w).alloc (Nat.le_refl _) _⟩

set_option maxRecDepth 100000 in
set_option maxHeartbeats 8000000 in
theorem ones_x (T : Nat → Prop) (D b N gf : Nat) (lb : Array Value) (f : Nat → Nat) (hf : ∀ i, f i < 256) (hN : N ≤ 281474976710656) (w : World) (hcap : w.cell? ⟨b, 0, none⟩ = some (.func (.func gf) #[] lb)) (hT : ∀ k, T k → k < w.heap.size) (hS : Seq6 gf lb N f T D w) :
    SeqY Try.prog 84 #[.pointer (some ⟨b, 0, none⟩)] (fun x : Fin N × Fin 8 => #[.int .i64 (pl8 x : Nat)]) T (3 + D) (fun xs => xs.map pl8 = onF f N) (8 * N) w := by
  intro l J W hW hJ hY h0 n
  have hb := block_lt_of_cell hcap
  dsimp only at hb
  have hsz := hW.size
  have hcW := (hW.cell (p := ⟨b, 0, none⟩) hb).trans hcap
  have hcW' : (W.alloc (.cells #[.func (.yield l) #[] #[]] 144)).cell? ⟨b, 0, none⟩ = some (.func (.func gf) #[] lb) := (World.cell?_of_block (Below.heap_alloc _ _ _ (by show b < _; omega))).trans hcW
  have HY0 := hide (cell_new' W (.func (.yield l) #[] #[]) 144).1
  have HJ0 := hide (hJ [] _ _ h0 (Ka.of_below ((Below.refl _ W).alloc (Nat.le_refl _) (.cells #[.func (.yield l) #[] #[]] 144))))
  have HB0 := hide ((Below.refl _ W).alloc (Nat.le_refl _) (.cells #[.func (.yield l) #[] #[]] 144))
  have HS0 : Hid ((W.alloc (.cells #[.func (.yield l) #[] #[]] 144)).heap.size = W.heap.size + 1) := World.size_alloc _ _
  have HSQ := hide (hS.seq.below (hW.trans ((unhide HB0).mono hsz)))
  show CallsIn Fence.wide n Try.prog 84 #[.func (.yield l) #[] #[], .pointer (some ⟨b, 0, none⟩)] W _
  refine callsIn_of_wp_marks Try.func84 rfl trivial ?_ rfl
  simp only [Try.ntmps84, List.size_toArray, List.length_cons, List.length_nil, Nat.reduceAdd, Nat.reduceSub, Array.replicate_succ, Array.replicate_zero, List.push_toArray, List.append_toArray, List.nil_append, List.cons_append]
  gi_wp2
  clear hcW' hcW
  have hTW : ∀ k, T k → k < W.heap.size := fun k hk => Nat.lt_of_lt_of_le (hT k hk) hsz
  refine wpIn_range_y (gf := gf) (lb := lb) rfl hS.enters (unhide HSQ) (fun k hk => by rw [unhide HS0]; exact Nat.lt_succ_of_lt (hTW k hk)) (fun _ => rfl)
    (fun pre A => J (hitsF f pre) A ∧ A.cell? ⟨W.heap.size, 0, none⟩ = some (.func (.yield l) #[] #[]) ∧ W.heap.size + 1 ≤ A.heap.size)
    (fun s A B h hb => by
      rw [unhide HS0] at hb
      exact ⟨hJ _ _ _ h.1 (hb.mono (by omega) (by omega)), hb.cell h.2.1 (by dsimp only; omega), Nat.le_trans h.2.2 hb.size⟩)
    ⟨unhide HJ0, unhide HY0, by rw [unhide HS0]; omega⟩ ?round ?done
  case done =>
    rintro D1 xs A hD hD2 hxs ⟨hj, _, _⟩ hK
    rw [unhide HS0] at hD hD2
    gi_wp2
    refine ⟨by simp, .inl ⟨_, _, rfl, run_takeDeferred hK, ?_⟩⟩
    refine ⟨_, results_none rfl _ _ _, ⟨_, rfl⟩, hitsF f xs, hitsF_all hxs, hJ _ _ _ hj (Ka.put _ _ (by omega) (by omega))⟩
  case round =>
    rintro l' pre x A ⟨hj, hy, hsA⟩ hlen hs2A
    rw [unhide HS0] at hs2A
    have hx := x.isLt
    gi_wp2
    rw [unhide HS0]
    refine ⟨⟨Ky.refl _ _ _ _, hj, hy, hsA⟩, ?_⟩
    clear hj hy
    rintro W₂ hsz2 - - ⟨hj, hy, hs3⟩
    have HJ2 := hide hj
    have HY2 := hide hy
    clear hj hy
    gi_wp2
    gi_loopw [9] (fun q wr => ∃ j : Nat, q = .int .i64 j ∧ j ≤ 8 ∧ J (hitsF f pre ++ hitF f j x) wr ∧ wr.cell? ⟨W.heap.size, 0, none⟩ = some (.func (.yield l) #[] #[]) ∧ Ky T W.heap.size (W.heap.size + (3 + D)) W₂ wr) (fun q _ => 8 - (intOf q).toNat)
    case atStart => exact ⟨0, rfl, by omega, by rw [hitF_zero, List.append_nil]; exact unhide HJ2, unhide HY2, Ky.refl _ _ _ _⟩
    case round =>
      obtain ⟨j, rfl, hj8, hj1, hy1, hk1⟩ := hrel
      have HJ3 := hide hj1
      have HK3 := hide hk1
      have hz3 := hk1.size
      clear hj1 hk1
      by_cases hlt : j < 8
      · have hji : (j : Int) < 8 := by omega
        have hfx := hf x.val
        have q1 := bit_u8 j hfx
        have hle := bt_le (f x.val) j
        have hll := hitF_len f j x
        have hls := hitsF_len f pre
        by_cases hb1 : bt (f x.val) j = 1
        · have hh := hitF_one (i := x) hlt hb1
          have HH := hide hh
          rw [hb1] at q1
          have q1' : bits .and .u8 (((f x.val : Nat) : Int) / 2 ^ j) 1 = 1 := q1
          obtain ⟨fn, tmps, assign, body, hyy, hR⟩ := hY (hitsF f pre ++ hitF f j x) (x, ⟨j, hlt⟩) wr (unhide HJ3) (by rw [List.length_append]; omega) (by omega)
          have hyy' := hyy
          have he : ((pl8 (x, (⟨j, hlt⟩ : Fin 8)) : Nat) : Int) = (x.val : Int) * 8 + (j : Int) := by unfold pl8; dsimp only; omega
          rw [he] at hyy
          have HE := hide he
          clear hh hb1 q1 hyy' he
          gi_wp2
          refine ⟨rfl, (round_in (l' := l') (round_any hR)).mono ?_⟩
          rintro e W5 ⟨rfl, hJ5, hk5⟩
          have HJ5 := hide hJ5
          have HK5 := hide hk5
          have HY5 := hide (hk5.cell hy1 (.inl ⟨Nat.le_refl _, by dsimp only; omega⟩))
          clear hJ5 hk5 hyy hR
          gi_wp2
          go_roundw
          case rel => exact ⟨j + 1, by go_num, by omega, by rw [unhide HH, ← List.append_assoc]; exact unhide HJ5, unhide HY5, (unhide HK3).trans (unhide HK5)⟩
          case measure => simp [intOf]; omega
        · have hb0 : bt (f x.val) j = 0 := by omega
          have hh := hitF_none (i := x) hlt hb0
          have HH := hide hh
          rw [hb0] at q1
          have q1' : bits .and .u8 (((f x.val : Nat) : Int) / 2 ^ j) 1 = 0 := q1
          clear hh hb1 hb0 q1
          gi_wp2
          refine ⟨fun _ h => (by cases h), ?_⟩
          gi_wp2
          go_roundw
          case rel => exact ⟨j + 1, by go_num, by omega, by rw [unhide HH]; exact unhide HJ3, hy1, unhide HK3⟩
          case measure => simp [intOf]; omega
      · have hj2 : j = 8 := by omega
        subst hj2
        gi_wp2
        have hk := unhide HK3
        refine ⟨hk.mono (fun k h => by rcases h with h | h; exact .inl ⟨by omega, by omega⟩; exact .inr h), ?_, hy1, by omega⟩
        rw [hitsF_snoc]
        exact unhide HJ3

end Go.Proofs.Ytnondiaefpdlpaa
