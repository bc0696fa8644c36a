/-
  The second telling's places (ramekinref4).
  The second telling's Decode (ramekinref4).
-/
import Derived.Test.YtkhpoomajebgoabMaj
import Derived.Test.YtkhpoomajebgoabMav
namespace Go.Proofs.Ytkhpoomajebgoab
open Go.RowKit

theorem zeroG (w : World) : (zeroValue 65).run Try.prog w = .ok (.agg (Array.replicate 256 (.int .i64 0))) w := by kernel_rfl
theorem run_load_agg {P : Program} {o : Oper} {a : Act} {W : World} {ty : TypeId} {x : Operand} {ad : Addr} {v : Value} (ho : o.op = .load ty x) (hx : a.eval x = .pointer (some ad)) (hl : (loadVar ty ad).run P W = .ok v W) : (execOp a.eval o).run P W = .ok (.value v) W := by
  unfold execOp
  simp only [ho, hx, Instr.loadAt, Instr.sureAddr, Sem.run_bind, Sem.run_pure, Result.andThen_ok, hl]
theorem load_lg {w : World} {b : Nat} (h : w.heap[b]? = some (.cells lgA 65 (0, 0))) : (loadVar 65 ⟨b, 0, none⟩).run Try.prog w = .ok (.agg lgA) w :=
  run_loadVar_row w b 65 65 lgA (0, 0) _ h Try.underlying65 rfl (by rw [sizeG, lgA_size])

/-- The table of logarithms while it is filled. -/
def LgB (w : World) (b k : Nat) : Prop := ∃ cur : Array Value, w.heap[b]? = some (.cells cur 65 (0, 0)) ∧ cur.size = 256 ∧ ∀ x, x < 256 → cur[x]? = some (.int .i64 ((if x ≠ 0 ∧ L x < k then L x else 0 : Nat) : Int))
theorem LgB.zero (w : World) : LgB (w.alloc (.cells (Array.replicate 256 (.int .i64 0)) 65)) w.heap.size 0 := ⟨_, World.alloc_heap_new w _, by simp, fun x hx => by rw [if_neg (by omega)]; simp [hx]⟩
theorem LgB.cell {w : World} {b k j : Nat} (h : LgB w b k) (hj : j < 256) : (∃ v, w.cell? ⟨b, j, none⟩ = some v) ∧ w.frozen? ⟨b, j, none⟩ = false := by
  obtain ⟨cur, h1, h2, _⟩ := h
  refine ⟨⟨cur[j]'(by omega), ?_⟩, by simp [World.frozen?, h1]⟩
  simp [World.cell?, h1, h2, hj]
theorem LgB.set {w : World} {b k : Nat} (h : LgB w b k) (hk : k < 255) : LgB (w.setCell ⟨b, E k, none⟩ (.int .i64 (k : Int))) b (k + 1) := by
  obtain ⟨cur, h1, h2, h3⟩ := h
  refine ⟨cur.setIfInBounds (E k) (.int .i64 (k : Int)), by rw [heap_setCell_same w b (E k) _ 65 _ h1], by simpa using h2, fun x hx => ?_⟩
  have hE := E_lt k
  rw [Array.getElem?_setIfInBounds]
  by_cases e : E k = x
  · subst e
    rw [if_pos rfl, if_pos (by omega), L_E hk, if_pos ⟨by have := E_ne k; omega, by omega⟩]
  · rw [if_neg e, h3 x hx]
    congr 2
    by_cases h0 : x = 0
    · rw [if_neg (by omega), if_neg (by omega)]
    · have hl : L x ≠ k := fun e2 => e (by rw [← e2]; exact (E_L (by omega) hx).1)
      by_cases h4 : L x < k
      · rw [if_pos ⟨h0, h4⟩, if_pos ⟨h0, by omega⟩]
      · rw [if_neg (by omega), if_neg (by omega)]
theorem LgB.all {w : World} {b : Nat} (h : LgB w b 255) : w.heap[b]? = some (.cells lgA 65 (0, 0)) := by
  obtain ⟨cur, h1, h2, h3⟩ := h
  rw [h1]
  congr 2
  apply Array.ext_getElem?
  intro j
  by_cases hj : j < 256
  · rw [h3 j hj, lgA_get hj]
    unfold lgv
    congr 3
    by_cases h0 : j = 0
    · rw [if_neg (by omega), if_pos h0]
    · rw [if_pos ⟨h0, (E_L (by omega) hj).2⟩, if_neg h0]
  · rw [Array.getElem?_eq_none (by omega), Array.getElem?_eq_none (by rw [lgA_size]; omega)]
theorem LgB.of {w w' : World} {b k : Nat} (h : LgB w b k) (e : w'.heap[b]? = w.heap[b]?) : LgB w' b k := by
  obtain ⟨cur, h1, h2⟩ := h
  exact ⟨cur, e.trans h1, h2⟩

/-- The two tables lie there. -/
structure PW (w : World) (b4 b5 : Nat) : Prop where
  p : w.heap[b4]? = some (.cells pwA 63 (0, 0))
  l : w.heap[b5]? = some (.cells lgA 65 (0, 0))
theorem PW.below {w w' : World} {b4 b5 : Nat} (h : PW w b4 b5) (k : Below w.heap.size w w') : PW w' b4 b5 :=
  ⟨(k.block b4 (lt_of_block h.p)).trans h.p, (k.block b5 (lt_of_block h.l)).trans h.l⟩

theorem cells_iarg (w : World) (l : List Nat) (h : l.length ≤ 3) : IArg (w.alloc (.cells (l.map (fun k : Nat => Value.int .i64 (k : Int))).toArray 3)) (.slice (some ⟨w.heap.size, 0, none⟩) l.length l.length) w.heap.size l :=
  ⟨some ⟨w.heap.size, 0, none⟩, l.length, rfl, Nat.le_refl _, by unfold maxLen; omega, (fun h => by cases h), .inr ⟨0, rfl, fun j hj => by
    rw [ints_len] at hj
    rw [ints_getD, Nat.zero_add]
    simp only [World.cell?, World.alloc_heap_new]
    rw [List.getElem?_toArray, List.getElem?_map, cf_get hj]
    rfl⟩⟩

/-- What places tells. -/
def PlacesR (w : World) (s : List Nat) (e : Ending) : Prop :=
  (∃ l v g, e = .returned (.tuple #[v, .bool true]) ∧ IArg w v g l ∧ Good (Sf s) l ∧ l.length ≤ 3) ∨ (e = .returned (.tuple #[.slice none 0 0, .bool false]) ∧ ∀ l, Good (Sf s) l → 4 ≤ l.length)

theorem far_all {S : Nat → Nat} (h0 : ¬ ZeroS S) (h1 : ∀ k, ¬ Good S [k]) (h2 : ∀ i, i < 224 → ∀ k, ¬ Good (tS S i) [k]) (h3 : ∀ i, i < 224 → ∀ j, i < j → j < 224 → ∀ x, ¬ Good S [i, j, x]) : ∀ l, Good S l → 4 ≤ l.length := by
  intro l hg
  match l, hg with
  | [], hg => exact absurd (good_nil.1 hg) h0
  | [a], hg => exact absurd hg (h1 a)
  | [a, b], hg => exact absurd (pair_find hg) (h2 a (hg.lt a (by simp)) b)
  | [a, b, c], hg =>
    obtain ⟨i, j, x, hij, hg'⟩ := three_rise hg rfl
    exact absurd hg' (h3 i (hg'.lt i (by simp)) j hij (hg'.lt j (by simp)) x)
  | _ :: _ :: _ :: _ :: _, _ => simp only [List.length_cons]; omega

theorem zz3 {s : List Nat} {i j x : Nat} (h : zb (tL (tL (tL s i) j) x) = true) : ZeroS (tS (tS (tS (Sf s) i) j) x) := by
  intro e h1 h8
  have := (Sf_zero _).2 h e h1 h8
  rw [Sf_tL _ _ h1 h8] at this
  unfold tS at this ⊢
  rw [Sf_tL _ _ h1 h8] at this
  unfold tS at this
  rw [Sf_tL _ _ h1 h8] at this
  exact this
theorem zz3' {s : List Nat} {i j x : Nat} (h : ZeroS (tS (tS (tS (Sf s) i) j) x)) : zb (tL (tL (tL s i) j) x) = true := by
  refine (Sf_zero _).1 (fun e h1 h8 => ?_)
  rw [Sf_tL _ _ h1 h8]
  unfold tS
  rw [Sf_tL _ _ h1 h8]
  unfold tS
  rw [Sf_tL _ _ h1 h8]
  exact h e h1 h8
theorem three_x {s : List Nat} {i j x : Nat} (h : Good (Sf s) [i, j, x]) : cf (tL s i) 0 ≠ E j ∧ L (cf (tL s i) 0 ^^^ E j) = x ∧ zb (tL (tL (tL s i) j) x) = true ∧ (cf (tL s i) 2 ^^^ E (3 * j % 255)) ^^^ E (3 * x % 255) = 0 := by
  obtain ⟨h1, h2, h3⟩ := three_find h
  have e : tS (Sf s) i 1 = cf (tL s i) 0 := (Sf_tL s i (by omega) (by omega)).symm
  rw [e] at h2 h3
  refine ⟨h2, h3, zz3' h1, ?_⟩
  have h4 := h1 3 (by omega) (by omega)
  rw [E_mod, E_mod, tL_cf s i (by omega)]
  unfold tS at h4
  rw [Nat.mul_comm 3 j, Nat.mul_comm 3 x]
  exact h4

set_option maxRecDepth 100000 in
set_option maxHeartbeats 16000000 in
theorem places4_any (v : Value) (g : Nat) (s : List Nat) (w : World) (hA : Arg w v g s) (hl : s.length = 8) :
    Calls Try.prog 27 #[v] w fun e w' => PlacesR w' s e ∧ Below w.heap.size w w' := by
  have HA0 := hide hA
  obtain ⟨⟨ao, c, rfl, hc1, hc2, hnil, hr⟩, hbs⟩ := hA
  obtain ⟨o, rfl⟩ := row_some hr (by omega)
  have HA := hide (show Arg w (.slice (some ⟨g, o, none⟩) 8 c) g s from by rw [← hl]; exact unhide HA0)
  have HL := hide hl
  rw [hl]
  clear hr hnil hl HA0
  go_enter Try.func27, Try.ntmps27
  go_wp2_with fail
  refine (zero_any _ _ s w (unhide HA) (unhide HL)).mono ?_
  rintro e w1 ⟨rfl, hw1⟩
  rw [hw1]
  clear hw1
  obtain ⟨b, hb⟩ : ∃ b, zb s = b := ⟨_, rfl⟩
  have HZB := hide hb
  rw [hb]
  clear hb
  cases b with
  | true =>
    have HN : Hid (Good (Sf s) []) := good_nil.2 ((Sf_zero s).2 (unhide HZB))
    go_wp2
    go_returns
    exact ⟨.inl ⟨[], .slice none 0 0, 0, rfl, ⟨none, 0, rfl, by simp, by simp, fun _ => rfl, .inl rfl⟩, unhide HN, by simp⟩, Below.refl _ _⟩
  | false =>
    have H0 : Hid (¬ ZeroS (Sf s)) := fun h => by
      have := (Sf_zero s).1 h
      rw [unhide HZB] at this
      cases this
    clear HZB
    go_wp2_with fail
    refine (powers_any w).mono ?_
    rintro e w1 ⟨rfl, hk⟩
    have hz := zeroP
    have hzg := zeroG
    obtain ⟨zA, hzA⟩ : ∃ zA, Array.replicate 255 (Value.int .u8 0) = zA := ⟨_, rfl⟩
    have hzs : zA.size = 255 := by rw [← hzA]; simp
    rw [hzA] at hz
    have G1 := hide (World.alloc_heap_new w1 (.cells zA 63))
    have G2 := hide (setRow_heap _ _ _ pwA _ _ (unhide G1))
    have HB1 : Hid (Below w.heap.size w ((w1.alloc (.cells zA 63)).setRow w1.heap.size pwA)) := (hk.alloc hk.size _).trans ⟨rfl, rfl, rfl, by simp, fun k hk' => setRow_other _ _ k _ (by have := hk.size; omega)⟩
    have hsz := hk.size
    have hszW : ((w1.alloc (.cells zA 63)).setRow w1.heap.size pwA).heap.size = w1.heap.size + 1 := by simp
    obtain ⟨W2, hW2⟩ : ∃ W2, (w1.alloc (.cells zA 63)).setRow w1.heap.size pwA = W2 := ⟨_, rfl⟩
    have HW2 := hide hW2
    rw [hW2] at G2 HB1 hszW
    have HSZ := hide hszW
    clear hk hzA hW2 hszW
    go_wp2_with (refine wpList_store_row rfl 63 _ _ rfl w1.heap.size pwA rfl rfl 63 zA (unhide G1) (by rw [sizeA, pwA_size]) (by rw [hzs, pwA_size]) pwA_one ?_; rw [unhide HW2])
    have HLG := hide (LgB.zero W2)
    have HP : Hid ((W2.alloc (.cells (Array.replicate 256 (.int .i64 0)) 65)).heap[w1.heap.size]? = some (.cells pwA 63 (0, 0))) := (Below.heap_alloc _ _ _ (by have := unhide HSZ; omega)).trans (unhide G2)
    have HB2 : Hid (Below w.heap.size w (W2.alloc (.cells (Array.replicate 256 (.int .i64 0)) 65))) := (unhide HB1).alloc (by have := unhide HSZ; omega) _
    have hq : w1.heap.size < W2.heap.size := by have := unhide HSZ; omega
    obtain ⟨b5, hb5⟩ : ∃ q, W2.heap.size = q := ⟨_, rfl⟩
    rw [hb5] at HLG hq ⊢
    obtain ⟨W3, hW3⟩ : ∃ W3, W2.alloc (.cells (Array.replicate 256 (.int .i64 0)) 65) = W3 := ⟨_, rfl⟩
    rw [hW3] at HLG HP HB2 ⊢
    obtain ⟨b4, hb4⟩ : ∃ q, w1.heap.size = q := ⟨_, rfl⟩
    rw [hb4] at HP hq hsz ⊢
    clear hW3 hb5 hb4 HSZ HW2 G1 G2 HB1 hz hzg hzs
    go_loopw [6] (fun p wr => ∃ (k : Nat), p = .int .i64 (k : Int) ∧ k ≤ 255 ∧ LgB wr b5 k ∧ wr.heap[b4]? = some (.cells pwA 63 (0, 0)) ∧ Below w.heap.size w wr) (fun p _ => 255 - (intOf p).toNat)
    case atStart => exact ⟨0, rfl, by omega, unhide HLG, unhide HP, unhide HB2⟩
    case round =>
      obtain ⟨k, rfl, hk, hLg, hP, hB⟩ := hrel
      have HLg := hide hLg
      have HP1 := hide hP
      have HBl := hide hB
      clear hLg hP hB HLG HP HB2
      by_cases hlt : k < 255
      · have hlt' : (k : Int) < 255 := by omega
        have hcp := pwA_cell (unhide HP1) hlt
        have hE := E_lt k
        obtain ⟨⟨v0, hc0⟩, hf0⟩ := (unhide HLg).cell hE
        have hst := (unhide HLg).set hlt
        obtain ⟨x, hx⟩ : ∃ x, E k = x := ⟨_, rfl⟩
        rw [hx] at hcp hE hc0 hf0 hst
        have HST := hide hst
        have hE1 : (x : Int) < 256 := by omega
        clear hx hst
        go_wp2_with fail
        go_roundw
        case rel => exact ⟨k + 1, by go_num, by omega, unhide HST, (Below.heap_setCell _ _ _ _ (by simp; omega)).trans (unhide HP1), (unhide HBl).setCell (p := ⟨b5, x, none⟩) (show w.heap.size ≤ b5 by omega) _⟩
        case measure => simp [intOf]; omega
      · have hk5 : k = 255 := by omega
        subst hk5
        rw [show ((255 : Nat) : Int) = 255 from rfl]
        have HPW : Hid (PW wr b4 b5) := ⟨unhide HP1, (unhide HLg).all⟩
        have HT := HBl
        replace HA := hide ((unhide HA).below (unhide HBl))
        clear HP1 HLg HBl hk hlt hsz hq
        go_wp2_with (first | (refine wpList_load_row rfl 63 _ rfl b4 rfl 63 pwA _ _ (unhide HPW).p Try.underlying63 rfl (by rw [sizeA, pwA_size]) ?_) | (refine wpList_load_row rfl 65 _ rfl b5 rfl 65 lgA _ _ (unhide HPW).l Try.underlying65 rfl (by rw [sizeG, lgA_size]) ?_))
        refine (single_any _ _ s wr (unhide HA) (unhide HL)).mono ?_
        rintro e w2 ⟨r, rfl, hR, hk⟩
        replace HA := hide ((unhide HA).below hk)
        replace HPW := hide ((unhide HPW).below hk)
        replace HT := hide ((unhide HT).trans (hk.mono (unhide HT).size))
        clear hk
        rcases hR with ⟨x, rfl, hg⟩ | ⟨rfl, hn⟩
        · have hx0 : (0 : Int) ≤ (x : Int) := by omega
          have HG := hide hg
          clear hg
          have HI := hide (cells_iarg w2 [x] (by simp))
          have HT2 := hide ((unhide HT).alloc (unhide HT).size (.cells ([x].map (fun k : Nat => Value.int .i64 (k : Int))).toArray 3))
          go_wp2
          go_returns
          exact ⟨.inl ⟨[x], _, _, rfl, unhide HI, unhide HG, by simp⟩, unhide HT2⟩
        · have H1 := hide hn
          clear hn
          go_wp2_with fail
          go_loopw [8] (fun p wr => ∃ (i : Nat), p = .int .i64 (i : Int) ∧ i ≤ 224 ∧ (∀ i', i' < i → ∀ k, ¬ Good (tS (Sf s) i') [k]) ∧ Arg wr (.slice (some ⟨g, o, none⟩) 8 c) g s ∧ PW wr b4 b5 ∧ Below w.heap.size w wr) (fun p _ => 224 - (intOf p).toNat)
          case atStart => exact ⟨0, rfl, by omega, fun i' hi' => by omega, unhide HA, unhide HPW, unhide HT⟩
          case round =>
            obtain ⟨i, rfl, hi, h2, hAs, hPW, hB⟩ := hrel
            have H2 := hide h2
            replace HA := hide hAs
            replace HPW := hide hPW
            replace HT := hide hB
            clear h2 hAs hPW hB
            by_cases hlt : i < 224
            · have hi1 : (i : Int) < 224 := by omega
              go_wp2_with fail
              replace HT := hide ((unhide HT).drew)
              replace HA := hide ((unhide HA).below (Below.refl _ _).drew)
              replace HPW := hide ((unhide HPW).below (Below.refl _ _).drew)
              refine wp_region_noPanic ?_
              refine wp_region_held_drew (S := fun W => Below wr.drew.heap.size wr.drew W) (by kernel_rfl) (Below.refl _ _) (fun hHeld => ?_)
              have HH := hide hHeld
              clear hHeld
              generalize wr.drew = w21 at HT HA HPW HH ⊢
              refine takeL (i := 0) (v := ?_) rfl (by kernel_rfl) (by kernel_rfl) (by kernel_rfl) (fun _ _ _ h => h) (Or.inl ⟨by rfl, ?_⟩) (unhide HH) ?_
              rotate_left 1
              · intro W hSW; go_simp; all_goals (with_reducible rfl)
              (try simp only [Act.put, List.setIfInBounds_toArray, List.set_cons_zero, List.set_cons_succ])
              refine takeL (i := 1) (v := ?_) rfl (by kernel_rfl) (by kernel_rfl) (by kernel_rfl) (fun _ _ _ h => h) (Or.inl ⟨by rfl, ?_⟩) (unhide HH) ?_
              rotate_left 1
              · intro W hSW; go_simp; all_goals (with_reducible rfl)
              (try simp only [Act.put, List.setIfInBounds_toArray, List.set_cons_zero, List.set_cons_succ])
              refine takeL (i := 2) (v := .agg pwA) rfl (by kernel_rfl) (by kernel_rfl) (by kernel_rfl) (fun _ _ _ h => h) (Or.inl ⟨by rfl, fun W1 hSW => run_load_agg rfl rfl (load_pw ((unhide HPW).below hSW).p)⟩) (unhide HH) ?_
              (try simp only [Act.put, List.setIfInBounds_toArray, List.set_cons_zero, List.set_cons_succ])
              refine takeL (i := 4) (v := .agg pwA) rfl (by kernel_rfl) (by kernel_rfl) (by kernel_rfl) (fun _ _ _ h => h) (Or.inl ⟨by rfl, fun W1 hSW => run_load_agg rfl rfl (load_pw ((unhide HPW).below hSW).p)⟩) (unhide HH) ?_
              (try simp only [Act.put, List.setIfInBounds_toArray, List.set_cons_zero, List.set_cons_succ])
              refine takeL (i := 5) (v := .agg lgA) rfl (by kernel_rfl) (by kernel_rfl) (by kernel_rfl) (fun _ _ _ h => h) (Or.inl ⟨by rfl, fun W1 hSW => run_load_agg rfl rfl (load_lg ((unhide HPW).below hSW).l)⟩) (unhide HH) ?_
              (try simp only [Act.put, List.setIfInBounds_toArray, List.set_cons_zero, List.set_cons_succ])
              refine wpAnyH_ready (rs := [3]) (by kernel_rfl) (by simp) ?_
              refine consL rfl (fun K hK => ?_) AllReadyH.nil
              go_simp
              refine (turned_any _ _ (s) i _ (unhide HA) (unhide HL) (by omega)).mono ?_
              rintro e w22 ⟨v22, rfl, hF, hk⟩
              replace HA := hide ((unhide HA).below hk)
              replace HPW := hide ((unhide HPW).below hk)
              replace HT := hide ((unhide HT).trans (hk.mono (unhide HT).size))
              obtain ⟨g22, hA, hge⟩ := hF.arg (tL_bs hbs i)
              obtain ⟨⟨ao22, c22, rfl, h1, h2, h3, h4⟩, _⟩ := hA
              have HA22 : Hid (Arg w22 (.slice ao22 8 c22) g22 (tL s i)) := ⟨⟨ao22, c22, by rw [(tL_len _ _)], h1, h2, h3, h4⟩, (tL_bs hbs i)⟩
              rw [show (tL s i).length = 8 from (tL_len _ _)]
              clear h1 h2 h3 h4 hF hge
              go_wp2_with fail
              refine hK.out _ _ hk (fun hHeld => ?_)
              clear hK K HH hHeld
              (try simp only [Act.put, List.setIfInBounds_toArray, List.set_cons_zero, List.set_cons_succ])
              refine stronger (S' := fun W => Below w22.heap.size w22 W) (fun W h => hk.trans (h.mono hk.size)) _ _ _ _ ?_
              have HH : Hid (Below w22.heap.size w22 w22) := Below.refl _ _
              clear hk
              refine wpAnyH_ready (rs := [6]) (by kernel_rfl) (by simp) ?_
              refine consL rfl (fun K hK => ?_) AllReadyH.nil
              go_simp
              refine (single_any _ _ (tL s i) _ (unhide HA22) (tL_len _ _)).mono ?_
              rintro e w23 ⟨r, rfl, hR, hk⟩
              have HR := hide hR
              clear hR
              replace HA := hide ((unhide HA).below hk)
              replace HPW := hide ((unhide HPW).below hk)
              replace HA22 := hide ((unhide HA22).below hk)
              replace HT := hide ((unhide HT).trans (hk.mono (unhide HT).size))
              go_wp2_with fail
              refine hK.out _ _ hk (fun hHeld => ?_)
              clear hK K HH hHeld
              (try simp only [Act.put, List.setIfInBounds_toArray, List.set_cons_zero, List.set_cons_succ])
              refine stronger (S' := fun W => Below w23.heap.size w23 W) (fun W h => hk.trans (h.mono hk.size)) _ _ _ _ ?_
              have HH : Hid (Below w23.heap.size w23 w23) := Below.refl _ _
              clear hk
              refine takeL (i := 7) (v := ?_) rfl (by kernel_rfl) (by kernel_rfl) (by kernel_rfl) (fun _ _ _ h => h) (Or.inl ⟨by rfl, ?_⟩) (unhide HH) ?_
              rotate_left 1
              · intro W hSW; go_simp; all_goals (with_reducible rfl)
              (try simp only [Act.put, List.setIfInBounds_toArray, List.set_cons_zero, List.set_cons_succ])
              refine wpAnyH_done (by kernel_rfl) ?_ _
              refine NoPanic.normal ?_
              rcases unhide HR with ⟨x, rfl, hg⟩ | ⟨rfl, hn⟩
              · have hx0 : (0 : Int) ≤ (x : Int) := by omega
                have HG : Hid (Good (Sf s) [i, x]) := pair_good hlt (unhide H0) (Good_tL.1 hg)
                clear hg HR
                have HI := hide (cells_iarg w23 [i, x] (by simp))
                have HT2 := hide ((unhide HT).alloc (unhide HT).size (.cells ([i, x].map (fun k : Nat => Value.int .i64 (k : Int))).toArray 3))
                go_wp2
                go_returns
                exact ⟨.inl ⟨[i, x], _, _, rfl, unhide HI, unhide HG, by simp⟩, unhide HT2⟩
              · have HN2 : Hid (∀ k, ¬ Good (tS (Sf s) i) [k]) := fun k h => hn k (Good_tL.2 h)
                clear hn HR
                go_wp2_with fail
                go_roundw
                case rel => exact ⟨i + 1, by go_num, by omega, fun i' hi' => (by
                  by_cases e : i' = i
                  · subst e
                    exact unhide HN2
                  · exact unhide H2 i' (by omega)), unhide HA, unhide HPW, unhide HT⟩
                case measure => simp [intOf]; omega
            · have hi4 : i = 224 := by omega
              subst hi4
              rw [show ((224 : Nat) : Int) = 224 from rfl]
              go_wp2_with fail
              go_loopw [9] (fun p wr => ∃ (i : Nat), p = .int .i64 (i : Int) ∧ i ≤ 224 ∧ (∀ i', i' < i → ∀ j, i' < j → j < 224 → ∀ x, ¬ Good (Sf s) [i', j, x]) ∧ Arg wr (.slice (some ⟨g, o, none⟩) 8 c) g s ∧ PW wr b4 b5 ∧ Below w.heap.size w wr) (fun p _ => 224 - (intOf p).toNat)
              case atStart => exact ⟨0, rfl, by omega, fun i' hi' => by omega, unhide HA, unhide HPW, unhide HT⟩
              case round =>
                obtain ⟨i, rfl, hi', h3, hAs, hPW, hB⟩ := hrel
                have H3 := hide h3
                replace HA := hide hAs
                replace HPW := hide hPW
                replace HT := hide hB
                clear h3 hAs hPW hB
                by_cases hi : i < 224
                · have hi1 : (i : Int) < 224 := by omega
                  go_wp2_with (refine wpList_load_row rfl 63 _ rfl b4 rfl 63 pwA _ _ (unhide HPW).p Try.underlying63 rfl (by rw [sizeA, pwA_size]) ?_)
                  refine (turned_any _ _ s i _ (unhide HA) (unhide HL) (by omega)).mono ?_
                  rintro e w3 ⟨v3, rfl, hF, hk⟩
                  replace HA := hide ((unhide HA).below hk)
                  replace HPW := hide ((unhide HPW).below hk)
                  replace HT := hide ((unhide HT).trans (hk.mono (unhide HT).size))
                  obtain ⟨gt, ct, rfl, ht1, ht2, hBt, _⟩ := hF.blk (ne_len (tL_len s i))
                  rw [tL_len] at ht1 ⊢
                  have HAt : Hid (Arg w3 (.slice (some ⟨gt, 0, none⟩) 8 ct) gt (tL s i)) := by
                    have h := hBt.arg (tL_bs hbs i) (c := ct) (by rw [tL_len]; exact ht1) ht2
                    rw [tL_len] at h
                    exact h
                  clear hk hF hBt
                  go_wp2_with fail
                  go_loopw [11] (fun p wr => ∃ (j : Nat), p = .int .i64 (j : Int) ∧ i < j ∧ j ≤ 224 ∧ (∀ j', i < j' → j' < j → ∀ x, ¬ Good (Sf s) [i, j', x]) ∧ Arg wr (.slice (some ⟨g, o, none⟩) 8 c) g s ∧ Arg wr (.slice (some ⟨gt, 0, none⟩) 8 ct) gt (tL s i) ∧ PW wr b4 b5 ∧ Below w.heap.size w wr) (fun p _ => 224 - (intOf p).toNat)
                  case atStart => exact ⟨i + 1, by go_num, by omega, by omega, fun j' h1 h2 => by omega, unhide HA, unhide HAt, unhide HPW, unhide HT⟩
                  case round =>
                    obtain ⟨j, rfl, hij, hj, h4, hAs, hAt, hPW, hB⟩ := hrel
                    have H4 := hide h4
                    replace HA := hide hAs
                    replace HAt := hide hAt
                    replace HPW := hide hPW
                    replace HT := hide hB
                    clear h4 hAs hAt hPW hB
                    by_cases hlt : j < 224
                    · have hj1 : (j : Int) < 224 := by omega
                      have hj2 : (j : Int) < 255 := by omega
                      have k0 := arg_at (unhide HAt) (j := 0) (by rw [tL_len]; omega)
                      have k2 := arg_at (unhide HAt) (j := 2) (by rw [tL_len]; omega)
                      rw [Nat.zero_add] at k0 k2
                      have kp := pwA_cell (unhide HPW).p (k := j) (by omega)
                      have ha256 := tL_bs hbs i 0
                      have hc256 := tL_bs hbs i 2
                      have hE := E_lt j
                      have hN1 := fun x' (h : Good (Sf s) [i, j, x']) => three_x h
                      have HN1 := hide hN1
                      clear hN1
                      obtain ⟨a, ha⟩ : ∃ a, cf (tL s i) 0 = a := ⟨_, rfl⟩
                      obtain ⟨c2, hc2'⟩ : ∃ a, cf (tL s i) 2 = a := ⟨_, rfl⟩
                      obtain ⟨pj, hpj⟩ : ∃ a, E j = a := ⟨_, rfl⟩
                      rw [ha] at k0 ha256
                      rw [hc2'] at k2 hc256
                      rw [hpj] at kp hE
                      have Ha := hide ha
                      have Hc := hide hc2'
                      have Hp := hide hpj
                      clear ha hc2' hpj
                      have hy256 := xor_lt ha256 hE
                      have hxor := bits_xor_u8 ha256 hE
                      obtain ⟨y, hy⟩ : ∃ y, a ^^^ pj = y := ⟨_, rfl⟩
                      rw [hy] at hy256 hxor
                      have Hy := hide hy
                      clear hy
                      have kl := lgA_cell (unhide HPW).l hy256
                      have hy1 : (y : Int) < 256 := by omega
                      obtain ⟨x, hx⟩ : ∃ x, lgv y = x := ⟨_, rfl⟩
                      rw [hx] at kl
                      have HXX : Hid (a ≠ pj → L y = x) := fun hne => by
                        rw [← hx]
                        unfold lgv
                        rw [if_neg]
                        intro h0
                        rw [← unhide Hy] at h0
                        exact hne (xor_eq_nought h0)
                      clear hx
                      go_wp2_with fail
                      go_quiet (fail)
                      go_wp2_with fail
                      clear kl
                      have hk : Below wr.heap.size wr (wr.drewN nq) := below_drewN wr nq
                      replace k0 : (wr.drewN nq).cell? ⟨gt, 0, none⟩ = some (.int .u8 (a : Int)) := k0
                      replace k2 : (wr.drewN nq).cell? ⟨gt, 2, none⟩ = some (.int .u8 (c2 : Int)) := k2
                      replace kp : (wr.drewN nq).cell? ⟨b4, j, none⟩ = some (.int .u8 (pj : Int)) := kp
                      generalize wr.drewN nq = wq at hk k0 k2 kp ⊢
                      replace HA := hide ((unhide HA).below hk)
                      replace HAt := hide ((unhide HAt).below hk)
                      replace HPW := hide ((unhide HPW).below hk)
                      replace HT := hide ((unhide HT).trans (hk.mono (unhide HT).size))
                      clear hk
                      by_cases hae : a = pj
                      · have HNO : Hid (∀ x', ¬ Good (Sf s) [i, j, x']) := fun x' hg => (unhide HN1 x' hg).1 (by rw [unhide Ha, unhide Hp]; exact hae)
                        subst hae
                        go_quiet (fail)
                        go_wp2_with fail
                        go_roundw
                        case rel => exact ⟨j + 1, by go_num, by omega, by omega, fun j' h1 h2 => (by
                          by_cases e : j' = j
                          · subst e
                            exact unhide HNO
                          · exact unhide H4 j' h1 (by omega)), (unhide HA).below (below_drewN _ _), (unhide HAt).below (below_drewN _ _), (unhide HPW).below (below_drewN _ _), (unhide HT).trans ((below_drewN _ _).mono (unhide HT).size)⟩
                        case measure => simp [intOf]; omega
                      · have heq : ((a : Int) == (pj : Int)) = false := by rw [beq_eq_false_iff_ne]; omega
                        have hLy := unhide HXX hae
                        by_cases hx224 : x < 224
                        · have hxd : decide ((224 : Int) ≤ (x : Int)) = false := by rw [decide_eq_false_iff_not]; omega
                          have k3 := pwA_cell (unhide HPW).p (k := 3 * j % 255) (by omega)
                          have k4 := pwA_cell (unhide HPW).p (k := 3 * x % 255) (by omega)
                          have he1 := E_lt (3 * j % 255)
                          have he2 := E_lt (3 * x % 255)
                          have H5 : Hid (∀ x', Good (Sf s) [i, j, x'] → (c2 ^^^ E (3 * j % 255)) ^^^ E (3 * x % 255) = 0) := fun x' hg => by
                            obtain ⟨g1, g2, g3, g4⟩ := unhide HN1 x' hg
                            rw [unhide Ha, unhide Hp] at g1 g2
                            rw [unhide Hy, hLy] at g2
                            subst g2
                            rw [unhide Hc] at g4
                            exact g4
                          obtain ⟨m1, hm1⟩ : ∃ m, 3 * j % 255 = m := ⟨_, rfl⟩
                          obtain ⟨m2, hm2⟩ : ∃ m, 3 * x % 255 = m := ⟨_, rfl⟩
                          have hm1' : m1 < 255 := by omega
                          have hm2' : m2 < 255 := by omega
                          obtain ⟨N1, hN1⟩ : ∃ N, 3 * j = N := ⟨_, rfl⟩
                          obtain ⟨N2, hN2⟩ : ∃ N, 3 * x = N := ⟨_, rfl⟩
                          have q1 : 3 * (j : Int) = (N1 : Int) := by omega
                          have q2 : 3 * (x : Int) = (N2 : Int) := by omega
                          have q3 : (N1 : Int).tmod 255 = (m1 : Int) := by rw [Int.tmod_eq_emod_of_nonneg (by omega)]; omega
                          have q4 : (N2 : Int).tmod 255 = (m2 : Int) := by rw [Int.tmod_eq_emod_of_nonneg (by omega)]; omega
                          have q5 : IntKind.i64.wrap (N1 : Int) = (N1 : Int) := IntWalk.i64_in _ ⟨by omega, by omega⟩
                          have q6 : IntKind.i64.wrap (N2 : Int) = (N2 : Int) := IntWalk.i64_in _ ⟨by omega, by omega⟩
                          have q7 : (N1 : Int) % 255 = (m1 : Int) := by omega
                          have q8 : (N2 : Int) % 255 = (m2 : Int) := by omega
                          have q9 : (m1 : Int) < 255 := by omega
                          have q10 : (m2 : Int) < 255 := by omega
                          rw [hm1] at k3 he1 H5
                          rw [hm2] at k4 he2 H5
                          clear hm1 hm2 hN1 hN2
                          obtain ⟨e1, he1'⟩ : ∃ e, E m1 = e := ⟨_, rfl⟩
                          obtain ⟨e2, he2'⟩ : ∃ e, E m2 = e := ⟨_, rfl⟩
                          rw [he1'] at k3 he1 H5
                          rw [he2'] at k4 he2 H5
                          clear he1' he2'
                          have hxor2 := bits_xor_u8 hc256 he1
                          have hxor3 := bits_xor_u8 (xor_lt hc256 he1) he2
                          obtain ⟨z1, hz1⟩ : ∃ z, c2 ^^^ e1 = z := ⟨_, rfl⟩
                          rw [hz1] at hxor2 hxor3 H5
                          obtain ⟨z, hz⟩ : ∃ z, z1 ^^^ e2 = z := ⟨_, rfl⟩
                          rw [hz] at hxor3 H5
                          clear hz1 hz hLy
                          by_cases hz0 : z = 0
                          · subst hz0
                            go_quiet (fail)
                            go_wp2_with fail
                            clear k0 k2 kp k3 k4 q1 q2 q3 q4 q5 q6 q7 q8 hxor hxor2 hxor3 heq hxd
                            have hk : Below wq.heap.size wq (wq.drewN nq) := below_drewN wq nq
                            generalize wq.drewN nq = wz at hk ⊢
                            replace HA := hide ((unhide HA).below hk)
                            replace HAt := hide ((unhide HAt).below hk)
                            replace HPW := hide ((unhide HPW).below hk)
                            replace HT := hide ((unhide HT).trans (hk.mono (unhide HT).size))
                            clear hk
                            replace HT := hide ((unhide HT).drew)
                            replace HA := hide ((unhide HA).below (Below.refl _ _).drew)
                            replace HAt := hide ((unhide HAt).below (Below.refl _ _).drew)
                            replace HPW := hide ((unhide HPW).below (Below.refl _ _).drew)
                            refine wp_region_noPanic ?_
                            refine wp_region_held_drew (S := fun W => Below wz.drew.heap.size wz.drew W) (by kernel_rfl) (Below.refl _ _) (fun hHeld => ?_)
                            have HH := hide hHeld
                            clear hHeld
                            generalize wz.drew = w41 at HT HA HAt HPW HH ⊢
                            refine takeL (i := 0) (v := ?_) rfl (by kernel_rfl) (by kernel_rfl) (by kernel_rfl) (fun _ _ _ h => h) (Or.inl ⟨by rfl, ?_⟩) (unhide HH) ?_
                            rotate_left 1
                            · intro W hSW; go_simp; all_goals (with_reducible rfl)
                            (try simp only [Act.put, List.setIfInBounds_toArray, List.set_cons_zero, List.set_cons_succ])
                            refine takeL (i := 1) (v := ?_) rfl (by kernel_rfl) (by kernel_rfl) (by kernel_rfl) (fun _ _ _ h => h) (Or.inl ⟨by rfl, ?_⟩) (unhide HH) ?_
                            rotate_left 1
                            · intro W hSW; go_simp; all_goals (with_reducible rfl)
                            (try simp only [Act.put, List.setIfInBounds_toArray, List.set_cons_zero, List.set_cons_succ])
                            refine takeL (i := 2) (v := .agg pwA) rfl (by kernel_rfl) (by kernel_rfl) (by kernel_rfl) (fun _ _ _ h => h) (Or.inl ⟨by rfl, fun W1 hSW => run_load_agg rfl rfl (load_pw ((unhide HPW).below hSW).p)⟩) (unhide HH) ?_
                            (try simp only [Act.put, List.setIfInBounds_toArray, List.set_cons_zero, List.set_cons_succ])
                            refine takeL (i := 4) (v := ?_) rfl (by kernel_rfl) (by kernel_rfl) (by kernel_rfl) (fun _ _ _ h => h) (Or.inl ⟨by rfl, ?_⟩) (unhide HH) ?_
                            rotate_left 1
                            · intro W hSW; go_simp; all_goals (with_reducible rfl)
                            (try simp only [Act.put, List.setIfInBounds_toArray, List.set_cons_zero, List.set_cons_succ])
                            refine takeL (i := 5) (v := .agg pwA) rfl (by kernel_rfl) (by kernel_rfl) (by kernel_rfl) (fun _ _ _ h => h) (Or.inl ⟨by rfl, fun W1 hSW => run_load_agg rfl rfl (load_pw ((unhide HPW).below hSW).p)⟩) (unhide HH) ?_
                            (try simp only [Act.put, List.setIfInBounds_toArray, List.set_cons_zero, List.set_cons_succ])
                            refine wpAnyH_ready (rs := [3]) (by kernel_rfl) (by simp) ?_
                            refine consL rfl (fun K hK => ?_) AllReadyH.nil
                            go_simp
                            refine (turned_any _ _ (tL s i) j _ (unhide HAt) (tL_len _ _) (by omega)).mono ?_
                            rintro e w42 ⟨v42, rfl, hF, hk⟩
                            replace HA := hide ((unhide HA).below hk)
                            replace HAt := hide ((unhide HAt).below hk)
                            replace HPW := hide ((unhide HPW).below hk)
                            replace HT := hide ((unhide HT).trans (hk.mono (unhide HT).size))
                            obtain ⟨g42, hA, hge⟩ := hF.arg (tL_bs (tL_bs hbs i) j)
                            obtain ⟨⟨ao42, c42, rfl, h1, h2, h3, h4⟩, _⟩ := hA
                            have HA42 : Hid (Arg w42 (.slice ao42 8 c42) g42 (tL (tL s i) j)) := ⟨⟨ao42, c42, by rw [(tL_len _ _)], h1, h2, h3, h4⟩, (tL_bs (tL_bs hbs i) j)⟩
                            rw [show (tL (tL s i) j).length = 8 from (tL_len _ _)]
                            clear h1 h2 h3 h4 hF hge
                            go_wp2_with fail
                            refine hK.out _ _ hk (fun hHeld => ?_)
                            clear hK K HH hHeld
                            (try simp only [Act.put, List.setIfInBounds_toArray, List.set_cons_zero, List.set_cons_succ])
                            refine stronger (S' := fun W => Below w42.heap.size w42 W) (fun W h => hk.trans (h.mono hk.size)) _ _ _ _ ?_
                            have HH : Hid (Below w42.heap.size w42 w42) := Below.refl _ _
                            clear hk
                            refine wpAnyH_ready (rs := [6]) (by kernel_rfl) (by simp) ?_
                            refine consL rfl (fun K hK => ?_) AllReadyH.nil
                            go_simp
                            refine (turned_any _ _ (tL (tL s i) j) x _ (unhide HA42) (tL_len _ _) (by omega)).mono ?_
                            rintro e w43 ⟨v43, rfl, hF, hk⟩
                            replace HA := hide ((unhide HA).below hk)
                            replace HAt := hide ((unhide HAt).below hk)
                            replace HPW := hide ((unhide HPW).below hk)
                            replace HA42 := hide ((unhide HA42).below hk)
                            replace HT := hide ((unhide HT).trans (hk.mono (unhide HT).size))
                            obtain ⟨g43, hA, hge⟩ := hF.arg (tL_bs (tL_bs (tL_bs hbs i) j) x)
                            obtain ⟨⟨ao43, c43, rfl, h1, h2, h3, h4⟩, _⟩ := hA
                            have HA43 : Hid (Arg w43 (.slice ao43 8 c43) g43 (tL (tL (tL s i) j) x)) := ⟨⟨ao43, c43, by rw [(tL_len _ _)], h1, h2, h3, h4⟩, (tL_bs (tL_bs (tL_bs hbs i) j) x)⟩
                            rw [show (tL (tL (tL s i) j) x).length = 8 from (tL_len _ _)]
                            clear h1 h2 h3 h4 hF hge
                            go_wp2_with fail
                            refine hK.out _ _ hk (fun hHeld => ?_)
                            clear hK K HH hHeld
                            (try simp only [Act.put, List.setIfInBounds_toArray, List.set_cons_zero, List.set_cons_succ])
                            refine stronger (S' := fun W => Below w43.heap.size w43 W) (fun W h => hk.trans (h.mono hk.size)) _ _ _ _ ?_
                            have HH : Hid (Below w43.heap.size w43 w43) := Below.refl _ _
                            clear hk
                            refine wpAnyH_ready (rs := [7]) (by kernel_rfl) (by simp) ?_
                            refine consL rfl (fun K hK => ?_) AllReadyH.nil
                            go_simp
                            refine (zero_any _ _ (tL (tL (tL s i) j) x) _ (unhide HA43) (tL_len _ _)).mono ?_
                            rintro e w44 ⟨rfl, hwk⟩
                            have hk : Below w43.heap.size w43 w44 := by rw [hwk]; exact Below.refl _ _
                            clear hwk
                            obtain ⟨b, hb⟩ : ∃ b, zb (tL (tL (tL s i) j) x) = b := ⟨_, rfl⟩
                            have HZB := hide hb
                            rw [hb]
                            clear hb
                            replace HA := hide ((unhide HA).below hk)
                            replace HAt := hide ((unhide HAt).below hk)
                            replace HPW := hide ((unhide HPW).below hk)
                            replace HA42 := hide ((unhide HA42).below hk)
                            replace HA43 := hide ((unhide HA43).below hk)
                            replace HT := hide ((unhide HT).trans (hk.mono (unhide HT).size))
                            go_wp2_with fail
                            refine hK.out _ _ hk (fun hHeld => ?_)
                            clear hK K HH hHeld
                            (try simp only [Act.put, List.setIfInBounds_toArray, List.set_cons_zero, List.set_cons_succ])
                            refine stronger (S' := fun W => Below w44.heap.size w44 W) (fun W h => hk.trans (h.mono hk.size)) _ _ _ _ ?_
                            have HH : Hid (Below w44.heap.size w44 w44) := Below.refl _ _
                            clear hk
                            refine wpAnyH_done (by kernel_rfl) ?_ _
                            refine NoPanic.normal ?_
                            cases b with
                            | true =>
                              have HG : Hid (Good (Sf s) [i, j, x]) := three_good hi (by omega) (by omega) (by omega) (unhide H1) (zz3 (unhide HZB))
                              have HI := hide (cells_iarg w44 [i, j, x] (by simp))
                              have HT2 := hide ((unhide HT).alloc (unhide HT).size (.cells ([i, j, x].map (fun k : Nat => Value.int .i64 (k : Int))).toArray 3))
                              go_wp2
                              go_returns
                              exact ⟨.inl ⟨[i, j, x], _, _, rfl, unhide HI, unhide HG, by simp⟩, unhide HT2⟩
                            | false =>
                              have HNO : Hid (∀ x', ¬ Good (Sf s) [i, j, x']) := fun x' hg => by
                                obtain ⟨g1, g2, g3, g4⟩ := unhide HN1 x' hg
                                rw [unhide Ha, unhide Hp] at g1 g2
                                rw [unhide Hy] at g2
                                have e := unhide HXX g1
                                rw [g2] at e
                                subst e
                                rw [unhide HZB] at g3
                                cases g3
                              go_wp2_with fail
                              go_roundw
                              case rel => exact ⟨j + 1, by go_num, by omega, by omega, fun j' h1 h2 => (by
                                by_cases e : j' = j
                                · subst e
                                  exact unhide HNO
                                · exact unhide H4 j' h1 (by omega)), unhide HA, unhide HAt, unhide HPW, unhide HT⟩
                              case measure => simp [intOf]; omega
                          · have HNO : Hid (∀ x', ¬ Good (Sf s) [i, j, x']) := fun x' hg => hz0 (unhide H5 x' hg)
                            have hzn : ((z : Int) != 0) = true := by rw [bne_iff_ne]; omega
                            go_quiet (fail)
                            go_wp2_with fail
                            go_roundw
                            case rel => exact ⟨j + 1, by go_num, by omega, by omega, fun j' h1 h2 => (by
                              by_cases e : j' = j
                              · subst e
                                exact unhide HNO
                              · exact unhide H4 j' h1 (by omega)), (unhide HA).below (below_drewN _ _), (unhide HAt).below (below_drewN _ _), (unhide HPW).below (below_drewN _ _), (unhide HT).trans ((below_drewN _ _).mono (unhide HT).size)⟩
                            case measure => simp [intOf]; omega
                        · have hxd : decide ((224 : Int) ≤ (x : Int)) = true := by rw [decide_eq_true_iff]; omega
                          have HNO : Hid (∀ x', ¬ Good (Sf s) [i, j, x']) := fun x' hg => by
                            obtain ⟨g1, g2, g3, g4⟩ := unhide HN1 x' hg
                            rw [unhide Ha, unhide Hp] at g2
                            rw [unhide Hy, hLy] at g2
                            have := hg.lt x' (by simp)
                            omega
                          clear hLy
                          go_quiet (fail)
                          go_wp2_with fail
                          go_roundw
                          case rel => exact ⟨j + 1, by go_num, by omega, by omega, fun j' h1 h2 => (by
                            by_cases e : j' = j
                            · subst e
                              exact unhide HNO
                            · exact unhide H4 j' h1 (by omega)), (unhide HA).below (below_drewN _ _), (unhide HAt).below (below_drewN _ _), (unhide HPW).below (below_drewN _ _), (unhide HT).trans ((below_drewN _ _).mono (unhide HT).size)⟩
                          case measure => simp [intOf]; omega
                    · have hj4 : j = 224 := by omega
                      subst hj4
                      rw [show ((224 : Nat) : Int) = 224 from rfl]
                      go_wp2_with fail
                      go_roundw
                      case rel => exact ⟨i + 1, by go_num, by omega, fun i' hi' => (by
                        by_cases e : i' = i
                        · subst e
                          exact unhide H4
                        · exact unhide H3 i' (by omega)), unhide HA, unhide HPW, unhide HT⟩
                      case measure => simp [intOf]; omega
                · have hi4 : i = 224 := by omega
                  subst hi4
                  have HF := hide (far_all (unhide H0) (unhide H1) (unhide H2) (unhide H3))
                  go_wp2
                  go_returns
                  exact ⟨.inr ⟨rfl, unhide HF⟩, unhide HT⟩

end Go.Proofs.Ytkhpoomajebgoab

namespace Go.Proofs.Ytkhpoomajebgoab
open Go.RowKit

theorem Sf_syn (s : List Nat) {e : Nat} (h1 : 1 ≤ e) (h8 : e ≤ 8) : Sf (synF s) e = syn s e := by
  unfold Sf
  rw [synF_eq]
  have : e = 1 ∨ e = 2 ∨ e = 3 ∨ e = 4 ∨ e = 5 ∨ e = 6 ∨ e = 7 ∨ e = 8 := by omega
  rcases this with rfl | rfl | rfl | rfl | rfl | rfl | rfl | rfl <;> rfl
theorem cut_arg {w : World} {q c : Nat} {s : List Nat} (h : Blk w q s) (hb : Bs s) (hl : s.length = 28) (h1 : 28 ≤ c) (h2 : c ≤ maxLen) : Arg w (.slice (some ⟨q, 4, none⟩) 24 (c - 4)) q (s.drop 4) := by
  have hd : (s.drop 4).length = 24 := by rw [List.length_drop, hl]
  refine ⟨⟨some ⟨q, 4, none⟩, c - 4, by rw [hd], by rw [hd]; omega, by omega, (fun h => by cases h), ?_⟩, fun i => by rw [cf_drop]; exact hb _⟩
  have hr := h.row (o := 4) (n := 24)
  rwa [List.take_of_length_le (by rw [hd]; omega)] at hr

set_option maxRecDepth 100000 in
set_option maxHeartbeats 2000000 in
theorem rdecode_not (v : Value) (g : Nat) (d : List Nat) (w : World) (hA : Arg w v g d) (hl : d.length ≠ 28) : Calls Try.prog 17 #[v] w fun e w' => e = .returned (.tuple #[.slice none 0 0, .int .i64 0, .bool false]) ∧ w' = w := by
  obtain ⟨⟨ao, c, rfl, hc1, hc2, hnil, hr⟩, hbs⟩ := hA
  have h24 : ((d.length : Int) != 28) = true := by rw [bne_iff_ne]; omega
  clear hr hnil
  go_enter Try.func17, Try.ntmps17
  go_wp2
  go_returns
  exact ⟨rfl, rfl⟩

/-- What Decode tells. -/
def DecR (w : World) (s : List Nat) (e : Ending) : Prop :=
  (∃ l, Good (syn s) l ∧ l.length ≤ 3 ∧ ∃ q c, e = .returned (.tuple #[.slice (some ⟨q, 4, none⟩) 24 c, .int .i64 (l.length : Nat), .bool true]) ∧ Arg w (.slice (some ⟨q, 4, none⟩) 24 c) q ((flips s l).drop 4)) ∨
  ((∀ l, Good (syn s) l → 4 ≤ l.length) ∧ e = .returned (.tuple #[.slice none 0 0, .int .i64 0, .bool false]))

set_option maxRecDepth 100000 in
set_option maxHeartbeats 8000000 in
theorem rdecode_any (v : Value) (g : Nat) (s : List Nat) (w : World) (hA : Arg w v g s) (hs : s.length = 28) :
    Calls Try.prog 17 #[v] w fun e w' => Below w.heap.size w w' ∧ DecR w' s e := by
  have HA0 := hide hA
  obtain ⟨⟨ao, c, rfl, hc1, hc2, hnil, hr⟩, hbs⟩ := hA
  obtain ⟨o, rfl⟩ := row_some hr (by omega)
  have HA := hide (show Arg w (.slice (some ⟨g, o, none⟩) 28 c) g s from by rw [← hs]; exact unhide HA0)
  obtain ⟨i0, hi0, hz0, hz1, hz2⟩ := info_parts infoE
  have HR0 := hide hr
  have HS := hide hs
  have HI := hide hi0
  rw [hs]
  clear hr hnil hi0 HA0
  go_enter Try.func17, Try.ntmps17
  go_wp2_with fail
  refine (rsyn_any _ _ s w (unhide HA) (unhide HS)).mono ?_
  rintro e w1 ⟨v1, rfl, hF, hk1⟩
  obtain ⟨g1, hA1, _⟩ := hF.arg (synF_bs s)
  have HA1 := hide hA1
  have HB1 := hide hk1
  clear hF hA1 hk1
  go_wp2_with fail
  refine (places4_any _ _ (synF s) w1 (unhide HA1) (synF_len s)).mono ?_
  rintro e w2 ⟨hR, hk2⟩
  have HB2 := hide ((unhide HB1).trans (hk2.mono (unhide HB1).size))
  have hw2 := (unhide HB2).size
  clear hk2 HB1 HA1
  rcases hR with ⟨l, vl, gl, rfl, hI, hg, hl3⟩ | ⟨rfl, hn⟩
  · have HG : Hid (Good (syn s) l) := hg.congr (fun _ h1 h8 => Sf_syn s h1 h8)
    have hl : ∀ k ∈ l, k < 224 := hg.lt
    obtain ⟨bo, cl, rfl, hd1, hd2, hnil2, hr2⟩ := hI
    have HR2 := hide hr2
    have HR := hide ((unhide HR0).below (unhide HB2))
    have HO := hide (empty_owns' w2)
    have HK1 : Hid (Kp [] w2 (w2.alloc (.cells #[] 5))) := (Kp.refl [] w2).alloc _
    clear hr2 hnil2 hg HR0
    go_wp2_with (at_builtin; refine wpList_append_row _ rfl _ _ 22 rfl w2.heap.size 5 i0 Try.underlying22 (unhide HI) hz0 hz1 hz2 (.slice (some ⟨w2.heap.size, 0, none⟩) 0 0) 0 _ rfl (unhide HO) (some ⟨g, o, none⟩) g 28 c (ints s) rfl (by rw [ints_len]; exact unhide HS) ((unhide HR).keep (unhide HK1) (by simp)) (fun h => by cases h) (by omega) (by simp) ?_)
    intro v' w3 ho hg _
    have hF := (owns_fr (s := s) ho).2
    obtain ⟨q, cq, rfl, hq1, hq2, hB, hq3⟩ := hF.blk (by intro h; rw [h] at hs; simp at hs)
    rw [hs] at hq1 ⊢
    have HB1 := hide hB
    have HK2 := hide ((unhide HK1).grown hg (fun k e => by cases e; exact .inr (Nat.le_refl _)))
    clear ho hg hF hB HK1 HO
    go_wp2_with fail
    go_loopw [8] (fun p wr => ∃ (i : Nat), p = .int .i64 i ∧ i ≤ l.length ∧ Blk wr q (flips s (l.take i)) ∧ Kp [] w2 wr) (fun p _ => l.length - (intOf p).toNat)
    case atStart => exact ⟨0, rfl, by omega, unhide HB1, unhide HK2⟩
    case round =>
      obtain ⟨i, rfl, hi, hB, hK⟩ := hrel
      have HK := hide hK
      clear hK
      by_cases hlt : i < l.length
      · have hi1 : (i : Int) < (l.length : Int) := by omega
        obtain ⟨ol, rfl⟩ := irow_some (unhide HR2) (by omega)
        have hcl := irow_cell (unhide HR2) (j := i) hlt
        have hgl := block_lt_of_cell hcl
        dsimp only at hgl
        have hcw := (unhide HK).cell hcl (by simp)
        have hk := hl _ (cf_memb hlt)
        have hft := flips_take (s := s) hlt
        obtain ⟨t, ht⟩ : ∃ t, flips s (l.take i) = t := ⟨_, rfl⟩
        have htl : t.length = 28 := by rw [← ht, flips_len]; exact hs
        have htb : Bs t := by rw [← ht]; exact flips_bs hbs _
        rw [ht] at hB hft
        have HB := hide hB
        have HFT := hide hft
        clear hB hft ht
        obtain ⟨k, hkk⟩ : ∃ k, cf l i = k := ⟨_, rfl⟩
        rw [hkk] at hcw hk HFT
        clear hkk hcl
        obtain ⟨j, hj⟩ : ∃ j, k / 8 = j := ⟨_, rfl⟩
        obtain ⟨m, hm⟩ : ∃ m, k % 8 = m := ⟨_, rfl⟩
        have hj28 : j < 28 := by omega
        have hm8 : m < 8 := by omega
        have hj1 : (j : Int) < 28 := by omega
        have q0 : (k : Int) / 8 = (j : Int) := by omega
        have q1 : IntKind.i64.wrap ((k : Int) / 8) = (j : Int) := by rw [IntWalk.i64_in _ ⟨by omega, by omega⟩]; omega
        have q1' : IntKind.i64.wrap (j : Int) = (j : Int) := by rw [IntWalk.i64_in _ ⟨by omega, by omega⟩]
        have q2 : (k : Int).tmod 8 = (m : Int) := by rw [Int.tmod_eq_emod_of_nonneg (by omega)]; omega
        have q2' : (k : Int) % 8 = (m : Int) := by omega
        have q3 : IntKind.u64.wrap (m : Int) = (m : Int) := IntWalk.u64_in _ ⟨by omega, by omega⟩
        have hpm : 2 ^ m < 256 := by have := pow_lt8 k; rw [hm] at this; exact this
        obtain ⟨p, hp⟩ : ∃ p, 2 ^ m = p := ⟨_, rfl⟩
        rw [hp] at hpm
        have q4 : IntKind.u8.wrap ((2 : Int) ^ m) = (p : Int) := by rw [show (2 : Int) ^ m = ((2 ^ m : Nat) : Int) from by simp, hp]; exact wraps_u8 _ (by omega) (by omega)
        have HFL : Hid (flip1 t k = t.set j (cf t j ^^^ p)) := by show _ = _; rw [← hp, ← hj, ← hm]; rfl
        have hxor := bits_xor_u8 (htb j) hpm
        clear hj hm hp
        go_wp2_with fail
        have HCW := hide hcw
        clear hcw
        refine wp_region_noPanic ?_
        refine wp_region_held_drew (S := fun W => Kp [q] wr W) (by kernel_rfl) ((Kp.refl _ _).drew) (fun hHeld => ?_)
        have HH := hide hHeld
        clear hHeld
        refine takeL (i := 0) (v := ?_) rfl (by kernel_rfl) (by kernel_rfl) (by kernel_rfl) (fun _ _ _ h => h) (Or.inl ⟨by rfl, ?_⟩) (unhide HH) ?_
        rotate_left 1
        · intro W hSW; go_simp; all_goals (with_reducible rfl)
        (try simp only [Act.put, List.setIfInBounds_toArray, List.set_cons_zero, List.set_cons_succ])
        refine takeL (i := 1) (v := ?_) rfl (by kernel_rfl) (by kernel_rfl) (by kernel_rfl) (fun _ _ _ h => h) (Or.inl ⟨by rfl, ?_⟩) (unhide HH) ?_
        rotate_left 1
        · intro W hSW; go_simp; all_goals (with_reducible rfl)
        (try simp only [Act.put, List.setIfInBounds_toArray, List.set_cons_zero, List.set_cons_succ])
        refine takeL (i := 2) (v := ?_) rfl (by kernel_rfl) (by kernel_rfl) (by kernel_rfl) (fun _ _ _ h => h) (Or.inl ⟨by rfl, ?_⟩) (unhide HH) ?_
        rotate_left 1
        · intro W hSW; go_simp; all_goals (with_reducible rfl)
        (try simp only [Act.put, List.setIfInBounds_toArray, List.set_cons_zero, List.set_cons_succ])
        refine takeL (i := 3) (v := ?_) rfl (by kernel_rfl) (by kernel_rfl) (by kernel_rfl) (fun _ _ _ h => h) (Or.inl ⟨by rfl, ?_⟩) (unhide HH) ?_
        rotate_left 1
        · intro W hSW; go_simp; all_goals (with_reducible rfl)
        (try simp only [Act.put, List.setIfInBounds_toArray, List.set_cons_zero, List.set_cons_succ])
        refine takeL (i := 4) (v := ?_) rfl (by kernel_rfl) (by kernel_rfl) (by kernel_rfl) (fun _ _ _ h => h) (Or.inl ⟨by rfl, ?_⟩) (unhide HH) ?_
        rotate_left 1
        · intro W1 hSW; have hc := hSW.cell (unhide HCW) (by simp; omega); clear hSW; go_simp; all_goals (with_reducible rfl)
        (try simp only [Act.put, List.setIfInBounds_toArray, List.set_cons_zero, List.set_cons_succ])
        refine takeL (i := 5) (v := ?_) rfl (by kernel_rfl) (by kernel_rfl) (by kernel_rfl) (fun _ _ _ h => h) (Or.inl ⟨by rfl, ?_⟩) (unhide HH) ?_
        rotate_left 1
        · intro W hSW; go_simp; all_goals (with_reducible rfl)
        (try simp only [Act.put, List.setIfInBounds_toArray, List.set_cons_zero, List.set_cons_succ])
        refine takeL (i := 6) (v := ?_) rfl (by kernel_rfl) (by kernel_rfl) (by kernel_rfl) (fun _ _ _ h => h) (Or.inl ⟨by rfl, ?_⟩) (unhide HH) ?_
        rotate_left 1
        · intro W hSW; go_simp; all_goals (with_reducible rfl)
        (try simp only [Act.put, List.setIfInBounds_toArray, List.set_cons_zero, List.set_cons_succ])
        refine takeL (i := 7) (v := ?_) rfl (by kernel_rfl) (by kernel_rfl) (by kernel_rfl) (fun _ _ _ h => h) (Or.inl ⟨by rfl, ?_⟩) (unhide HH) ?_
        rotate_left 1
        · intro W hSW; go_simp; all_goals (with_reducible rfl)
        (try simp only [Act.put, List.setIfInBounds_toArray, List.set_cons_zero, List.set_cons_succ])
        refine takeL (i := 8) (v := ?_) rfl (by kernel_rfl) (by kernel_rfl) (by kernel_rfl) (fun _ _ _ h => h) (Or.inl ⟨by rfl, ?_⟩) (unhide HH) ?_
        rotate_left 1
        · intro W hSW; go_simp; all_goals (with_reducible rfl)
        (try simp only [Act.put, List.setIfInBounds_toArray, List.set_cons_zero, List.set_cons_succ])
        refine takeL (i := 9) (v := ?_) rfl (by kernel_rfl) (by kernel_rfl) (by kernel_rfl) (fun _ _ _ h => h) (Or.inl ⟨by rfl, ?_⟩) (unhide HH) ?_
        rotate_left 1
        · intro W hSW; go_simp; all_goals (with_reducible rfl)
        (try simp only [Act.put, List.setIfInBounds_toArray, List.set_cons_zero, List.set_cons_succ])
        refine takeL (i := 10) (v := ?_) rfl (by kernel_rfl) (by kernel_rfl) (by kernel_rfl) (fun _ _ _ h => h) (Or.inl ⟨by rfl, ?_⟩) (unhide HH) ?_
        rotate_left 1
        · intro W1 hSW; have hc := hSW.cell (unhide HCW) (by simp; omega); clear hSW; go_simp; all_goals (with_reducible rfl)
        (try simp only [Act.put, List.setIfInBounds_toArray, List.set_cons_zero, List.set_cons_succ])
        refine takeL (i := 11) (v := ?_) rfl (by kernel_rfl) (by kernel_rfl) (by kernel_rfl) (fun _ _ _ h => h) (Or.inl ⟨by rfl, ?_⟩) (unhide HH) ?_
        rotate_left 1
        · intro W hSW; go_simp; all_goals (with_reducible rfl)
        (try simp only [Act.put, List.setIfInBounds_toArray, List.set_cons_zero, List.set_cons_succ])
        refine takeL (i := 12) (v := ?_) rfl (by kernel_rfl) (by kernel_rfl) (by kernel_rfl) (fun _ _ _ h => h) (Or.inl ⟨by rfl, ?_⟩) (unhide HH) ?_
        rotate_left 1
        · intro W hSW; go_simp; all_goals (with_reducible rfl)
        (try simp only [Act.put, List.setIfInBounds_toArray, List.set_cons_zero, List.set_cons_succ])
        refine takeL (i := 14) (v := ?_) rfl (by kernel_rfl) (by kernel_rfl) (by kernel_rfl) (fun _ _ _ h => h) (Or.inl ⟨by rfl, ?_⟩) (unhide HH) ?_
        rotate_left 1
        · intro W hSW; go_simp; all_goals (with_reducible rfl)
        (try simp only [Act.put, List.setIfInBounds_toArray, List.set_cons_zero, List.set_cons_succ])
        refine takeL (i := 15) (v := ?_) rfl (by kernel_rfl) (by kernel_rfl) (by kernel_rfl) (fun _ _ _ h => h) (Or.inl ⟨by rfl, ?_⟩) (unhide HH) ?_
        rotate_left 1
        · intro W hSW; go_simp; all_goals (with_reducible rfl)
        (try simp only [Act.put, List.setIfInBounds_toArray, List.set_cons_zero, List.set_cons_succ])
        refine takeL (i := 16) (v := ?_) rfl (by kernel_rfl) (by kernel_rfl) (by kernel_rfl) (fun _ _ _ h => h) (Or.inl ⟨by rfl, ?_⟩) (unhide HH) ?_
        rotate_left 1
        · intro W hSW; go_simp; all_goals (with_reducible rfl)
        (try simp only [Act.put, List.setIfInBounds_toArray, List.set_cons_zero, List.set_cons_succ])
        refine takeL (i := 17) (v := ?_) rfl (by kernel_rfl) (by kernel_rfl) (by kernel_rfl) (fun _ _ _ h => h) (Or.inl ⟨by rfl, ?_⟩) (unhide HH) ?_
        rotate_left 1
        · intro W1 hSW; have hc := hSW.cell (unhide HCW) (by simp; omega); clear hSW; go_simp; all_goals (with_reducible rfl)
        (try simp only [Act.put, List.setIfInBounds_toArray, List.set_cons_zero, List.set_cons_succ])
        refine takeL (i := 18) (v := ?_) rfl (by kernel_rfl) (by kernel_rfl) (by kernel_rfl) (fun _ _ _ h => h) (Or.inl ⟨by rfl, ?_⟩) (unhide HH) ?_
        rotate_left 1
        · intro W hSW; go_simp; all_goals (with_reducible rfl)
        (try simp only [Act.put, List.setIfInBounds_toArray, List.set_cons_zero, List.set_cons_succ])
        refine takeL (i := 19) (v := ?_) rfl (by kernel_rfl) (by kernel_rfl) (by kernel_rfl) (fun _ _ _ h => h) (Or.inl ⟨by rfl, ?_⟩) (unhide HH) ?_
        rotate_left 1
        · intro W hSW; go_simp; all_goals (with_reducible rfl)
        (try simp only [Act.put, List.setIfInBounds_toArray, List.set_cons_zero, List.set_cons_succ])
        refine takeL (i := 20) (v := ?_) rfl (by kernel_rfl) (by kernel_rfl) (by kernel_rfl) (fun _ _ _ h => h) (Or.inl ⟨by rfl, ?_⟩) (unhide HH) ?_
        rotate_left 1
        · intro W hSW; go_simp; all_goals (with_reducible rfl)
        (try simp only [Act.put, List.setIfInBounds_toArray, List.set_cons_zero, List.set_cons_succ])
        refine wpAnyH_ready (rs := [13]) (by kernel_rfl) (by simp) ?_
        refine consL rfl (fun K hK => ?_) AllReadyH.nil
        have hc4 := ((unhide HB).of (w' := wr.drew) rfl).cell (j := j) (by omega)
        go_simp
        refine hK.out _ _ (unhide HH) (fun hHeld => ?_)
        clear hK K HH
        have HH := hide hHeld
        clear hHeld
        (try simp only [Act.put, List.setIfInBounds_toArray, List.set_cons_zero, List.set_cons_succ])
        clear hc4
        refine takeL (i := 21) (v := ?_) rfl (by kernel_rfl) (by kernel_rfl) (by kernel_rfl) (fun _ _ _ h => h) (Or.inl ⟨by rfl, ?_⟩) (unhide HH) ?_
        rotate_left 1
        · intro W hSW; go_simp; all_goals (with_reducible rfl)
        (try simp only [Act.put, List.setIfInBounds_toArray, List.set_cons_zero, List.set_cons_succ])
        refine takeL (i := 22) (v := ?_) rfl (by kernel_rfl) (by kernel_rfl) (by kernel_rfl) (fun _ _ _ h => h) (Or.inl ⟨by rfl, ?_⟩) (unhide HH) ?_
        rotate_left 1
        · intro W hSW; go_simp; all_goals (with_reducible rfl)
        (try simp only [Act.put, List.setIfInBounds_toArray, List.set_cons_zero, List.set_cons_succ])
        refine wpAnyH_ready (rs := [23]) (by kernel_rfl) (by simp) ?_
        refine consL rfl (fun K hK => ?_) AllReadyH.nil
        have hc4 := ((unhide HB).of (w' := wr.drew) rfl).cell (j := j) (by omega)
        have hf4 := ((unhide HB).of (w' := wr.drew) rfl).free (j := j)
        have HH2 := HH
        go_simp
        refine hK.out _ _ ((unhide HH2).setCell ⟨q, j, none⟩ _ (.inl (by simp))) (fun hHeld => ?_)
        clear hHeld hK K hc4 hf4
        (try simp only [Act.put, List.setIfInBounds_toArray, List.set_cons_zero, List.set_cons_succ])
        refine wpAnyH_done (by kernel_rfl) ?_ _
        refine NoPanic.normal ?_
        go_wp2_with fail
        go_roundw
        case rel => exact ⟨i + 1, by go_num, by omega, by rw [unhide HFT, unhide HFL]; exact ((unhide HB).set j _ (by omega)).of rfl, ((unhide HK).setCell ⟨q, j, none⟩ _ (.inr (by omega))).drew⟩
        case measure => simp [intOf]; omega
      · have hi2 : i = l.length := by omega
        subst hi2
        rw [List.take_length] at hB
        have hc := cut_arg hB (flips_bs hbs l) (by rw [flips_len, hs]) hq1 hq2
        have HC := hide hc
        have HT := hide ((unhide HB2).trans ((unhide HK).below.mono hw2))
        have hcq : ¬ cq = 4 := by omega
        have hcq2 : (4 : Int) ≤ (cq : Int) := by omega
        clear hB hc
        go_wp2
        go_returns
        exact ⟨unhide HT, .inl ⟨l, unhide HG, hl3, q, cq - 4, rfl, unhide HC⟩⟩
  · have HN : Hid (∀ l, Good (syn s) l → 4 ≤ l.length) := fun l h => hn l (h.congr (fun _ h1 h8 => (Sf_syn s h1 h8).symm))
    clear hn
    go_wp2
    go_returns
    exact ⟨unhide HB2, .inr ⟨unhide HN, rfl⟩⟩

end Go.Proofs.Ytkhpoomajebgoab
