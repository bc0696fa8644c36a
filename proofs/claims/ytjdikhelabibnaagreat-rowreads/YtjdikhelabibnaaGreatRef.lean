/-
  The contracts of the reader of the second telling (package ramekinref1).
-/
import Derived.Test.YtjdikhelabibnaaGreatTape
namespace Go.Proofs.YtjdikhelabibnaaGreat
open Go.RowKit

/-- The state of such a reader in block X: of the bytes zs (at ao, in block g) P have been read; its error is e. -/
def Xd (w : World) (X g : Nat) (ao : Option Addr) (cap : Nat) (zs : List Int) (P : Nat) (e : Int) : Prop :=
  w.heap[X]? = some (.cells #[.slice ao zs.length cap, .int .i64 P, .int .i64 e] 128 (0, 0)) ∧ Row w ao g zs ∧ (zs = [] ∨ g ≠ X) ∧ P ≤ zs.length ∧ zs.length ≤ cap ∧ zs.length ≤ 1000000

theorem Xd.keep {S : List Nat} {w w' : World} {X g : Nat} {ao : Option Addr} {cap : Nat} {zs : List Int} {P : Nat} {e : Int} (hr : Xd w X g ao cap zs P e) (h : Kp S w w') (h1 : X ∉ S) (h2 : zs = [] ∨ g ∉ S) : Xd w' X g ao cap zs P e := by
  obtain ⟨hb, hrow, r⟩ := hr
  refine ⟨h.heap hb h1, ?_, r⟩
  rcases h2 with h2 | h2
  · exact .inl h2
  · exact hrow.keep h h2

theorem cell_of3 {w : World} {b j : Nat} {cs : Array Value} {t : TypeId} (h : w.heap[b]? = some (.cells cs t (0, 0))) : w.cell? ⟨b, j, none⟩ = cs[j]? := cell_of_row w b j cs t (0, 0) h
theorem xthree_set1 {w : World} {b : Nat} {v u y x : Value} {t : TypeId} (h : w.heap[b]? = some (.cells #[v, u, y] t (0, 0))) : (w.setCell ⟨b, 1, none⟩ x).heap[b]? = some (.cells #[v, x, y] t (0, 0)) := by
  rw [heap_setCell_same w b 1 _ t x h]; rfl
theorem xthree_set2 {w : World} {b : Nat} {v u y x : Value} {t : TypeId} (h : w.heap[b]? = some (.cells #[v, u, y] t (0, 0))) : (w.setCell ⟨b, 2, none⟩ x).heap[b]? = some (.cells #[v, u, x] t (0, 0)) := by
  rw [heap_setCell_same w b 2 _ t x h]; rfl
theorem heap_drewN (w : World) (n : Nat) : (w.drewN n).heap = w.heap := rfl

/-- What is left of it. -/
def rest (zs : List Int) (P : Nat) (e : Int) : List Int := if e = 0 then zs.drop P else []

theorem xnew_any (ao : Option Addr) (g cap : Nat) (zs : List Int) (w : World) (hn : zs.length ≤ 1000000) (hc : zs.length ≤ cap) (hr : Row w ao g zs) :
    Calls Tryz.prog 41 #[.slice ao zs.length cap] w fun x w' => x = .returned (.pointer (some ⟨w.heap.size, 0, none⟩)) ∧ Xd w' w.heap.size g ao cap zs 0 0 ∧ Kp [] w w' := by
  have HR := hide hr
  clear hr
  generalize hL : zs.length = n at *
  go_enter Tryz.func41, Tryz.ntmps41
  go_wp2
  go_ret
  subst hL
  refine ⟨rfl, ⟨heap_alloc_new _ _, (unhide HR).keep ((Kp.refl [] _).alloc _) (by simp), ?_, by omega, hc, hn⟩, (Kp.refl [] _).alloc _⟩
  rcases unhide HR with h | ⟨o, rfl, h⟩
  · exact .inl h
  · cases zs with
    | nil => exact .inl rfl
    | cons z r => exact .inr (by have : g < _ := block_lt_of_cell (h 0 (by simp)); omega)

theorem xend_any (X g : Nat) (ao : Option Addr) (cap : Nat) (zs : List Int) (P : Nat) (e : Int) (w : World) (hx : Xd w X g ao cap zs P e) :
    Calls Tryz.prog 44 #[.pointer (some ⟨X, 0, none⟩)] w fun x w' => x = .returned (.int .i64 (if e = 0 ∧ rest zs P e ≠ [] then 4 else e)) ∧ Kp [] w w' := by
  obtain ⟨hb, hrow, hg, hp, hc, hn⟩ := hx
  have hc0 : w.cell? ⟨X, 0, none⟩ = some (.slice ao zs.length cap) := cell_of3 hb
  have hc1 : w.cell? ⟨X, 1, none⟩ = some (.int .i64 P) := cell_of3 hb
  have hc2 : w.cell? ⟨X, 2, none⟩ = some (.int .i64 e) := cell_of3 hb
  clear hb hrow
  by_cases he : e = 0
  · subst he
    by_cases hl : P < zs.length
    · rw [if_pos ⟨rfl, by simp only [rest, if_pos]; intro h; have := congrArg List.length h; simp at this; omega⟩]
      generalize zs.length = n at *
      go_enter Tryz.func44, Tryz.ntmps44
      go_wp2_with fail
      go_quiet (fail)
      go_wp2
      go_ret
      exact ⟨rfl, (Kp.refl _ _).drewN _⟩
    · rw [if_neg (by simp only [rest, if_pos]; rintro ⟨_, h⟩; exact h (List.drop_eq_nil_of_le (by omega)))]
      generalize zs.length = n at *
      have hl' : n ≤ P := by omega
      go_enter Tryz.func44, Tryz.ntmps44
      go_wp2_with fail
      go_quiet (fail)
      go_wp2
      go_ret
      exact ⟨rfl, (Kp.refl _ _).drewN _⟩
  · rw [if_neg (by rintro ⟨h, _⟩; exact he h)]
    have he1 : (e == 0) = false := beq_eq_false_iff_ne.2 he
    generalize zs.length = n at *
    clear he
    go_enter Tryz.func44, Tryz.ntmps44
    go_wp2_with fail
    go_quiet (fail)
    go_wp2
    go_ret
    exact ⟨rfl, (Kp.refl _ _).drewN _⟩

theorem xtake_ok (X g : Nat) (ao : Option Addr) (cap : Nat) (zs : List Int) (P n : Nat) (w : World) (hx : Xd w X g ao cap zs P 0) (hn1 : 1 ≤ n) (hn8 : n ≤ 8) (hl : P + n ≤ zs.length) :
    Calls Tryz.prog 74 #[.pointer (some ⟨X, 0, none⟩), .int .i64 n] w fun x w' => ∃ ao' c', x = .returned (.slice ao' n c') ∧ Row w' ao' g ((zs.drop P).take n) ∧ Xd w' X g ao cap zs (P + n) 0 ∧ Kp [X] w w' := by
  obtain ⟨hb, hrow, hg, hp, hc, hn⟩ := hx
  have hg' : g ≠ X := by
    rcases hg with h | h
    · rw [h] at hl; simp at hl; omega
    · exact h
  obtain ⟨o, rfl, hcs⟩ : ∃ o, ao = some ⟨g, o, none⟩ ∧ ∀ j, j < zs.length → w.cell? ⟨g, o + j, none⟩ = some (.int .u8 (zs.getD j 0)) := by
    rcases hrow with h | h
    · rw [h] at hl; simp at hl; omega
    · exact h
  have hc0 : w.cell? ⟨X, 0, none⟩ = some (.slice (some ⟨g, o, none⟩) zs.length cap) := cell_of3 hb
  have hc1 : w.cell? ⟨X, 1, none⟩ = some (.int .i64 P) := cell_of3 hb
  have hc2 : w.cell? ⟨X, 2, none⟩ = some (.int .i64 0) := cell_of3 hb
  have hf1 := free_of_two (j := 1) hb
  have HB := hide hb
  have HC := hide hcs
  have HG := hide hg
  have HZ : Hid (((zs.drop P).take n).length = n) := by show _ = _; simp; omega
  clear hb hcs hg
  generalize hL : zs.length = m at *
  have HL := hide hL
  clear hL
  have hd : ¬ ((m : Int) - (P : Int) < (n : Int)) := by omega
  go_enter Tryz.func74, Tryz.ntmps74
  go_wp2_with fail
  go_quiet (fail)
  go_wp2
  have hb' : ((w.drewN nq).setCell ⟨X, 1, none⟩ (.int .i64 ((P : Int) + (n : Int)))).heap[X]? = some (.cells #[.slice (some ⟨g, o, none⟩) m cap, .int .i64 ((P : Int) + (n : Int)), .int .i64 0] 128 (0, 0)) := xthree_set1 (unhide HB)
  have hk : Kp [X] w ((w.drewN nq).setCell ⟨X, 1, none⟩ (.int .i64 ((P : Int) + (n : Int)))) := ((Kp.refl _ _).drewN _).setCell _ _ (by simp)
  generalize (w.drewN nq).setCell ⟨X, 1, none⟩ (.int .i64 ((P : Int) + (n : Int))) = W at *
  have hd0 : W.cell? ⟨X, 0, none⟩ = some (.slice (some ⟨g, o, none⟩) m cap) := cell_of3 hb'
  have hd1 : W.cell? ⟨X, 1, none⟩ = some (.int .i64 ((P : Int) + (n : Int))) := cell_of3 hb'
  have HB' := hide hb'
  have HK := hide hk
  clear hb' hk hc0 hc1 hc2 hf1
  go_quiet (fail)
  go_wp2
  rw [show P + n - P = n from by omega]
  go_ret
  have hk2 : Kp [X] w (W.drewN nq) := (unhide HK).drewN _
  refine ⟨_, _, rfl, .inr ⟨o + P, rfl, fun j hj => ?_⟩, ⟨?_, hrow.keep hk2 (by simpa using hg'), unhide HG, by rw [unhide HL]; omega, by rw [unhide HL]; exact hc, by rw [unhide HL]; exact hn⟩, hk2⟩
  · rw [unhide HZ] at hj
    have := unhide HC (P + j) (by omega)
    have h2 := hk2.cell this (by simpa using hg')
    rw [Nat.add_assoc, h2]
    simp [List.getD_eq_getElem?_getD, hj]
  · rw [unhide HL, Int.natCast_add]
    exact unhide HB'

theorem xtake_no (X g : Nat) (ao : Option Addr) (cap : Nat) (zs : List Int) (P n : Nat) (e : Int) (w : World) (hx : Xd w X g ao cap zs P e) (hn8 : n ≤ 8) (hl : e ≠ 0 ∨ zs.length < P + n) :
    Calls Tryz.prog 74 #[.pointer (some ⟨X, 0, none⟩), .int .i64 n] w fun x w' => x = .returned (.slice none 0 0) ∧ Xd w' X g ao cap zs P (if e = 0 then 3 else e) ∧ Kp [X] w w' := by
  obtain ⟨hb, hrow, hg, hp, hc, hn⟩ := hx
  have hc0 : w.cell? ⟨X, 0, none⟩ = some (.slice ao zs.length cap) := cell_of3 hb
  have hc1 : w.cell? ⟨X, 1, none⟩ = some (.int .i64 P) := cell_of3 hb
  have hc2 : w.cell? ⟨X, 2, none⟩ = some (.int .i64 e) := cell_of3 hb
  have hf2 := free_of_two (j := 2) hb
  have HB := hide hb
  have HW := hide hrow
  clear hb hrow
  by_cases he : e = 0
  · subst he
    simp only [if_pos]
    have hl' : zs.length < P + n := by rcases hl with h | h; exact absurd rfl h; exact h
    clear hl
    generalize hL : zs.length = m at *
    have HL := hide hL
    clear hL
    have hd : ((m : Int) - (P : Int) < (n : Int)) := by omega
    go_enter Tryz.func74, Tryz.ntmps74
    go_wp2_with fail
    go_quiet (fail)
    go_wp2
    go_ret
    have hk : Kp [X] w ((w.drewN nq).setCell ⟨X, 2, none⟩ (.int .i64 3)) := ((Kp.refl _ _).drewN _).setCell _ _ (by simp)
    refine ⟨rfl, ⟨?_, ?_, hg, by rw [unhide HL]; exact hp, by rw [unhide HL]; exact hc, by rw [unhide HL]; exact hn⟩, hk⟩
    · rw [unhide HL]; exact xthree_set2 (unhide HB)
    rcases hg with h | h
    · exact .inl h
    · exact (unhide HW).keep hk (by simpa using h)
  · simp only [if_neg he]
    have he1 : (e == 0) = false := beq_eq_false_iff_ne.2 he
    have he2 : (e != 0) = true := by rw [bne_iff_ne]; exact he
    clear he hl
    generalize hL : zs.length = m at *
    have HL := hide hL
    clear hL
    go_enter Tryz.func74, Tryz.ntmps74
    go_wp2_with fail
    go_quiet (fail)
    go_wp2
    go_ret
    have hk : Kp [X] w (w.drewN nq) := (Kp.refl _ _).drewN _
    refine ⟨rfl, ⟨?_, unhide HW, hg, by rw [unhide HL]; exact hp, by rw [unhide HL]; exact hc, by rw [unhide HL]; exact hn⟩, hk⟩
    rw [unhide HL]; exact unhide HB

/-- One byte more ahead. -/
theorem or_ahead (V b : Int) (k : Nat) (hk : k < 8) (h0 : 0 ≤ V) (h1 : V < 256 ^ k) (hb0 : 0 ≤ b) (hb1 : b ≤ 255) :
    bits BinOp.or IntKind.u64 (IntKind.u64.wrap (V * 256)) b = b + 256 * V := by
  have hp : (256 : Int) ^ k ≤ 256 ^ 7 := by
    have : (256 : Nat) ^ k ≤ 256 ^ 7 := Nat.pow_le_pow_right (by omega) (by omega)
    have h2 : ((256 ^ k : Nat) : Int) ≤ ((256 ^ 7 : Nat) : Int) := by omega
    simpa using h2
  have h7 : (256 : Int) ^ 7 = 72057594037927936 := by decide
  rw [IntWalk.u64_in _ ⟨by omega, by omega⟩]
  obtain ⟨v, rfl⟩ := Int.eq_ofNat_of_zero_le h0
  obtain ⟨c, rfl⟩ := Int.eq_ofNat_of_zero_le hb0
  have e : ((v : Nat) : Int) * 256 = ((2 ^ 8 * v : Nat) : Int) := by omega
  rw [e, bits_or_u64_nat (2 ^ 8 * v) c (by omega) (by omega), ← Nat.two_pow_add_eq_or_of_lt (by omega)]
  omega

theorem le_drop (zs : List Int) (k : Nat) (h : k < zs.length) : le (zs.drop k) = zs.getD k 0 + 256 * le (zs.drop (k + 1)) := by
  rw [List.drop_eq_getElem_cons h, le, List.getD_eq_getElem?_getD, List.getElem?_eq_getElem h]
  rfl

theorem rest_cut (zs : List Int) (P n : Nat) (e : Int) (h : e ≠ 0 ∨ zs.length < P + n) (hn : 1 ≤ n) :
    rdV n (rest zs P e) = 0 ∧ ∃ e', (if e = 0 then 3 else e) = e' ∧ rdE n (rest zs P e) e = e' ∧ rest zs P e' = rdZ n (rest zs P e) e := by
  have hc : ¬ n ≤ (rest zs P e).length := by
    unfold rest
    split
    · simp only [List.length_drop]; omega
    · simp only [List.length_nil]; omega
  refine ⟨by unfold rdV; rw [if_neg hc], _, rfl, by unfold rdE; rw [if_neg hc], ?_⟩
  unfold rdZ
  rw [if_neg hc]
  by_cases he : e = 0
  · simp [he, rest]
  · simp [he, rest]

/-- What follows the call of take in Int: the loop over what was taken. -/
theorem xint_any (X g : Nat) (ao : Option Addr) (cap : Nat) (zs : List Int) (P : Nat) (e : Int) (w : World) (hb : Byt zs) (hx : Xd w X g ao cap zs P e) :
    Calls Tryz.prog 42 #[.pointer (some ⟨X, 0, none⟩)] w fun x w' => x = .returned (.int .i64 (rdV 8 (rest zs P e))) ∧
      (∃ P', Xd w' X g ao cap zs P' (rdE 8 (rest zs P e) e) ∧ rest zs P' (rdE 8 (rest zs P e) e) = rdZ 8 (rest zs P e) e) ∧ Kp [X] w w' := by
  have HB := hide hb
  have HX := hide hx
  have hP := hx.2.2.2.1
  clear hb hx
  by_cases hl : e = 0 ∧ P + 8 ≤ zs.length
  · obtain ⟨rfl, hl⟩ := hl
    have h8 : 8 ≤ (zs.drop P).length := by simp; omega
    have HV : Hid (rdV 8 (rest zs P 0) = wrap64 (le ((zs.drop P).take 8))) := by show _ = _; simp only [rest, if_pos, rdV, h8]
    have HE : Hid (rdE 8 (rest zs P 0) 0 = 0) := by show _ = _; simp only [rest, if_pos, rdE, h8]
    have HZ : Hid (rest zs (P + 8) 0 = rdZ 8 (rest zs P 0) 0) := by show _ = _; simp only [rest, if_pos, rdZ, h8, List.drop_drop]
    rw [unhide HV, unhide HE]
    clear HV HE
    have HL : Hid (((zs.drop P).take 8).length = 8) := by show _ = _; simp; omega
    have HY : Hid (Byt ((zs.drop P).take 8)) := fun z hz => unhide HB z (List.mem_of_mem_drop (List.mem_of_mem_take hz))
    obtain ⟨bs, hbs⟩ : ∃ bs, (zs.drop P).take 8 = bs := ⟨_, rfl⟩
    rw [hbs] at HL HY ⊢
    have HBS := hide hbs
    clear hbs
    go_enter Tryz.func42, Tryz.ntmps42
    go_wp2_with fail
    refine (xtake_ok X g ao cap zs P 8 w (unhide HX) (by omega) (by omega) hl).mono ?_
    rintro x w1 ⟨ao', c', rfl, hrow, hx1, hk1⟩
    rw [unhide HBS] at hrow
    obtain ⟨o, rfl, hcs⟩ : ∃ o, ao' = some ⟨g, o, none⟩ ∧ ∀ j, j < bs.length → w1.cell? ⟨g, o + j, none⟩ = some (.int .u8 (bs.getD j 0)) := by
      rcases hrow with h | h
      · have := unhide HL; rw [h] at this; simp at this
      · exact h
    have HC := hide hcs
    have HX1 := hide hx1
    have HK1 := hide hk1
    clear hrow hx1 hk1 hcs HX HB h8
    go_wp2_with fail
    go_loop [3, 5] (fun u i => ∃ k : Nat, k ≤ 8 ∧ i = .int .i64 ((k : Int) - 1) ∧ u = .int .u64 (le (bs.drop k))) (fun _ i => (intOf i + 1).toNat)
    case atStart => exact ⟨8, by omega, rfl, by rw [List.drop_eq_nil_of_le (by rw [unhide HL]; omega)]; rfl⟩
    case round =>
      obtain ⟨k, hk, rfl, rfl⟩ := hrel
      have hbd := le_bound (bs.drop k) (fun z hz => unhide HY z (List.mem_of_mem_drop hz))
      have hlk : (bs.drop k).length = 8 - k := by rw [List.length_drop, unhide HL]
      rw [hlk] at hbd
      cases k with
      | zero =>
        rw [List.drop_zero] at *
        generalize hV : le bs = V at *
        have HV := hide hV
        have HBD := hide hbd
        clear hV hbd
        have hm : ((0 : Nat) : Int) - 1 = -1 := by omega
        rw [hm]
        go_wp2
        go_ret
        exact ⟨by rw [unhide HV]; rfl, ⟨_, unhide HX1, unhide HZ⟩, unhide HK1⟩
      | succ k =>
        have hle := le_drop bs k (by rw [unhide HL]; omega)
        have hcell := unhide HC k (by rw [unhide HL]; omega)
        have hbb := (unhide HY).getD k
        generalize hV : le (bs.drop (k + 1)) = V at *
        generalize hz : bs.getD k 0 = z at *
        have HBD := hide hbd
        have HLE := hide hle
        clear hV hz hbd hle hlk
        obtain ⟨hz0, hz1⟩ := hbb
        have hm : ((k + 1 : Nat) : Int) - 1 = (k : Int) := by omega
        rw [hm]
        have hV0 : 0 ≤ V := (unhide HBD).1
        go_wp2
        go_round
        case rel => exact ⟨k, by omega, rfl, by rw [unhide HLE, or_ahead V z (8 - (k + 1)) (by omega) hV0 (unhide HBD).2 hz0 hz1]⟩
        case measure => simp [intOf]
  · have hno : e ≠ 0 ∨ zs.length < P + 8 := by omega
    obtain ⟨hv, e', he', hE, hz⟩ := rest_cut zs P 8 e hno (by omega)
    rw [hv, hE]
    have HE := hide he'
    have HZ := hide hz
    clear hv he' hE hz hl
    go_enter Tryz.func42, Tryz.ntmps42
    go_wp2_with fail
    refine (xtake_no X g ao cap zs P 8 e w (unhide HX) (by omega) hno).mono ?_
    rintro x w1 ⟨rfl, hx1, hk1⟩
    rw [unhide HE] at hx1
    have HX1 := hide hx1
    have HK1 := hide hk1
    clear hx1 hk1 HX HB hno
    go_wp2_with fail
    refine wp_loop_rounds 1 ?_
    rw [rounds_succ]
    go_wp2
    go_ret
    exact ⟨rfl, ⟨_, unhide HX1, unhide HZ⟩, unhide HK1⟩

theorem xbyte_any (X g : Nat) (ao : Option Addr) (cap : Nat) (zs : List Int) (P : Nat) (e : Int) (w : World) (hb : Byt zs) (hx : Xd w X g ao cap zs P e) :
    Calls Tryz.prog 43 #[.pointer (some ⟨X, 0, none⟩)] w fun x w' => x = .returned (.int .i64 (rdV 1 (rest zs P e))) ∧
      (∃ P', Xd w' X g ao cap zs P' (rdE 1 (rest zs P e) e) ∧ rest zs P' (rdE 1 (rest zs P e) e) = rdZ 1 (rest zs P e) e) ∧ Kp [X] w w' := by
  have HB := hide hb
  have HX := hide hx
  have hP := hx.2.2.2.1
  clear hb hx
  by_cases hl : e = 0 ∧ P + 1 ≤ zs.length
  · obtain ⟨rfl, hl⟩ := hl
    have h8 : 1 ≤ (zs.drop P).length := by simp; omega
    have hbb := (unhide HB).getD P
    have HV : Hid (rdV 1 (rest zs P 0) = zs.getD P 0) := by
      show _ = _
      simp only [rest, if_pos, rdV, h8]
      have e1 : (zs.drop P).take 1 = [zs.getD P 0] := by
        rw [List.drop_eq_getElem_cons (by omega), List.getD_eq_getElem?_getD, List.getElem?_eq_getElem (by omega)]
        rfl
      rw [e1, le, le, Int.mul_zero, Int.add_zero, IntWalk.wrap64_in _ ⟨by omega, by omega⟩]
    have HE : Hid (rdE 1 (rest zs P 0) 0 = 0) := by show _ = _; simp only [rest, if_pos, rdE, h8]
    have HZ : Hid (rest zs (P + 1) 0 = rdZ 1 (rest zs P 0) 0) := by show _ = _; simp only [rest, if_pos, rdZ, h8, List.drop_drop]
    rw [unhide HV, unhide HE]
    clear HV HE
    have HL : Hid (((zs.drop P).take 1).length = 1) := by show _ = _; simp; omega
    generalize hz : zs.getD P 0 = z at *
    have HG := hide hz
    clear hz
    obtain ⟨hz0, hz1⟩ := hbb
    go_enter Tryz.func43, Tryz.ntmps43
    go_wp2_with fail
    refine (xtake_ok X g ao cap zs P 1 w (unhide HX) (by omega) (by omega) hl).mono ?_
    rintro x w1 ⟨ao', c', rfl, hrow, hx1, hk1⟩
    obtain ⟨o, rfl, hcs⟩ : ∃ o, ao' = some ⟨g, o, none⟩ ∧ w1.cell? ⟨g, o, none⟩ = some (.int .u8 z) := by
      rcases hrow with h | ⟨o, rfl, h⟩
      · have := unhide HL; rw [h] at this; simp at this
      · refine ⟨o, rfl, ?_⟩
        have := h 0 (by rw [unhide HL]; omega)
        rw [Nat.add_zero] at this
        rw [this, ← unhide HG]
        simp [List.getD_eq_getElem?_getD]
    have HX1 := hide hx1
    have HK1 := hide hk1
    clear hrow hx1 hk1 HX HB h8
    go_wp2
    go_ret
    exact ⟨rfl, ⟨_, unhide HX1, unhide HZ⟩, unhide HK1⟩
  · have hno : e ≠ 0 ∨ zs.length < P + 1 := by omega
    obtain ⟨hv, e', he', hE, hz⟩ := rest_cut zs P 1 e hno (by omega)
    rw [hv, hE]
    have HE := hide he'
    have HZ := hide hz
    clear hv he' hE hz hl
    go_enter Tryz.func43, Tryz.ntmps43
    go_wp2_with fail
    refine (xtake_no X g ao cap zs P 1 e w (unhide HX) (by omega) hno).mono ?_
    rintro x w1 ⟨rfl, hx1, hk1⟩
    rw [unhide HE] at hx1
    have HX1 := hide hx1
    have HK1 := hide hk1
    clear hx1 hk1 HX HB hno
    go_wp2
    go_ret
    exact ⟨rfl, ⟨_, unhide HX1, unhide HZ⟩, unhide HK1⟩

end Go.Proofs.YtjdikhelabibnaaGreat
