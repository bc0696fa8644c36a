/-
  
-/
import Derived.Test.YtjdikhelabibnaaGreatMbd
import Derived.Test.YtjdikhelabibnaaGreatMaw
import Derived.Test.YtjdikhelabibnaaGreatMam
namespace Go.Proofs.YtjdikhelabibnaaGreat
open Go Go.RowKit Go.Shelf
def pages0 : Array Value := #[.int .i64 0, .slice none 0 0, .int .i64 0, .slice none 0 0, .int .i64 0, .slice none 0 0, .int .i64 0, .slice none 0 0, .int .i64 0, .slice none 0 0, .int .i64 0, .slice none 0 0]
theorem run_pages0 (w : World) : (Instr.makeSlice 40 (.int .i64 6) (.int .i64 6)).run Tryz.prog w = .ok (.slice (some ⟨w.heap.size, 0, none⟩) 6 6) (w.alloc (.cells pages0 49)) := by
 obtain ⟨i0, hi0, hz0, hz1, hz2⟩ := info_parts infoTP
 have h := run_make (P := Tryz.prog) w 40 49 i0 _ Tryz.underlying40 hi0 hz0 .i64 .i64 6 6 (by omega) (by omega) (by rw [hz2]; omega) (by omega)
 rw [hz1, show madeCells (Value.cells (.agg #[.int .i64 0, .slice none 0 0])) ((6 : Int).toNat * 2) = pages0 from by kernel_rfl] at h
 exact h
theorem arg_pages0 (w : World) : PgArg (w.alloc (.cells pages0 49)) (.slice (some ⟨w.heap.size, 0, none⟩) 6 6) w.heap.size (List.replicate 6 zPV) := by
 refine ⟨⟨_, 6, rfl, by simp, by unfold maxLen; omega, (fun h => by cases h), fun _ => ⟨0, rfl, fun i hi j v hv => ?_⟩⟩, fun p hp => ?_⟩
 ·simp only [List.length_replicate] at hi
  rw [List.getD_eq_getElem?_getD, List.getElem?_replicate, if_pos hi] at hv
  refine cell_blk (World.alloc_heap_new w _) ?_
  rw [Nat.zero_add]
  have hj : j < 2 := (List.getElem?_eq_some_iff.1 hv).1
  rw [← hv]
  rcases (show i = 0 ∨ i = 1 ∨ i = 2 ∨ i = 3 ∨ i = 4 ∨ i = 5 from by omega) with rfl | rfl | rfl | rfl | rfl | rfl <;> rcases (show j = 0 ∨ j = 1 from by omega) with rfl | rfl <;> rfl
 rw [(List.mem_replicate.1 hp).2]; exact zPV_ok _
theorem decF_pages0 : decF 0 0 (List.replicate 6 zPV) 1 = (zRow, 2) := by
 unfold decF
 rw [if_neg (by simp), if_pos (by simp [zPV])]
set_option maxRecDepth 100000 in
set_option maxHeartbeats 8000000 in
theorem known11_any (w : World) : Calls Tryz.prog 9 #[] w fun e w' => e = .returned (.bool true) ∧ Below w.heap.size w w' := by
 have hmk := run_pages0
 go_enter Tryz.func9, Tryz.ntmps9
 go_wp2_with fail
 have h0 := (Below.refl w.heap.size w).alloc (Nat.le_refl _) (.cells pages0 49)
 refine (dec11_any 0 0 (some ⟨w.heap.size, 0, none⟩) 6 6 w.heap.size (List.replicate 6 zPV) 1 (fun i => by rw [List.getD_eq_getElem?_getD, List.getElem?_replicate]; split <;> simp [zPV]) _ (arg_pages0 w)).mono ?_
 rintro x w2 ⟨hB, v, hx, ⟨sv, g, hv, hE, -⟩⟩
 rw [decF_pages0] at hx hv hE
 obtain ⟨ao, c, hs, -⟩ := hE.ex
 subst hs
 subst hv
 subst hx
 have HB := hide (h0.trans (hB.mono (Nat.le_of_lt (by simp))))
 clear h0 hB hE
 dsimp only [zRow]
 go_wp2_with fail
 refine (enc11_any 6 1 0 0 none 0 0 0 [] _ (EArg.nil _)).mono ?_
 rintro x w3 ⟨hB3, h3⟩
 rcases h3 with ⟨-, v3, ps, rfl, hO⟩ | ⟨h3, -⟩
 rotate_left 1
 ·exact absurd ⟨by omega, by unfold okH; omega, by simp, by intro e he; simp at he⟩ h3
 obtain ⟨g3, c3, rfl, -⟩ := hO.some (encL_len _ _ _ _ _) (by omega)
 have h1 := (Below.refl w2.heap.size w2).alloc (Nat.le_refl _) (.cells #[.int .i64 0, .int .i64 0, .slice ao 0 c] 37)
 have HB3 := hide ((uh HB).trans ((h1.trans (hB3.mono (Nat.le_of_lt (by simp)))).mono (uh HB).size))
 clear hB3 hO h1
 simp only [show ((6 : Int) - 2).toNat + 2 = 6 from rfl]
 go_wp2_with fail
 go_ret
 exact ⟨rfl, uh HB3⟩
end Go.Proofs.YtjdikhelabibnaaGreat

namespace Go.Proofs.YtjdikhelabibnaaGreat
open Go Go.RowKit Go.Shelf
set_option maxRecDepth 100000 in
set_option maxHeartbeats 8000000 in
theorem started_any (ao : Option Addr) (n c g : Nat) (l : List PV) (w : World) (hL : PgArg w (.slice ao n c) g l) :
  Calls Tryz.prog 38 #[.slice ao n c] w fun e w' => e = .returned (.bool (l.any (fun p => !(p.st == 0)))) ∧ w' = w := by
 obtain ⟨ao', c', hv, hnc, hcm, -, hr⟩ := hL.ex
 obtain ⟨rfl, hnl, rfl⟩ : ao = ao' ∧ n = l.length ∧ c = c' := by cases hv; exact ⟨rfl, rfl, rfl⟩
 have HNL := hide hnl
 have HR := hide hr
 have hnm : (n : Int) ≤ 9223372036854775807 := by unfold maxLen at hcm; omega
 clear hv hr hL hnl hnc hcm
 go_enter Tryz.func38, Tryz.ntmps38
 go_wp2_with fail
 go_loopw [3] (fun i wr => ∃ (k : Nat), k ≤ n ∧ i = .int .i64 k ∧ wr = w ∧ ∀ j, j < k → (l.getD j zPV).st = 0) (fun i _ => n - (intOf i).toNat)
 case atStart => exact ⟨0, by omega, rfl, rfl, by omega⟩
 case round =>
  obtain ⟨k, hkn, rfl, rfl, hz⟩ := hrel
  have HZ := hide hz
  clear hz
  by_cases hlt : k < n
  ·have hi1 : (k : Int) < (n : Int) := by omega
   have hlt2 : k < l.length := by rw [← uh HNL]; exact hlt
   obtain ⟨o, rfl, hcl⟩ := (uh HR) (fun h => by rw [h] at hlt2; simp at hlt2)
   have hc : wr.cell? ⟨g, o + k * 2, none⟩ = some (.int .i64 (l.getD k zPV).st) := hcl k hlt2 0 _ rfl
   clear hcl
   by_cases hs : (l.getD k zPV).st = 0
   ·rw [hs] at hc
    have HS := hide hs
    clear hs hlt2
    go_wp2_with fail
    go_roundw
    case rel => exact ⟨k + 1, by omega, by go_num, trivial, fun j hj => by
     by_cases e : j = k
     ·rw [e]; exact uh HS
     exact uh HZ j (by omega)⟩
    case measure => simp [intOf]; omega
   have HF : Hid (l.any (fun p => !(p.st == 0)) = true) := by
    show _ = true
    rw [List.any_eq_true]
    exact ⟨_, getD_mem11 (z := zPV) hlt2, by simpa using hs⟩
   obtain ⟨s, hse⟩ : ∃ s, (l.getD k zPV).st = s := ⟨_, rfl⟩
   rw [hse] at hc hs
   clear hse hlt2
   go_wp2_with fail
   go_ret
   rw [uh HF]
   exact ⟨rfl, rfl⟩
  have hi1 : (n : Int) ≤ (k : Int) := by omega
  have HF : Hid (l.any (fun p => !(p.st == 0)) = false) := by
   show _ = false
   rw [List.any_eq_false]
   intro p hp
   obtain ⟨i, hi, he⟩ := mem_getD11 (z := zPV) hp
   have := uh HZ i (by have := uh HNL; omega)
   rw [he] at this
   simp [this]
  go_wp2_with fail
  go_ret
  rw [uh HF]
  exact ⟨rfl, rfl⟩
def sameRV (a b : RowV) : Prop := a.se = b.se ∧ a.at' = b.at' ∧ a.sl = b.sl
theorem ev_eq {a b : EV} : a = b ↔ (decide (a.k = b.k) && (decide (a.l = b.l) && (decide (a.s = b.s) && decide (a.d = b.d)))) = true := by
 obtain ⟨k, l, s, d⟩ := a
 obtain ⟨k', l', s', d'⟩ := b
 simp
set_option maxRecDepth 100000 in
set_option maxHeartbeats 16000000 in
theorem samerow_any (x x' : RowV) (ao ao' : Option Addr) (n n' c c' g g' : Nat) (w : World) (h : EArg w (.slice ao n c) g x.sl) (h' : EArg w (.slice ao' n' c') g' x'.sl) (r : Bool) (hr : r = true ↔ sameRV x x') :
  Calls Tryz.prog 18 #[.agg #[.int .i64 x.se, .int .i64 x.at', .slice ao n c], .agg #[.int .i64 x'.se, .int .i64 x'.at', .slice ao' n' c']] w fun e w' => e = .returned (.bool r) ∧ Below w.heap.size w w' := by
 obtain ⟨s, a, l⟩ := x
 obtain ⟨s', a', l'⟩ := x'
 dsimp only at h h' hr ⊢
 obtain ⟨ao1, c1, hv, hnc, hcm, -, hrw⟩ := h.ex
 obtain ⟨rfl, hnl, rfl⟩ : ao = ao1 ∧ n = l.length ∧ c = c1 := by cases hv; exact ⟨rfl, rfl, rfl⟩
 obtain ⟨ao2, c2, hv', hnc', hcm', -, hrw'⟩ := h'.ex
 obtain ⟨rfl, hnl', rfl⟩ : ao' = ao2 ∧ n' = l'.length ∧ c' = c2 := by cases hv'; exact ⟨rfl, rfl, rfl⟩
 have HOK : Hid (∀ i, (l.getD i zEV).Ok) := h.get_ok
 have HOK' : Hid (∀ i, (l'.getD i zEV).Ok) := h'.get_ok
 have HN := hide hnl
 have HN' := hide hnl'
 have HRW := hide hrw
 have HRW' := hide hrw'
 have hb1 : (n : Int) ≤ 9223372036854775807 := by unfold maxLen at hcm; omega
 have hb2 : (n' : Int) ≤ 9223372036854775807 := by unfold maxLen at hcm'; omega
 have HG : Hid (l ≠ [] → g < w.heap.size) := h.lt
 have HG' : Hid (l' ≠ [] → g' < w.heap.size) := h'.lt
 clear hv hv' hnl hnl' hrw hrw' h h' hcm hcm' hnc hnc'
 have HF : Hid (¬ (s = s' ∧ a = a' ∧ n = n') → r = false) := fun hn => by
  cases r
  ·rfl
  obtain ⟨h1, h2, h3⟩ := hr.1 rfl
  exact absurd ⟨h1, h2, by rw [uh HN, uh HN']; exact congrArg List.length h3⟩ hn
 have HRR := hide hr
 clear hr
 by_cases h1 : s = s'
 rotate_left 1
 ·have := uh HF (fun h => h1 h.1)
  subst this
  have hne : (s != s') = true := by simpa using h1
  go_enter Tryz.func18, Tryz.ntmps18
  go_wp2_with fail
  go_ret
  exact ⟨rfl, ((Below.refl _ w).alloc (Nat.le_refl _) _).alloc (by simp) _⟩
 by_cases h2 : a = a'
 rotate_left 1
 ·have := uh HF (fun h => h2 h.2.1)
  subst this
  subst h1
  have hne : (a != a') = true := by simpa using h2
  have hnf : (s != s) = false := by simp
  go_enter Tryz.func18, Tryz.ntmps18
  go_wp2_with fail
  go_ret
  exact ⟨rfl, ((Below.refl _ w).alloc (Nat.le_refl _) _).alloc (by simp) _⟩
 by_cases h3 : n = n'
 rotate_left 1
 ·have := uh HF (fun h => h3 h.2.2)
  subst this
  subst h1
  subst h2
  have hne : ((n : Int) != (n' : Int)) = true := by rw [bne_iff_ne]; omega
  have hnf : (s != s) = false := by simp
  have hnf2 : (a != a) = false := by simp
  go_enter Tryz.func18, Tryz.ntmps18
  go_wp2_with fail
  go_ret
  exact ⟨rfl, ((Below.refl _ w).alloc (Nat.le_refl _) _).alloc (by simp) _⟩
 subst h1
 subst h2
 subst h3
 clear HF
 have hnf : (s != s) = false := by simp
 have hnf2 : (a != a) = false := by simp
 have hnf3 : ((n : Int) != (n : Int)) = false := by simp
 go_enter Tryz.func18, Tryz.ntmps18
 go_wp2_with fail
 obtain ⟨w1, hw1⟩ : ∃ w1, (w.alloc (.cells #[.int .i64 s, .int .i64 a, .slice ao n c] 37)).alloc (.cells #[.int .i64 s, .int .i64 a, .slice ao' n c'] 37) = w1 := ⟨_, rfl⟩
 have Q1 : Hid (RwAt w1 w.heap.size s a (.slice ao n c)) := ⟨by rw [← hw1]; exact (Below.heap_alloc _ _ _ (by simp)).trans (World.alloc_heap_new w _)⟩
 have Q2 : Hid (RwAt w1 (w.heap.size + 1) s a (.slice ao' n c')) := ⟨by
  have h := World.alloc_heap_new (w.alloc (.cells #[.int .i64 s, .int .i64 a, .slice ao n c] 37)) (.cells #[.int .i64 s, .int .i64 a, .slice ao' n c'] 37)
  rw [World.size_alloc] at h
  rw [← hw1]; exact h⟩
 have HB : Hid (Below w.heap.size w w1) := by rw [← hw1]; exact ((Below.refl _ w).alloc (Nat.le_refl _) _).alloc (by simp) _
 rw [hw1]
 clear hw1 hnf hnf2 hnf3
 go_loopw [5] (fun i wr => ∃ (k : Nat), k ≤ n ∧ i = .int .i64 k ∧ Below w1.heap.size w1 wr ∧ ∀ j, j < k → l.getD j zEV = l'.getD j zEV) (fun i _ => n - (intOf i).toNat)
 case atStart => exact ⟨0, by omega, rfl, Below.refl _ _, by omega⟩
 case round =>
  obtain ⟨k, hkn, rfl, hB, hz⟩ := hrel
  have HZ := hide hz
  have HB2 := hide hB
  have q1 := (uh Q1).below hB
  have q2 := (uh Q2).below hB
  obtain ⟨-, -, hc1⟩ := q1.cells
  obtain ⟨-, -, hc2⟩ := q2.cells
  have H1 := hide q1
  have H2 := hide q2
  clear hz hB q1 q2
  by_cases hlt : k < n
  ·have hi1 : (k : Int) < (n : Int) := by omega
   have hl1 : k < l.length := by rw [← uh HN]; exact hlt
   have hl2 : k < l'.length := by rw [← uh HN']; exact hlt
   obtain ⟨o, rfl, hcl⟩ := (uh HRW) (fun h => by rw [h] at hl1; simp at hl1)
   obtain ⟨o', rfl, hcl'⟩ := (uh HRW') (fun h => by rw [h] at hl2; simp at hl2)
   have hbb := (uh HB).trans ((uh HB2).mono (uh HB).size)
   have HE1 : Hid (wr.rangeAt g (o + k * 19) (l.getD k zEV).cs) := fun j v hv => (hbb.cell (block_lt_of_cell (hcl k hl1 j v hv))).trans (hcl k hl1 j v hv)
   have HE2 : Hid (wr.rangeAt g' (o' + k * 19) (l'.getD k zEV).cs) := fun j v hv => (hbb.cell (block_lt_of_cell (hcl' k hl2 j v hv))).trans (hcl' k hl2 j v hv)
   have HL1 : Hid (g < wr.heap.size) := by have h1 := uh HG (fun h => by rw [h] at hl1; simp at hl1); have h2 := hbb.size; show _ < _; omega
   have HL2 : Hid (g' < wr.heap.size) := by have h1 := uh HG' (fun h => by rw [h] at hl2; simp at hl2); have h2 := hbb.size; show _ < _; omega
   clear hcl hcl' hbb hl1 hl2
   have ho1 := hide (uh HOK k)
   have ho2 := hide (uh HOK' k)
   obtain ⟨e, he⟩ : ∃ e, l.getD k zEV = e := ⟨_, rfl⟩
   obtain ⟨e', he'⟩ : ∃ e, l'.getD k zEV = e := ⟨_, rfl⟩
   rw [he] at HE1 ho1
   rw [he'] at HE2 ho2
   have HEE : Hid (l.getD k zEV = e ∧ l'.getD k zEV = e') := ⟨he, he'⟩
   clear he he'
   obtain ⟨q, hq⟩ : ∃ q, (!(decide (e.k = e'.k) && (decide (e.l = e'.l) && (decide (e.s = e'.s) && decide (e.d = e'.d))))) = q := ⟨_, rfl⟩
   have HNE : Hid (∀ W, (binOp .neq 44 (.agg e.ar) (.agg e'.ar)).run Tryz.prog W = .ok (.bool q) W) := fun W => neTE e.k e.l e.s e'.k e'.l e'.s e.d e'.d (uh ho1).len (uh ho2).len q hq W
   have HQ : Hid (q = false ↔ e = e') := by
    show _ ↔ _
    rw [ev_eq, ← hq]
    simp
   clear hq
   go_wp2_with fail
   refine wp_region_noPanic ?_
   refine wp_region_held_drew (S := fun W => Below wr.heap.size wr W) (by kernel_rfl) (Below.refl _ wr).drew (fun hHeld => ?_)
   have HH := hide hHeld
   clear hHeld
   refine tkL 0 (uh HH) ?_
   (try simp only [layB])
   refine takeL (i := 1) (v := .slice (some ⟨g, o, none⟩) n c) rfl (by kernel_rfl) (by kernel_rfl) (by kernel_rfl) (fun _ _ _ h => h) (Or.inl ⟨by rfl, ?_⟩) (uh HH) ?_
   ·intro W1 hSW; have hc := (hSW.cell (p := ⟨w.heap.size, 2, none⟩) (uh H1).lt).trans (uh H1).cells.2.2; clear hSW; go_simp; all_goals (with_reducible rfl)
   (try simp only [layB])
   refine tkL 2 (uh HH) ?_
   (try simp only [layB])
   refine tkL 3 (uh HH) ?_
   (try simp only [layB])
   refine takeL (i := 4) (v := .agg (e.ar)) rfl (by kernel_rfl) (by kernel_rfl) (by kernel_rfl) (fun _ _ _ h => h) (Or.inl ⟨by rfl, fun W1 hSW => run_load_agg9 rfl rfl (load_ev (fun j v hv => (hSW.cell (uh HL1)).trans (uh HE1 j v hv)) (uh ho1))⟩) (uh HH) ?_
   (try simp only [layB])
   refine tkL 5 (uh HH) ?_
   (try simp only [layB])
   refine takeL (i := 6) (v := .slice (some ⟨g', o', none⟩) n c') rfl (by kernel_rfl) (by kernel_rfl) (by kernel_rfl) (fun _ _ _ h => h) (Or.inl ⟨by rfl, ?_⟩) (uh HH) ?_
   ·intro W1 hSW; have hc := (hSW.cell (p := ⟨w.heap.size + 1, 2, none⟩) (uh H2).lt).trans (uh H2).cells.2.2; clear hSW; go_simp; all_goals (with_reducible rfl)
   (try simp only [layB])
   refine tkL 7 (uh HH) ?_
   (try simp only [layB])
   refine tkL 8 (uh HH) ?_
   (try simp only [layB])
   refine takeL (i := 9) (v := .agg (e'.ar)) rfl (by kernel_rfl) (by kernel_rfl) (by kernel_rfl) (fun _ _ _ h => h) (Or.inl ⟨by rfl, fun W1 hSW => run_load_agg9 rfl rfl (load_ev (fun j v hv => (hSW.cell (uh HL2)).trans (uh HE2 j v hv)) (uh ho2))⟩) (uh HH) ?_
   (try simp only [layB])
   refine takeL (i := 10) (v := .bool q) rfl (by kernel_rfl) (by kernel_rfl) (by kernel_rfl) (fun _ _ _ h => h) (Or.inl ⟨by rfl, fun W1 hSW => run_bin11 rfl rfl rfl (guard_TE _ _ _ _ _ _) (uh HNE W1)⟩) (uh HH) ?_
   (try simp only [layB])
   refine wpAnyH_done (by kernel_rfl) ?_ _
   refine NoPanic.normal ?_
   cases q with
   | false =>
    go_wp2_with fail
    go_roundw
    case rel => exact ⟨k + 1, by omega, by go_num, (uh HB2).drew, fun j hj => by
     by_cases hjk : j = k
     ·rw [hjk, (uh HEE).1, (uh HEE).2]; exact (uh HQ).1 rfl
     exact uh HZ j (by omega)⟩
    case measure => simp [intOf]; omega
   | true =>
    go_wp2_with fail
    go_ret
    refine ⟨?_, (uh HB).trans ((uh HB2).drew.mono (uh HB).size)⟩
    cases r with
    | false => rfl
    | true =>
     have h3 : l = l' := ((uh HRR).1 rfl).2.2
     have h4 : e = e' := by rw [← (uh HEE).1, ← (uh HEE).2, h3]
     have h5 := (uh HQ).2 h4
     cases h5
  have hi1 : (n : Int) ≤ (k : Int) := by omega
  have HFIN : Hid (r = true) := by
   refine (uh HRR).2 ⟨rfl, rfl, ?_⟩
   refine List.ext_getElem (by rw [← uh HN, ← uh HN']) (fun i h1 h2 => ?_)
   have h1' : i < l.length := h1
   have := uh HZ i (by have h9 := uh HN; omega)
   rw [List.getD_eq_getElem?_getD, List.getD_eq_getElem?_getD, List.getElem?_eq_getElem h1, List.getElem?_eq_getElem h2] at this
   exact this
  go_wp2_with fail
  go_ret
  exact ⟨by rw [uh HFIN]; rfl, (uh HB).trans ((uh HB2).mono (uh HB).size)⟩
end Go.Proofs.YtjdikhelabibnaaGreat

namespace Go.Proofs.YtjdikhelabibnaaGreat
open Go Go.RowKit Go.Shelf
theorem build_TE0 (w : World) : (Instr.build 44 #[]).run Tryz.prog w = .ok (.agg zEV.ar) w := run_build w 44 _ _ (by kernel_rfl)
theorem zEV_okE : okE zEV.k zEV.l zEV.s zEV.d := ⟨⟨by decide, by decide⟩, fun h => absurd h (by decide), fun _ => ⟨rfl, rfl⟩, fun _ => rfl⟩
theorem okL_get {l : List EV} (h : okL l) (i : Nat) : okE (l.getD i zEV).k (l.getD i zEV).l (l.getD i zEV).s (l.getD i zEV).d := by
 by_cases hi : i < l.length
 ·exact h _ (getD_mem11 hi)
 rw [show l.getD i zEV = zEV by rw [List.getD_eq_getElem?_getD, List.getElem?_eq_none (by omega)]; rfl]; exact zEV_okE
theorem okL_of {l : List EV} (h : ∀ i, i < l.length → okE (l.getD i zEV).k (l.getD i zEV).l (l.getD i zEV).s (l.getD i zEV).d) : okL l := by
 intro e he
 obtain ⟨i, hi, h2⟩ := mem_getD11 (z := zEV) he
 rw [← h2]; exact h i hi
theorem new_ev11 {w w2 : World} {old : Array Value} (e : EV) (h : (w.alloc (.cells old 44)).setRow w.heap.size e.ar = w2) : EvAt w2 w.heap.size e ∧ Below w.heap.size w w2 ∧ w2.heap.size = w.heap.size + 1 := by
 subst h
 have h0 := World.alloc_heap_new w (.cells old 44)
 have hz : ((w.alloc (.cells old 44)).setRow w.heap.size e.ar).heap.size = (w.alloc (.cells old 44)).heap.size := by simp [World.setRow]
 exact ⟨⟨setRow_heap _ _ _ _ _ _ h0⟩, below_setRow11 ((Below.refl _ w).alloc (Nat.le_refl _) _) (Nat.le_refl _) _, by rw [hz]; simp⟩
theorem put_ev11 {w : World} {b : Nat} {e : EV} (e2 : EV) (h : EvAt w b e) : EvAt (w.setRow b e2.ar) b e2 ∧ Below b w (w.setRow b e2.ar) ∧ (w.setRow b e2.ar).heap.size = w.heap.size := by
 have h0 := h.blk
 exact ⟨⟨setRow_heap _ _ _ _ _ _ h0⟩, below_setRow11 (Below.refl _ w) (Nat.le_refl _) _, by simp [World.setRow]⟩
set_option maxRecDepth 100000 in
set_option maxHeartbeats 16000000 in
theorem renc11_any (n a b cc : Int) (ao : Option Addr) (m c g : Nat) (L : List EV) (w : World) (hL : EArg w (.slice ao m c) g L) :
  Calls Tryz.prog 13 #[.int .i64 n, .int .i64 a, .int .i64 b, .int .i64 cc, .slice ao m c] w fun e w' => EncR w w' e n a b cc L := by
 have HL := hide hL
 obtain ⟨hln, hmc, hcm, hrow⟩ := hL.mrow
 have HLN := hide hln
 have HRW := hide hrow
 have hmm : (m : Int) ≤ 9223372036854775807 := by unfold maxLen at hcm; omega
 clear hL hrow hln hmc hcm
 have HNO : Hid (¬ okRow n a b cc L → EncR w w (.returned (.tuple #[.slice none 0 0, .int .i64 1])) n a b cc L) := fun h => ⟨Below.refl _ _, .inr ⟨h, rfl⟩⟩
 by_cases q0 : n < 6
 ·have := uh HNO (fun h => by have := h.1.1; omega)
  have HX := hide this
  clear this
  go_enter Tryz.func13, Tryz.ntmps13
  go_wp2_with fail
  refine bodyPost_ret (results_tmp2 rfl _ _ _) rfl ?_
  exact uh HX
 replace q0 : 6 ≤ n := by omega
 by_cases q1 : 8 < n
 ·have := uh HNO (fun h => by have := h.1.2; omega)
  have HX := hide this
  clear this
  go_enter Tryz.func13, Tryz.ntmps13
  go_wp2_with fail
  refine bodyPost_ret (results_tmp2 rfl _ _ _) rfl ?_
  exact uh HX
 replace q1 : n ≤ 8 := by omega
 by_cases q2 : a < 1
 ·have := uh HNO (fun h => by have := h.2.1.1.1; omega)
  have HX := hide this
  clear this
  go_enter Tryz.func13, Tryz.ntmps13
  go_wp2_with fail
  refine bodyPost_ret (results_tmp2 rfl _ _ _) rfl ?_
  exact uh HX
 replace q2 : 1 ≤ a := by omega
 by_cases q3 : 1099511627776 < a
 ·have := uh HNO (fun h => by have := h.2.1.1.2; omega)
  have HX := hide this
  clear this
  go_enter Tryz.func13, Tryz.ntmps13
  go_wp2_with fail
  refine bodyPost_ret (results_tmp2 rfl _ _ _) rfl ?_
  exact uh HX
 replace q3 : a ≤ 1099511627776 := by omega
 by_cases q4 : b < 0
 ·have := uh HNO (fun h => by have := h.2.1.2.1.1; omega)
  have HX := hide this
  clear this
  go_enter Tryz.func13, Tryz.ntmps13
  go_wp2_with fail
  refine bodyPost_ret (results_tmp2 rfl _ _ _) rfl ?_
  exact uh HX
 replace q4 : 0 ≤ b := by omega
 by_cases q5 : 255 < b
 ·have := uh HNO (fun h => by have := h.2.1.2.1.2; omega)
  have HX := hide this
  clear this
  go_enter Tryz.func13, Tryz.ntmps13
  go_wp2_with fail
  refine bodyPost_ret (results_tmp2 rfl _ _ _) rfl ?_
  exact uh HX
 replace q5 : b ≤ 255 := by omega
 by_cases q6 : cc < 0
 ·have := uh HNO (fun h => by have := h.2.1.2.2.1; omega)
  have HX := hide this
  clear this
  go_enter Tryz.func13, Tryz.ntmps13
  go_wp2_with fail
  refine bodyPost_ret (results_tmp2 rfl _ _ _) rfl ?_
  exact uh HX
 replace q6 : 0 ≤ cc := by omega
 by_cases q7 : 255 < cc
 ·have := uh HNO (fun h => by have := h.2.1.2.2.2; omega)
  have HX := hide this
  clear this
  go_enter Tryz.func13, Tryz.ntmps13
  go_wp2_with fail
  refine bodyPost_ret (results_tmp2 rfl _ _ _) rfl ?_
  exact uh HX
 replace q7 : cc ≤ 255 := by omega
 obtain ⟨d, hd⟩ : ∃ d : Nat, n = (d : Int) + 2 := ⟨(n - 2).toNat, by omega⟩
 subst hd
 have hnn : (d : Int) + 2 - 2 = (d : Int) := by omega
 by_cases q8 : (d : Int) < (m : Int)
 ·have := uh HNO (fun h => by have h1 := h.2.2.1; rw [uh HLN] at h1; omega)
  have HX := hide this
  clear this
  go_enter Tryz.func13, Tryz.ntmps13
  go_wp2_with fail
  refine bodyPost_ret (results_tmp2 rfl _ _ _) rfl ?_
  exact uh HX
 replace q8 : (m : Int) ≤ (d : Int) := by omega
 have HOR : Hid (okL L → okRow ((d : Int) + 2) a b cc L) := fun h => ⟨⟨q0, q1⟩, ⟨⟨q2, q3⟩, ⟨q4, q5⟩, q6, q7⟩, by rw [uh HLN]; omega, h⟩
 have HNL : Hid (¬ okL L → ¬ okRow ((d : Int) + 2) a b cc L) := fun h h2 => h h2.2.2.2
 clear HNO
 have HQ8 := hide q8
 have hd4 : 4 ≤ d := by omega
 have hd6 : d ≤ 6 := by omega
 have hbt0 := build_TE0
 have z0 : decide ((d : Int) + 2 < 6) = false := decide_eq_false (by omega)
 have z1 : decide (8 < (d : Int) + 2) = false := decide_eq_false (by omega)
 have z2 : decide (a < 1) = false := decide_eq_false (by omega)
 have z3 : decide (1099511627776 < a) = false := decide_eq_false (by omega)
 have z4 : decide (b < 0) = false := decide_eq_false (by omega)
 have z5 : decide (255 < b) = false := decide_eq_false (by omega)
 have z6 : decide (cc < 0) = false := decide_eq_false (by omega)
 have z7 : decide (255 < cc) = false := decide_eq_false (by omega)
 have z8 : decide ((d : Int) < (m : Int)) = false := decide_eq_false (by omega)
 go_enter Tryz.func13, Tryz.ntmps13
 go_wp2_with fail
 rw [show decide (d < m) = false from decide_eq_false (by omega)]
 clear z0 z1 z2 z3 z4 z5 z6 z7 z8 q0 q1 q2 q3 q4 q5 q6 q7 q8
 go_loopw [12, 13] (fun v i wr => ∃ (k : Nat), k ≤ d ∧ i = .int .i64 k ∧ OwnQ w.heap.size wr v (dataL k a b cc L) ∧ Below w.heap.size w wr ∧ ∀ j, j < k → okE (L.getD j zEV).k (L.getD j zEV).l (L.getD j zEV).s (L.getD j zEV).d) (fun _ i _ => d - (intOf i).toNat)
 case atStart => exact ⟨0, by omega, rfl, OwnQ.nil _ _, Below.refl _ _, by omega⟩
 case round =>
  obtain ⟨k, hkd, rfl, hO, hB, hz⟩ := hrel
  obtain ⟨va, vn, vc, hv⟩ := hO.vshape
  subst hv
  have HO := hide hO
  have HB := hide hB
  have HZ := hide hz
  clear hO hB hz
  by_cases hlt : k < d
  ·have hi1 : (k : Int) < (d : Int) := by omega
   obtain ⟨W1, hW1⟩ : ∃ W, (wr.alloc (.cells #[.int .i64 0, .int .i64 0, .int .i64 0, .int .u8 0, .int .u8 0, .int .u8 0, .int .u8 0, .int .u8 0, .int .u8 0, .int .u8 0, .int .u8 0, .int .u8 0, .int .u8 0, .int .u8 0, .int .u8 0, .int .u8 0, .int .u8 0, .int .u8 0, .int .u8 0] 44)).setRow wr.heap.size zEV.ar = W := ⟨_, rfl⟩
   obtain ⟨n1, n2, n3⟩ := new_ev11 zEV hW1
   have HN0 := hide (World.alloc_heap_new wr (.cells #[.int .i64 0, .int .i64 0, .int .i64 0, .int .u8 0, .int .u8 0, .int .u8 0, .int .u8 0, .int .u8 0, .int .u8 0, .int .u8 0, .int .u8 0, .int .u8 0, .int .u8 0, .int .u8 0, .int .u8 0, .int .u8 0, .int .u8 0, .int .u8 0, .int .u8 0] 44))
   have HE1 := hide n1
   have HB1 := hide n2
   have HW1 := hide hW1
   have hz1 : wr.heap.size + 1 ≤ W1.heap.size := by omega
   have HOK := hide ((uh HL).get_ok k)
   clear n1 n2 n3 hW1
   by_cases hkm : k < m
   ·have hi2 : (k : Int) < (m : Int) := by omega
    have hlk : k < L.length := by rw [uh HLN]; exact hkm
    obtain ⟨o, rfl, hcl⟩ := (uh HRW).at (by omega)
    have HCL : Hid (W1.rangeAt g (o + k * 19) (L.getD k zEV).cs) := fun j v hv => (((uh HB).trans ((uh HB1).mono (uh HB).size)).cell (block_lt_of_cell (hcl k hkm j v hv))).trans (hcl k hkm j v hv)
    clear hcl
    obtain ⟨ev, he⟩ : ∃ ev, L.getD k zEV = ev := ⟨_, rfl⟩
    rw [he] at HCL HOK
    have HE := hide he
    obtain ⟨W2, hW2⟩ : ∃ W, W1.setRow wr.heap.size ev.ar = W := ⟨_, rfl⟩
    obtain ⟨n1, n2, n3⟩ := put_ev11 ev (uh HE1)
    rw [hW2] at n1 n2 n3
    have HE2 := hide n1
    have HB2 : Hid (Below wr.heap.size wr W2) := (uh HB1).trans n2
    have hz2 : wr.heap.size + 1 ≤ W2.heap.size := by omega
    have HW2 := hide hW2
    clear n1 n2 n3 hW2 he hlk
    go_wp2_with (first | (refine wpList_store_row rfl 44 _ _ rfl wr.heap.size zEV.ar rfl rfl 44 #[.int .i64 0, .int .i64 0, .int .i64 0, .int .u8 0, .int .u8 0, .int .u8 0, .int .u8 0, .int .u8 0, .int .u8 0, .int .u8 0, .int .u8 0, .int .u8 0, .int .u8 0, .int .u8 0, .int .u8 0, .int .u8 0, .int .u8 0, .int .u8 0, .int .u8 0] (uh HN0) (by rw [EV.ar_size zEV_ok]; kernel_rfl) (by rw [EV.ar_size zEV_ok]; rfl) (EV.ar_one _) ?_; rw [uh HW1]) | (refine wpList_load_mid rfl 44 _ rfl g (o + k * 19) rfl ev.cs _ (uh HCL) Tryz.underlying44 (by rfl) (by rw [sizeTE, EV.cs_len (uh HOK)]) ?_; rw [EV.cs_arr]) | (refine wpList_store_row rfl 44 _ _ rfl wr.heap.size ev.ar rfl rfl 44 zEV.ar (uh HE1).blk (by rw [EV.ar_size (uh HOK)]; kernel_rfl) (by rw [EV.ar_size (uh HOK), EV.ar_size zEV_ok]) (EV.ar_one _) ?_; rw [uh HW2]) | (refine wpList_load_mid rfl 44 _ rfl wr.heap.size 0 rfl ev.cs _ (uh HE2).range Tryz.underlying44 (by rfl) (by rw [sizeTE, EV.cs_len (uh HOK)]) ?_; rw [EV.cs_arr]))
    refine (rcheckE_any ev.k ev.l ev.s ev.d (uh HOK).len W2).mono ?_
    rintro x W3 ⟨rfl, hk3⟩
    have HB3 : Hid (Below wr.heap.size wr W3) := (uh HB2).trans (hk3.mono (uh HB2).size)
    have HE3 := hide ((uh HE2).below hk3)
    have hz3 : wr.heap.size + 1 ≤ W3.heap.size := by have := hk3.size; omega
    clear hk3
    by_cases hok : okE ev.k ev.l ev.s ev.d
    rotate_left 1
    ·have HX : Hid (EncR w W3 (.returned (.tuple #[.slice none 0 0, .int .i64 1])) ((d : Int) + 2) a b cc L) := ⟨(uh HB).trans ((uh HB3).mono (uh HB).size), .inr ⟨uh HNL (fun h => hok (by rw [← uh HE]; exact okL_get h k)), rfl⟩⟩
     rw [chkE_not hok]
     clear hok
     go_wp2_with fail
     refine bodyPost_ret (results_tmp2 rfl _ _ _) rfl ?_
     exact uh HX
    rw [chkE_ok hok]
    have HOE := hide hok
    clear hok
    go_wp2_with (refine wpList_load_mid rfl 44 _ rfl wr.heap.size 0 rfl ev.cs _ (uh HE3).range Tryz.underlying44 (by rfl) (by rw [sizeTE, EV.cs_len (uh HOK)]) ?_; rw [EV.cs_arr])
    have hrb := rbytes_any a b cc (k : Int) ev.k ev.l ev.s ev.d (uh HOK).len W3
    unfold headA at hrb
    refine hrb.mono ?_
    rintro x W4 ⟨g4, c4, rfl, ho4, hk4⟩
    clear hrb
    have hln := nbE_len (a := a) (b := b) (c := cc) (i := (k : Int)) (uh HOK)
    have hbs := nbE_bs (a := a) (b := b) (c := cc) (i := (k : Int)) (uh HOK)
    rw [← nbE_ints (uh HOK)] at ho4
    obtain ⟨-, hfr⟩ := owns_fr ho4
    obtain ⟨g4', d4, hv4, h41, h42, hb4, -⟩ := hfr.blk (by intro h; rw [h] at hln; simp at hln)
    obtain ⟨rfl, rfl⟩ : g4 = g4' ∧ c4 = d4 := by rw [hln] at hv4; cases hv4; exact ⟨rfl, rfl⟩
    have HB4 : Hid (Below wr.heap.size wr W4) := (uh HB3).trans (hk4.mono (uh HB3).size)
    obtain ⟨W5, hW5⟩ : ∃ W5, W4.alloc (.cells #[.slice (some ⟨g4, 0, none⟩) 48 c4] 47) = W5 := ⟨_, rfl⟩
    have hk45 : Below W4.heap.size W4 W5 := by rw [← hW5]; exact (Below.refl _ W4).alloc (Nat.le_refl _) _
    have hc5 : W5.heap[W4.heap.size]? = some (.cells #[.slice (some ⟨g4, 0, none⟩) 48 c4] 47 (0, 0)) := by rw [← hW5]; exact World.alloc_heap_new W4 _
    have hb5 := hb4.below hk45 hb4.lt
    obtain ⟨cq, hcq, -⟩ := hb5
    have hA5 := (hb4.below hk45 hb4.lt).arg hbs (c := c4) (by rw [hln]; rw [hln] at h41; exact h41) h42
    have HB5 : Hid (Below wr.heap.size wr W5) := (uh HB4).trans (hk45.mono (uh HB4).size)
    have HO5 := hide ((uh HO).below (uh HB5))
    have hz5 := (uh HB5).size
    have hzw := (uh HB).size
    obtain ⟨v9, w9, hr9, hq9, hg9⟩ := OwnQ.snoc (uh HO5) (g0 := W4.heap.size) (r := nbE a b cc (k : Int) ev) (a := some ⟨g4, 0, none⟩) (c := c4) (g := g4) hA5 hcq (by rw [hln]; exact hc5) (by rw [dataL_len]; omega) (by omega)
    have HB9 : Hid (Below w.heap.size w w9) := ((uh HB).trans ((uh HB5).mono hzw)).trans ⟨hg9.os, hg9.tape, hg9.output, hg9.size, fun q hq => hg9.block q (by omega) (fun eq1 => by have := ((uh HO5).block eq1.symm).1; omega)⟩
    have HO9 : Hid (OwnQ w.heap.size w9 v9 (dataL (k + 1) a b cc L)) := by rw [dataL_snoc, uh HE]; exact hq9
    have HRA := hide hr9
    have HW5 := hide hW5
    clear hv4 hr9 hq9 hg9 hcq hA5 hc5 hk45 hW5 hb4 hfr ho4 hk4 hln hbs h41 h42 hz5 hzw
    go_wp2_with (first | (rw [uh HW5]) | (at_builtin; refine wpList_append_run rfl _ _ _ _ _ rfl _ _ rfl rfl (uh HRA) ?_))
    go_roundw
    case rel => exact ⟨k + 1, by omega, by go_num, uh HO9, uh HB9, fun j hj => by
     by_cases hjk : j = k
     ·rw [hjk, uh HE]; exact uh HOE
     exact uh HZ j (by omega)⟩
    case measure => simp [intOf]; omega
   have hi2 : (m : Int) ≤ (k : Int) := by omega
   have he : L.getD k zEV = zEV := by rw [List.getD_eq_getElem?_getD, List.getElem?_eq_none (by rw [uh HLN]; omega)]; rfl
   rw [he] at HOK
   have HE := hide he
   clear he
   go_wp2_with (first | (refine wpList_store_row rfl 44 _ _ rfl wr.heap.size zEV.ar rfl rfl 44 #[.int .i64 0, .int .i64 0, .int .i64 0, .int .u8 0, .int .u8 0, .int .u8 0, .int .u8 0, .int .u8 0, .int .u8 0, .int .u8 0, .int .u8 0, .int .u8 0, .int .u8 0, .int .u8 0, .int .u8 0, .int .u8 0, .int .u8 0, .int .u8 0, .int .u8 0] (uh HN0) (by rw [EV.ar_size zEV_ok]; kernel_rfl) (by rw [EV.ar_size zEV_ok]; rfl) (EV.ar_one _) ?_; rw [uh HW1]) | (refine wpList_load_mid rfl 44 _ rfl wr.heap.size 0 rfl zEV.cs _ (uh HE1).range Tryz.underlying44 (by rfl) (by rw [sizeTE, EV.cs_len zEV_ok]) ?_; rw [EV.cs_arr]))
   refine (rcheckE_any zEV.k zEV.l zEV.s zEV.d (uh HOK).len W1).mono ?_
   rintro x W3 ⟨rfl, hk3⟩
   have HB3 : Hid (Below wr.heap.size wr W3) := (uh HB1).trans (hk3.mono (uh HB1).size)
   have HE3 := hide ((uh HE1).below hk3)
   have hz3 : wr.heap.size + 1 ≤ W3.heap.size := by have := hk3.size; omega
   clear hk3
   by_cases hok : okE zEV.k zEV.l zEV.s zEV.d
   rotate_left 1
   ·have HX : Hid (EncR w W3 (.returned (.tuple #[.slice none 0 0, .int .i64 1])) ((d : Int) + 2) a b cc L) := ⟨(uh HB).trans ((uh HB3).mono (uh HB).size), .inr ⟨uh HNL (fun h => hok (by rw [← uh HE]; exact okL_get h k)), rfl⟩⟩
    rw [chkE_not hok]
    clear hok
    go_wp2_with fail
    refine bodyPost_ret (results_tmp2 rfl _ _ _) rfl ?_
    exact uh HX
   rw [chkE_ok hok]
   have HOE := hide hok
   clear hok
   go_wp2_with (refine wpList_load_mid rfl 44 _ rfl wr.heap.size 0 rfl zEV.cs _ (uh HE3).range Tryz.underlying44 (by rfl) (by rw [sizeTE, EV.cs_len (uh HOK)]) ?_; rw [EV.cs_arr])
   have hrb := rbytes_any a b cc (k : Int) zEV.k zEV.l zEV.s zEV.d (uh HOK).len W3
   unfold headA at hrb
   refine hrb.mono ?_
   rintro x W4 ⟨g4, c4, rfl, ho4, hk4⟩
   clear hrb
   have hln := nbE_len (a := a) (b := b) (c := cc) (i := (k : Int)) (uh HOK)
   have hbs := nbE_bs (a := a) (b := b) (c := cc) (i := (k : Int)) (uh HOK)
   rw [← nbE_ints (uh HOK)] at ho4
   obtain ⟨-, hfr⟩ := owns_fr ho4
   obtain ⟨g4', d4, hv4, h41, h42, hb4, -⟩ := hfr.blk (by intro h; rw [h] at hln; simp at hln)
   obtain ⟨rfl, rfl⟩ : g4 = g4' ∧ c4 = d4 := by rw [hln] at hv4; cases hv4; exact ⟨rfl, rfl⟩
   have HB4 : Hid (Below wr.heap.size wr W4) := (uh HB3).trans (hk4.mono (uh HB3).size)
   obtain ⟨W5, hW5⟩ : ∃ W5, W4.alloc (.cells #[.slice (some ⟨g4, 0, none⟩) 48 c4] 47) = W5 := ⟨_, rfl⟩
   have hk45 : Below W4.heap.size W4 W5 := by rw [← hW5]; exact (Below.refl _ W4).alloc (Nat.le_refl _) _
   have hc5 : W5.heap[W4.heap.size]? = some (.cells #[.slice (some ⟨g4, 0, none⟩) 48 c4] 47 (0, 0)) := by rw [← hW5]; exact World.alloc_heap_new W4 _
   have hb5 := hb4.below hk45 hb4.lt
   obtain ⟨cq, hcq, -⟩ := hb5
   have hA5 := (hb4.below hk45 hb4.lt).arg hbs (c := c4) (by rw [hln]; rw [hln] at h41; exact h41) h42
   have HB5 : Hid (Below wr.heap.size wr W5) := (uh HB4).trans (hk45.mono (uh HB4).size)
   have HO5 := hide ((uh HO).below (uh HB5))
   have hz5 := (uh HB5).size
   have hzw := (uh HB).size
   obtain ⟨v9, w9, hr9, hq9, hg9⟩ := OwnQ.snoc (uh HO5) (g0 := W4.heap.size) (r := nbE a b cc (k : Int) zEV) (a := some ⟨g4, 0, none⟩) (c := c4) (g := g4) hA5 hcq (by rw [hln]; exact hc5) (by rw [dataL_len]; omega) (by omega)
   have HB9 : Hid (Below w.heap.size w w9) := ((uh HB).trans ((uh HB5).mono hzw)).trans ⟨hg9.os, hg9.tape, hg9.output, hg9.size, fun q hq => hg9.block q (by omega) (fun eq1 => by have := ((uh HO5).block eq1.symm).1; omega)⟩
   have HO9 : Hid (OwnQ w.heap.size w9 v9 (dataL (k + 1) a b cc L)) := by rw [dataL_snoc, uh HE]; exact hq9
   have HRA := hide hr9
   have HW5 := hide hW5
   clear hv4 hr9 hq9 hg9 hcq hA5 hc5 hk45 hW5 hb4 hfr ho4 hk4 hln hbs h41 h42 hz5 hzw
   go_wp2_with (first | (rw [uh HW5]) | (at_builtin; refine wpList_append_run rfl _ _ _ _ _ rfl _ _ rfl rfl (uh HRA) ?_))
   go_roundw
   case rel => exact ⟨k + 1, by omega, by go_num, uh HO9, uh HB9, fun j hj => by
    by_cases hjk : j = k
    ·rw [hjk, uh HE]; exact uh HOE
    exact uh HZ j (by omega)⟩
   case measure => simp [intOf]; omega
  have hi1 : (d : Int) ≤ (k : Int) := by omega
  have hkd2 : k = d := by omega
  subst hkd2
  have HYES : Hid (okRow ((k : Int) + 2) a b cc L) := uh HOR (okL_of (fun i hi => uh HZ i (by rw [uh HLN] at hi; omega)))
  obtain ⟨ps, hO, hOty⟩ := (uh HO).ex
  have HTYQ := hide (fun (V : World) (hkV : Below wr.heap.size wr V) => (fun (i : Nat) (hi : i < (dataL k a b cc L).length) => (show ∃ g, Arg V (.slice (psA ps i) ((dataL k a b cc L).getD i []).length (psC ps i)) g ((dataL k a b cc L).getD i []) ∧ (Value.slice va vn vc).ownBlock ≠ some g from by
   obtain ⟨q, hA, cq, hq⟩ := hOty i hi
   refine ⟨q, hA.below hkV, fun e => ?_⟩
   obtain ⟨-, c2, hc2⟩ := ownr_block hO e
   rw [hq] at hc2
   simp at hc2)))
  clear hOty
  obtain ⟨G, hRG, -⟩ := hO.arg
  obtain ⟨f1, f2, -, -⟩ := encL_facts (a := a) (b := b) (c := cc) (l := L) (d := k) (uh HL).get_ok (by omega) (by omega)
  have hlP : (pP (dataL k a b cc L)).length = 48 := by
   have h := f1 k (by omega)
   have e := withP_p (dataL k a b cc L)
   rw [dataL_len] at e
   rw [encL, e] at h
   exact h
  have hlQ : (pQ (dataL k a b cc L)).length = 48 := by
   have h := f1 (k + 1) (by omega)
   have e := withP_q (dataL k a b cc L)
   rw [dataL_len] at e
   rw [encL, e] at h
   exact h
  obtain ⟨hsP, hsQ⟩ := par_bs (l := dataL k a b cc L) (dataL_bs (uh HL).get_ok)
  have HPAR := hide (rparity_any _ G _ _ (dataL k a b cc L) wr hRG (fun i => by
   by_cases hi : i < k
   ·rw [dataL_sz (uh HL).get_ok hi]; omega
   rw [List.getD_eq_getElem?_getD, List.getElem?_eq_none (by rw [dataL_len]; omega)]; simp))
  have HO' := hide hO
  have HLP := hide hlP
  have HLQ := hide hlQ
  have HSP := hide hsP
  have HSQ := hide hsQ
  clear hO hRG f1 f2 hlP hlQ hsP hsQ
  go_wp2_with fail
  refine (uh HPAR).mono ?_
  rintro e w7 ⟨v1, v2, rfl, hF1, hF2, hk⟩
  obtain ⟨g1, d1, hv1, h11, h12, hb1, hg1⟩ := hF1.blk (by intro e; have := uh HLP; rw [e] at this; simp at this)
  obtain ⟨g2, d2, hv2, h21, h22, hb2, hg2⟩ := hF2.blk (by intro e; have := uh HLQ; rw [e] at this; simp at this)
  rw [uh HLP] at hv1 h11
  rw [uh HLQ] at hv2 h21
  subst hv1
  subst hv2
  obtain ⟨w8, hw8⟩ : ∃ w8, w7.alloc (.cells #[.slice (some ⟨g1, 0, none⟩) 48 d1, .slice (some ⟨g2, 0, none⟩) 48 d2] 47) = w8 := ⟨_, rfl⟩
  have hk78 : Below w7.heap.size w7 w8 := by rw [← hw8]; exact (Below.refl _ w7).alloc (Nat.le_refl _) _
  have hc8 : w8.heap[w7.heap.size]? = some (.cells #[.slice (some ⟨g1, 0, none⟩) 48 d1, .slice (some ⟨g2, 0, none⟩) 48 d2] 47 (0, 0)) := by rw [← hw8]; exact World.alloc_heap_new w7 _
  have hz7 := hk.size
  have hz8 := hk78.size
  have hzw := (uh HB).size
  have hO8 := ((uh HO').below hk).below hk78
  obtain ⟨v9, w9, hr9, ho9, hg9⟩ := run_append_r2 w8 w.heap.size _ _ _ hO8 w7.heap.size _ _ 48 d1 48 d2 hc8 (by rw [dataL_len]; omega) (by omega)
  have hown8 := fun (k : Nat) (hk : (Value.slice va vn vc).ownBlock = some k) => ownr_block hO8 hk
  have hne : ∀ {q : Nat} {cq : Array Value}, w8.heap[q]? = some (.cells cq 5 (0, 0)) → (Value.slice va vn vc).ownBlock ≠ some q := fun hq e => by
   obtain ⟨-, cc', hcc⟩ := hown8 _ e
   rw [hq] at hcc
   simp at hcc
  have hA1 : Arg w8 (.slice (some ⟨g1, 0, none⟩) 48 d1) g1 (pP (dataL k a b cc L)) := by have h := (hb1.below hk78 hb1.lt).arg (uh HSP) (c := d1) (by rw [uh HLP]; exact h11) h12; rw [uh HLP] at h; exact h
  have hA2 : Arg w8 (.slice (some ⟨g2, 0, none⟩) 48 d2) g2 (pQ (dataL k a b cc L)) := by have h := (hb2.below hk78 hb2.lt).arg (uh HSQ) (c := d2) (by rw [uh HLQ]; exact h21) h22; rw [uh HLQ] at h; exact h
  have ht1 : ∃ cq, w8.heap[g1]? = some (.cells cq 5 (0, 0)) := by obtain ⟨cq, h, -⟩ := hb1.below hk78 hb1.lt; exact ⟨cq, h⟩
  have ht2 : ∃ cq, w8.heap[g2]? = some (.cells cq 5 (0, 0)) := by obtain ⟨cq, h, -⟩ := hb2.below hk78 hb2.lt; exact ⟨cq, h⟩
  obtain ⟨-, hty⟩ : True ∧ ∀ i, i < (dataL k a b cc L).length → ∃ g, Arg w8 (.slice (psA ps i) ((dataL k a b cc L).getD i []).length (psC ps i)) g ((dataL k a b cc L).getD i []) ∧ (Value.slice va vn vc).ownBlock ≠ some g := ⟨trivial, (uh HTYQ) w8 (hk.trans (hk78.mono hz7))⟩
  have HO9 : Hid (OwnR w.heap.size w9 v9 (ps ++ [(some ⟨g1, 0, none⟩, d1)] ++ [(some ⟨g2, 0, none⟩, d2)]) (encL k a b cc L)) :=
   OwnR.snoc2 (n := 48) (m := 48) hO8 ho9 (fun i hi => by obtain ⟨q, hA, hq⟩ := hty i hi; exact ⟨q, hA.grown hg9 (fun _ => hq)⟩) (uh HLP) (uh HLQ)
    ⟨g1, hA1.grown hg9 (fun _ => by obtain ⟨cq, h⟩ := ht1; exact hne h)⟩ ⟨g2, hA2.grown hg9 (fun _ => by obtain ⟨cq, h⟩ := ht2; exact hne h)⟩
  have HB9 : Hid (Below w.heap.size w w9) := (((uh HB).trans (hk.mono hzw)).trans (hk78.mono (by omega))).trans ⟨hg9.os, hg9.tape, hg9.output, hg9.size, fun k hk' => hg9.block k (by omega) (fun e => by have := (hown8 k e.symm).1; omega)⟩
  have HRA := hide hr9
  have HW8 := hide hw8
  clear hO8 ho9 hg9 hr9 hown8 hA1 hA2 ht1 ht2 hty hne hk78 hc8 hk hF1 hF2 hb1 hb2 hw8
  go_wp2_with (first | (rw [uh HW8]) | (at_builtin; refine wpList_append_run rfl _ _ _ _ _ rfl _ _ rfl rfl (uh HRA) ?_))
  refine bodyPost_ret (results_tmp2 rfl _ _ _) rfl ?_
  have hd9 : ((k : Int) + 2 - 2).toNat = k := by omega
  exact ⟨uh HB9, .inl ⟨uh HYES, v9, _, rfl, by rw [hd9]; exact uh HO9⟩⟩
end Go.Proofs.YtjdikhelabibnaaGreat
