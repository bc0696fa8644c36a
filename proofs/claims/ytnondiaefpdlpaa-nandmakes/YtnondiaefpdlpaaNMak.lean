/-
  The walk of NandMakes.
-/
import Derived.Test.YtnondiaefpdlpaaU7d
import Derived.Test.YtnondiaefpdlpaaH7m
import Derived.Test.YtnondiaefpdlpaaH7k
namespace Go.Proofs.Ytnondiaefpdlpaa
open Go.RowKit Go.Shelf

/-- What New answers. -/
def code (D B P : Int) (l : List (Int × Int)) : Int := if okG D B P ∧ okB D B l then 0 else 1

theorem new_code (D B P : Int) (v : Value) (gv : Nat) (l : List (Int × Int)) (w : World) (hV : PArg w v gv l) : Calls Try.prog 12 #[.agg #[.int .i64 D, .int .i64 B, .int .i64 P], v] w fun e w' => (∃ p, e = .returned (.tuple #[.pointer p, .int .i64 (code D B P l)])) ∧ Below w.heap.size w w' := by
  by_cases h : okG D B P
  · obtain ⟨d, rfl⟩ := Int.eq_ofNat_of_zero_le (show 0 ≤ D by have := h.1.1; omega)
    obtain ⟨b, rfl⟩ := Int.eq_ofNat_of_zero_le (show 0 ≤ B by have := h.2.1.1; omega)
    obtain ⟨p, rfl⟩ := Int.eq_ofNat_of_zero_le (show 0 ≤ P by have := h.2.2.1; omega)
    refine (new_any d b p v gv l w h hV).mono ?_
    rintro e w' ⟨hb, ⟨h1, h2⟩ | ⟨h1, L, h2, _⟩⟩
    · exact ⟨⟨_, by rw [h2, code, if_neg (fun x => h1 x.2)]⟩, hb⟩
    · exact ⟨⟨_, by rw [h2, code, if_pos ⟨h, h1⟩]⟩, hb⟩
  · refine (new_not D B P v w h).mono ?_
    rintro e w' ⟨h2, hb⟩
    exact ⟨⟨_, by rw [h2, code, if_neg (fun x => h x.1)]⟩, hb⟩
theorem rnew_code (D B P : Int) (v : Value) (gv : Nat) (l : List (Int × Int)) (w : World) (hV : PArg w v gv l) : Calls Try.prog 14 #[.agg #[.int .i64 D, .int .i64 B, .int .i64 P], v] w fun e w' => (∃ p, e = .returned (.tuple #[.pointer p, .int .i64 (code D B P l)])) ∧ Below w.heap.size w w' := by
  by_cases h : okG D B P
  · obtain ⟨d, rfl⟩ := Int.eq_ofNat_of_zero_le (show 0 ≤ D by have := h.1.1; omega)
    obtain ⟨b, rfl⟩ := Int.eq_ofNat_of_zero_le (show 0 ≤ B by have := h.2.1.1; omega)
    obtain ⟨p, rfl⟩ := Int.eq_ofNat_of_zero_le (show 0 ≤ P by have := h.2.2.1; omega)
    refine (rnew_any d b p v gv l w h hV).mono ?_
    rintro e w' ⟨hb, ⟨h1, h2⟩ | ⟨h1, L, h2, _⟩⟩
    · exact ⟨⟨_, by rw [h2, code, if_neg (fun x => h1 x.2)]⟩, hb⟩
    · exact ⟨⟨_, by rw [h2, code, if_pos ⟨h, h1⟩]⟩, hb⟩
  · refine (rnew_not D B P v w h).mono ?_
    rintro e w' ⟨h2, hb⟩
    exact ⟨⟨_, by rw [h2, code, if_neg (fun x => h x.1)]⟩, hb⟩

set_option maxRecDepth 100000 in
set_option maxHeartbeats 8000000 in
theorem makes_walk (D B P : Int) (a : Option Addr) (n c gv : Nat) (l : List (Int × Int)) (wh : Int) (ab : Bool) (w : World) (hV : PArg w (.slice a n c) gv l) :
    Calls Try.prog 4 #[.agg #[.int .i64 D, .int .i64 B, .int .i64 P], .slice a n c, .int .i64 wh, .bool ab] w fun e w' => e = .returned (.bool true) ∧ Below w.heap.size w w' := by
  have hal : Below w.heap.size w (w.alloc (.cells #[.int .i64 D, .int .i64 B, .int .i64 P] 23)) := (Below.refl _ _).alloc (Nat.le_refl _) _
  have hnn := World.alloc_heap_new w (.cells #[.int .i64 D, .int .i64 B, .int .i64 P] 23)
  have HT := hide hal
  have HG := hide hnn
  have HV := hide hV
  have HLT : Hid (l ≠ [] → gv < w.heap.size) := fun hne => hV.lt hne
  clear hal hnn hV
  by_cases hn : 30 < (n : Int)
  · go_enter Try.func4, Try.ntmps4
    go_wp2_with fail
    refine (known_any _).mono ?_
    rintro e w0 ⟨rfl, hk⟩
    replace HT := hide ((unhide HT).trans (hk.mono (unhide HT).size))
    clear hk
    go_wp2_with fail
    go_returns
    exact ⟨rfl, unhide HT⟩
  · go_enter Try.func4, Try.ntmps4
    go_wp2_with fail
    refine (known_any _).mono ?_
    rintro e w0 ⟨rfl, hk⟩
    replace HT := hide ((unhide HT).trans (hk.mono (unhide HT).size))
    replace HG := hide ((hk.block _ (lt_of_block (unhide HG))).trans (unhide HG))
    clear hk
    cases ab
    · go_wp2_with fail
      have hal8 : Below w0.heap.size w0 (w0.alloc (.cells #[.int .i64 7, .int .i64 9, .int .i64 5] 23)) := (Below.refl _ _).alloc (Nat.le_refl _) _
      have hnn8 := World.alloc_heap_new w0 (.cells #[.int .i64 7, .int .i64 9, .int .i64 5] 23)
      have hq0 := (unhide HT).size
      have hg0 := lt_of_block (unhide HG)
      replace HT := hide ((unhide HT).trans (hal8.mono (unhide HT).size))
      replace HG := hide ((hal8.block _ (lt_of_block (unhide HG))).trans (unhide HG))
      have HH7 := hide hnn8
      clear hal8 hnn8
      refine (within7_any _ 6 _ (by omega) (by omega)).mono ?_
      rintro e W8 ⟨rfl, rfl⟩
      generalize w0.alloc (.cells #[.int .i64 7, .int .i64 9, .int .i64 5] 23) = W8 at HT HG HH7 ⊢
      obtain ⟨q, hq⟩ : ∃ q, w0.heap.size = q := ⟨_, rfl⟩
      rw [hq] at hq0 hg0 HH7 ⊢
      clear hq
      obtain hk | hk | hk | hk | hk | hk : wh % 6 = 0 ∨ wh % 6 = 1 ∨ wh % 6 = 2 ∨ wh % 6 = 3 ∨ wh % 6 = 4 ∨ wh % 6 = 5 := by omega
      · rw [hk]
        clear hk
        have hH := unhide HH7
        have hfr : W8.frozen? ⟨q, 0, none⟩ = false := free_blk hH
        have hce : W8.cell? ⟨q, 0, none⟩ = some (.int .i64 7) := cell_blk hH rfl
        have hset := heap_setCell_same W8 q 0 _ _ (.int .i64 8) hH
        clear hH
        have HT9 : Hid (Below w.heap.size w (W8.setCell ⟨q, 0, none⟩ (.int .i64 8))) := (unhide HT).setCell (p := ⟨q, 0, none⟩) hq0 _
        have HG9 : Hid ((W8.setCell ⟨q, 0, none⟩ (.int .i64 8)).heap[w.heap.size]? = some (.cells #[.int .i64 D, .int .i64 B, .int .i64 P] 23 (0, 0))) := (Below.heap_setCell _ _ _ _ (by show w.heap.size ≠ q; omega)).trans (unhide HG)
        have HH9 : Hid ((W8.setCell ⟨q, 0, none⟩ (.int .i64 8)).heap[q]? = some (.cells #[.int .i64 8, .int .i64 9, .int .i64 5] 23 (0, 0))) := hset
        have c0 : (W8.setCell ⟨q, 0, none⟩ (.int .i64 8)).cell? ⟨w.heap.size, 0, none⟩ = some (.int .i64 D) := cell_blk (unhide HG9) rfl
        have c1 : (W8.setCell ⟨q, 0, none⟩ (.int .i64 8)).cell? ⟨w.heap.size, 1, none⟩ = some (.int .i64 B) := cell_blk (unhide HG9) rfl
        have c2 : (W8.setCell ⟨q, 0, none⟩ (.int .i64 8)).cell? ⟨w.heap.size, 2, none⟩ = some (.int .i64 P) := cell_blk (unhide HG9) rfl
        go_wp2_with fail
        clear hfr hce c0 c1 c2
        clear hset HT HG HH7
        generalize W8.setCell ⟨q, 0, none⟩ (.int .i64 8) = W9 at HT9 HG9 HH9 ⊢
        have HT := HT9
        have HG := HG9
        have HH7 := HH9
        clear HT9 HG9 HH9
        refine (new_code D B P _ gv l _ ((unhide HV).below (unhide HT) (unhide HLT))).mono ?_
        rintro e w10 ⟨⟨p10, rfl⟩, hk⟩
        replace HT := hide ((unhide HT).trans (hk.mono (unhide HT).size))
        replace HG := hide ((hk.block _ (lt_of_block (unhide HG))).trans (unhide HG))
        replace HH7 := hide ((hk.block _ (lt_of_block (unhide HH7))).trans (unhide HH7))
        clear hk
        have c0 : w10.cell? ⟨w.heap.size, 0, none⟩ = some (.int .i64 D) := cell_blk (unhide HG) rfl
        have c1 : w10.cell? ⟨w.heap.size, 1, none⟩ = some (.int .i64 B) := cell_blk (unhide HG) rfl
        have c2 : w10.cell? ⟨w.heap.size, 2, none⟩ = some (.int .i64 P) := cell_blk (unhide HG) rfl
        go_wp2_with fail
        clear c0 c1 c2
        refine (rnew_code D B P _ gv l _ ((unhide HV).below (unhide HT) (unhide HLT))).mono ?_
        rintro e w11 ⟨⟨p11, rfl⟩, hk⟩
        replace HT := hide ((unhide HT).trans (hk.mono (unhide HT).size))
        replace HG := hide ((hk.block _ (lt_of_block (unhide HG))).trans (unhide HG))
        replace HH7 := hide ((hk.block _ (lt_of_block (unhide HH7))).trans (unhide HH7))
        clear hk
        have h0 : w11.cell? ⟨q, 0, none⟩ = some (.int .i64 8) := cell_blk (unhide HH7) rfl
        have h1 : w11.cell? ⟨q, 1, none⟩ = some (.int .i64 9) := cell_blk (unhide HH7) rfl
        have h2 : w11.cell? ⟨q, 2, none⟩ = some (.int .i64 5) := cell_blk (unhide HH7) rfl
        go_wp2_with fail
        clear h0 h1 h2
        refine (new_code 8 9 5 _ 0 [] _ (PArg.nil _)).mono ?_
        rintro e w12 ⟨⟨p12, rfl⟩, hk⟩
        rw [show code 8 9 5 [] = 0 from by decide]
        replace HT := hide ((unhide HT).trans (hk.mono (unhide HT).size))
        replace HG := hide ((hk.block _ (lt_of_block (unhide HG))).trans (unhide HG))
        replace HH7 := hide ((hk.block _ (lt_of_block (unhide HH7))).trans (unhide HH7))
        clear hk
        have c0 : w12.cell? ⟨w.heap.size, 0, none⟩ = some (.int .i64 D) := cell_blk (unhide HG) rfl
        have c1 : w12.cell? ⟨w.heap.size, 1, none⟩ = some (.int .i64 B) := cell_blk (unhide HG) rfl
        have c2 : w12.cell? ⟨w.heap.size, 2, none⟩ = some (.int .i64 P) := cell_blk (unhide HG) rfl
        go_wp2_with fail
        clear c0 c1 c2
        refine (make_any D B P _).mono ?_
        rintro e w13 ⟨d1, b1, p1, hok1, hm1, rfl, hk⟩
        have HM1 := hide hm1
        clear hok1 hm1
        replace HT := hide ((unhide HT).trans (hk.mono (unhide HT).size))
        replace HG := hide ((hk.block _ (lt_of_block (unhide HG))).trans (unhide HG))
        replace HH7 := hide ((hk.block _ (lt_of_block (unhide HH7))).trans (unhide HH7))
        clear hk
        go_wp2_with fail
        refine (new_code d1 b1 p1 _ gv l _ ((unhide HV).below (unhide HT) (unhide HLT))).mono ?_
        rintro e w14 ⟨⟨p14, rfl⟩, hk⟩
        replace HT := hide ((unhide HT).trans (hk.mono (unhide HT).size))
        replace HG := hide ((hk.block _ (lt_of_block (unhide HG))).trans (unhide HG))
        replace HH7 := hide ((hk.block _ (lt_of_block (unhide HH7))).trans (unhide HH7))
        clear hk
        have c0 : w14.cell? ⟨w.heap.size, 0, none⟩ = some (.int .i64 D) := cell_blk (unhide HG) rfl
        have c1 : w14.cell? ⟨w.heap.size, 1, none⟩ = some (.int .i64 B) := cell_blk (unhide HG) rfl
        have c2 : w14.cell? ⟨w.heap.size, 2, none⟩ = some (.int .i64 P) := cell_blk (unhide HG) rfl
        go_wp2_with fail
        clear c0 c1 c2
        refine (make_any D B P _).mono ?_
        rintro e w15 ⟨d2, b2, p2, hok2, hm2, rfl, hk⟩
        obtain rfl : d2 = d1 := by have := unhide HM1; omega
        obtain rfl : b2 = b1 := by have := unhide HM1; omega
        obtain rfl : p2 = p1 := by have := unhide HM1; omega
        clear hok2 hm2
        replace HT := hide ((unhide HT).trans (hk.mono (unhide HT).size))
        replace HG := hide ((hk.block _ (lt_of_block (unhide HG))).trans (unhide HG))
        replace HH7 := hide ((hk.block _ (lt_of_block (unhide HH7))).trans (unhide HH7))
        clear hk
        go_wp2_with fail
        refine (rnew_code d2 b2 p2 _ gv l _ ((unhide HV).below (unhide HT) (unhide HLT))).mono ?_
        rintro e w16 ⟨⟨p16, rfl⟩, hk⟩
        generalize code D B P l = x1
        generalize code d2 b2 p2 l = x2
        replace HT := hide ((unhide HT).trans (hk.mono (unhide HT).size))
        replace HG := hide ((hk.block _ (lt_of_block (unhide HG))).trans (unhide HG))
        replace HH7 := hide ((hk.block _ (lt_of_block (unhide HH7))).trans (unhide HH7))
        clear hk
        go_wp2_with fail
        go_returns
        exact ⟨rfl, unhide HT⟩
      · rw [hk]
        clear hk
        have hH := unhide HH7
        have hfr : W8.frozen? ⟨q, 0, none⟩ = false := free_blk hH
        have hce : W8.cell? ⟨q, 0, none⟩ = some (.int .i64 7) := cell_blk hH rfl
        have hset := heap_setCell_same W8 q 0 _ _ (.int .i64 6) hH
        clear hH
        have HT9 : Hid (Below w.heap.size w (W8.setCell ⟨q, 0, none⟩ (.int .i64 6))) := (unhide HT).setCell (p := ⟨q, 0, none⟩) hq0 _
        have HG9 : Hid ((W8.setCell ⟨q, 0, none⟩ (.int .i64 6)).heap[w.heap.size]? = some (.cells #[.int .i64 D, .int .i64 B, .int .i64 P] 23 (0, 0))) := (Below.heap_setCell _ _ _ _ (by show w.heap.size ≠ q; omega)).trans (unhide HG)
        have HH9 : Hid ((W8.setCell ⟨q, 0, none⟩ (.int .i64 6)).heap[q]? = some (.cells #[.int .i64 6, .int .i64 9, .int .i64 5] 23 (0, 0))) := hset
        have c0 : (W8.setCell ⟨q, 0, none⟩ (.int .i64 6)).cell? ⟨w.heap.size, 0, none⟩ = some (.int .i64 D) := cell_blk (unhide HG9) rfl
        have c1 : (W8.setCell ⟨q, 0, none⟩ (.int .i64 6)).cell? ⟨w.heap.size, 1, none⟩ = some (.int .i64 B) := cell_blk (unhide HG9) rfl
        have c2 : (W8.setCell ⟨q, 0, none⟩ (.int .i64 6)).cell? ⟨w.heap.size, 2, none⟩ = some (.int .i64 P) := cell_blk (unhide HG9) rfl
        go_wp2_with fail
        clear hfr hce c0 c1 c2
        clear hset HT HG HH7
        generalize W8.setCell ⟨q, 0, none⟩ (.int .i64 6) = W9 at HT9 HG9 HH9 ⊢
        have HT := HT9
        have HG := HG9
        have HH7 := HH9
        clear HT9 HG9 HH9
        refine (new_code D B P _ gv l _ ((unhide HV).below (unhide HT) (unhide HLT))).mono ?_
        rintro e w10 ⟨⟨p10, rfl⟩, hk⟩
        replace HT := hide ((unhide HT).trans (hk.mono (unhide HT).size))
        replace HG := hide ((hk.block _ (lt_of_block (unhide HG))).trans (unhide HG))
        replace HH7 := hide ((hk.block _ (lt_of_block (unhide HH7))).trans (unhide HH7))
        clear hk
        have c0 : w10.cell? ⟨w.heap.size, 0, none⟩ = some (.int .i64 D) := cell_blk (unhide HG) rfl
        have c1 : w10.cell? ⟨w.heap.size, 1, none⟩ = some (.int .i64 B) := cell_blk (unhide HG) rfl
        have c2 : w10.cell? ⟨w.heap.size, 2, none⟩ = some (.int .i64 P) := cell_blk (unhide HG) rfl
        go_wp2_with fail
        clear c0 c1 c2
        refine (rnew_code D B P _ gv l _ ((unhide HV).below (unhide HT) (unhide HLT))).mono ?_
        rintro e w11 ⟨⟨p11, rfl⟩, hk⟩
        replace HT := hide ((unhide HT).trans (hk.mono (unhide HT).size))
        replace HG := hide ((hk.block _ (lt_of_block (unhide HG))).trans (unhide HG))
        replace HH7 := hide ((hk.block _ (lt_of_block (unhide HH7))).trans (unhide HH7))
        clear hk
        have h0 : w11.cell? ⟨q, 0, none⟩ = some (.int .i64 6) := cell_blk (unhide HH7) rfl
        have h1 : w11.cell? ⟨q, 1, none⟩ = some (.int .i64 9) := cell_blk (unhide HH7) rfl
        have h2 : w11.cell? ⟨q, 2, none⟩ = some (.int .i64 5) := cell_blk (unhide HH7) rfl
        go_wp2_with fail
        clear h0 h1 h2
        refine (new_code 6 9 5 _ 0 [] _ (PArg.nil _)).mono ?_
        rintro e w12 ⟨⟨p12, rfl⟩, hk⟩
        rw [show code 6 9 5 [] = 0 from by decide]
        replace HT := hide ((unhide HT).trans (hk.mono (unhide HT).size))
        replace HG := hide ((hk.block _ (lt_of_block (unhide HG))).trans (unhide HG))
        replace HH7 := hide ((hk.block _ (lt_of_block (unhide HH7))).trans (unhide HH7))
        clear hk
        have c0 : w12.cell? ⟨w.heap.size, 0, none⟩ = some (.int .i64 D) := cell_blk (unhide HG) rfl
        have c1 : w12.cell? ⟨w.heap.size, 1, none⟩ = some (.int .i64 B) := cell_blk (unhide HG) rfl
        have c2 : w12.cell? ⟨w.heap.size, 2, none⟩ = some (.int .i64 P) := cell_blk (unhide HG) rfl
        go_wp2_with fail
        clear c0 c1 c2
        refine (make_any D B P _).mono ?_
        rintro e w13 ⟨d1, b1, p1, hok1, hm1, rfl, hk⟩
        have HM1 := hide hm1
        clear hok1 hm1
        replace HT := hide ((unhide HT).trans (hk.mono (unhide HT).size))
        replace HG := hide ((hk.block _ (lt_of_block (unhide HG))).trans (unhide HG))
        replace HH7 := hide ((hk.block _ (lt_of_block (unhide HH7))).trans (unhide HH7))
        clear hk
        go_wp2_with fail
        refine (new_code d1 b1 p1 _ gv l _ ((unhide HV).below (unhide HT) (unhide HLT))).mono ?_
        rintro e w14 ⟨⟨p14, rfl⟩, hk⟩
        replace HT := hide ((unhide HT).trans (hk.mono (unhide HT).size))
        replace HG := hide ((hk.block _ (lt_of_block (unhide HG))).trans (unhide HG))
        replace HH7 := hide ((hk.block _ (lt_of_block (unhide HH7))).trans (unhide HH7))
        clear hk
        have c0 : w14.cell? ⟨w.heap.size, 0, none⟩ = some (.int .i64 D) := cell_blk (unhide HG) rfl
        have c1 : w14.cell? ⟨w.heap.size, 1, none⟩ = some (.int .i64 B) := cell_blk (unhide HG) rfl
        have c2 : w14.cell? ⟨w.heap.size, 2, none⟩ = some (.int .i64 P) := cell_blk (unhide HG) rfl
        go_wp2_with fail
        clear c0 c1 c2
        refine (make_any D B P _).mono ?_
        rintro e w15 ⟨d2, b2, p2, hok2, hm2, rfl, hk⟩
        obtain rfl : d2 = d1 := by have := unhide HM1; omega
        obtain rfl : b2 = b1 := by have := unhide HM1; omega
        obtain rfl : p2 = p1 := by have := unhide HM1; omega
        clear hok2 hm2
        replace HT := hide ((unhide HT).trans (hk.mono (unhide HT).size))
        replace HG := hide ((hk.block _ (lt_of_block (unhide HG))).trans (unhide HG))
        replace HH7 := hide ((hk.block _ (lt_of_block (unhide HH7))).trans (unhide HH7))
        clear hk
        go_wp2_with fail
        refine (rnew_code d2 b2 p2 _ gv l _ ((unhide HV).below (unhide HT) (unhide HLT))).mono ?_
        rintro e w16 ⟨⟨p16, rfl⟩, hk⟩
        generalize code D B P l = x1
        generalize code d2 b2 p2 l = x2
        replace HT := hide ((unhide HT).trans (hk.mono (unhide HT).size))
        replace HG := hide ((hk.block _ (lt_of_block (unhide HG))).trans (unhide HG))
        replace HH7 := hide ((hk.block _ (lt_of_block (unhide HH7))).trans (unhide HH7))
        clear hk
        go_wp2_with fail
        go_returns
        exact ⟨rfl, unhide HT⟩
      · rw [hk]
        clear hk
        have hH := unhide HH7
        have hfr : W8.frozen? ⟨q, 1, none⟩ = false := free_blk hH
        have hce : W8.cell? ⟨q, 1, none⟩ = some (.int .i64 9) := cell_blk hH rfl
        have hset := heap_setCell_same W8 q 1 _ _ (.int .i64 12) hH
        clear hH
        have HT9 : Hid (Below w.heap.size w (W8.setCell ⟨q, 1, none⟩ (.int .i64 12))) := (unhide HT).setCell (p := ⟨q, 1, none⟩) hq0 _
        have HG9 : Hid ((W8.setCell ⟨q, 1, none⟩ (.int .i64 12)).heap[w.heap.size]? = some (.cells #[.int .i64 D, .int .i64 B, .int .i64 P] 23 (0, 0))) := (Below.heap_setCell _ _ _ _ (by show w.heap.size ≠ q; omega)).trans (unhide HG)
        have HH9 : Hid ((W8.setCell ⟨q, 1, none⟩ (.int .i64 12)).heap[q]? = some (.cells #[.int .i64 7, .int .i64 12, .int .i64 5] 23 (0, 0))) := hset
        have c0 : (W8.setCell ⟨q, 1, none⟩ (.int .i64 12)).cell? ⟨w.heap.size, 0, none⟩ = some (.int .i64 D) := cell_blk (unhide HG9) rfl
        have c1 : (W8.setCell ⟨q, 1, none⟩ (.int .i64 12)).cell? ⟨w.heap.size, 1, none⟩ = some (.int .i64 B) := cell_blk (unhide HG9) rfl
        have c2 : (W8.setCell ⟨q, 1, none⟩ (.int .i64 12)).cell? ⟨w.heap.size, 2, none⟩ = some (.int .i64 P) := cell_blk (unhide HG9) rfl
        go_wp2_with fail
        clear hfr hce c0 c1 c2
        clear hset HT HG HH7
        generalize W8.setCell ⟨q, 1, none⟩ (.int .i64 12) = W9 at HT9 HG9 HH9 ⊢
        have HT := HT9
        have HG := HG9
        have HH7 := HH9
        clear HT9 HG9 HH9
        refine (new_code D B P _ gv l _ ((unhide HV).below (unhide HT) (unhide HLT))).mono ?_
        rintro e w10 ⟨⟨p10, rfl⟩, hk⟩
        replace HT := hide ((unhide HT).trans (hk.mono (unhide HT).size))
        replace HG := hide ((hk.block _ (lt_of_block (unhide HG))).trans (unhide HG))
        replace HH7 := hide ((hk.block _ (lt_of_block (unhide HH7))).trans (unhide HH7))
        clear hk
        have c0 : w10.cell? ⟨w.heap.size, 0, none⟩ = some (.int .i64 D) := cell_blk (unhide HG) rfl
        have c1 : w10.cell? ⟨w.heap.size, 1, none⟩ = some (.int .i64 B) := cell_blk (unhide HG) rfl
        have c2 : w10.cell? ⟨w.heap.size, 2, none⟩ = some (.int .i64 P) := cell_blk (unhide HG) rfl
        go_wp2_with fail
        clear c0 c1 c2
        refine (rnew_code D B P _ gv l _ ((unhide HV).below (unhide HT) (unhide HLT))).mono ?_
        rintro e w11 ⟨⟨p11, rfl⟩, hk⟩
        replace HT := hide ((unhide HT).trans (hk.mono (unhide HT).size))
        replace HG := hide ((hk.block _ (lt_of_block (unhide HG))).trans (unhide HG))
        replace HH7 := hide ((hk.block _ (lt_of_block (unhide HH7))).trans (unhide HH7))
        clear hk
        have h0 : w11.cell? ⟨q, 0, none⟩ = some (.int .i64 7) := cell_blk (unhide HH7) rfl
        have h1 : w11.cell? ⟨q, 1, none⟩ = some (.int .i64 12) := cell_blk (unhide HH7) rfl
        have h2 : w11.cell? ⟨q, 2, none⟩ = some (.int .i64 5) := cell_blk (unhide HH7) rfl
        go_wp2_with fail
        clear h0 h1 h2
        refine (new_code 7 12 5 _ 0 [] _ (PArg.nil _)).mono ?_
        rintro e w12 ⟨⟨p12, rfl⟩, hk⟩
        rw [show code 7 12 5 [] = 0 from by decide]
        replace HT := hide ((unhide HT).trans (hk.mono (unhide HT).size))
        replace HG := hide ((hk.block _ (lt_of_block (unhide HG))).trans (unhide HG))
        replace HH7 := hide ((hk.block _ (lt_of_block (unhide HH7))).trans (unhide HH7))
        clear hk
        have c0 : w12.cell? ⟨w.heap.size, 0, none⟩ = some (.int .i64 D) := cell_blk (unhide HG) rfl
        have c1 : w12.cell? ⟨w.heap.size, 1, none⟩ = some (.int .i64 B) := cell_blk (unhide HG) rfl
        have c2 : w12.cell? ⟨w.heap.size, 2, none⟩ = some (.int .i64 P) := cell_blk (unhide HG) rfl
        go_wp2_with fail
        clear c0 c1 c2
        refine (make_any D B P _).mono ?_
        rintro e w13 ⟨d1, b1, p1, hok1, hm1, rfl, hk⟩
        have HM1 := hide hm1
        clear hok1 hm1
        replace HT := hide ((unhide HT).trans (hk.mono (unhide HT).size))
        replace HG := hide ((hk.block _ (lt_of_block (unhide HG))).trans (unhide HG))
        replace HH7 := hide ((hk.block _ (lt_of_block (unhide HH7))).trans (unhide HH7))
        clear hk
        go_wp2_with fail
        refine (new_code d1 b1 p1 _ gv l _ ((unhide HV).below (unhide HT) (unhide HLT))).mono ?_
        rintro e w14 ⟨⟨p14, rfl⟩, hk⟩
        replace HT := hide ((unhide HT).trans (hk.mono (unhide HT).size))
        replace HG := hide ((hk.block _ (lt_of_block (unhide HG))).trans (unhide HG))
        replace HH7 := hide ((hk.block _ (lt_of_block (unhide HH7))).trans (unhide HH7))
        clear hk
        have c0 : w14.cell? ⟨w.heap.size, 0, none⟩ = some (.int .i64 D) := cell_blk (unhide HG) rfl
        have c1 : w14.cell? ⟨w.heap.size, 1, none⟩ = some (.int .i64 B) := cell_blk (unhide HG) rfl
        have c2 : w14.cell? ⟨w.heap.size, 2, none⟩ = some (.int .i64 P) := cell_blk (unhide HG) rfl
        go_wp2_with fail
        clear c0 c1 c2
        refine (make_any D B P _).mono ?_
        rintro e w15 ⟨d2, b2, p2, hok2, hm2, rfl, hk⟩
        obtain rfl : d2 = d1 := by have := unhide HM1; omega
        obtain rfl : b2 = b1 := by have := unhide HM1; omega
        obtain rfl : p2 = p1 := by have := unhide HM1; omega
        clear hok2 hm2
        replace HT := hide ((unhide HT).trans (hk.mono (unhide HT).size))
        replace HG := hide ((hk.block _ (lt_of_block (unhide HG))).trans (unhide HG))
        replace HH7 := hide ((hk.block _ (lt_of_block (unhide HH7))).trans (unhide HH7))
        clear hk
        go_wp2_with fail
        refine (rnew_code d2 b2 p2 _ gv l _ ((unhide HV).below (unhide HT) (unhide HLT))).mono ?_
        rintro e w16 ⟨⟨p16, rfl⟩, hk⟩
        generalize code D B P l = x1
        generalize code d2 b2 p2 l = x2
        replace HT := hide ((unhide HT).trans (hk.mono (unhide HT).size))
        replace HG := hide ((hk.block _ (lt_of_block (unhide HG))).trans (unhide HG))
        replace HH7 := hide ((hk.block _ (lt_of_block (unhide HH7))).trans (unhide HH7))
        clear hk
        go_wp2_with fail
        go_returns
        exact ⟨rfl, unhide HT⟩
      · rw [hk]
        clear hk
        have hH := unhide HH7
        have hfr : W8.frozen? ⟨q, 1, none⟩ = false := free_blk hH
        have hce : W8.cell? ⟨q, 1, none⟩ = some (.int .i64 9) := cell_blk hH rfl
        have hset := heap_setCell_same W8 q 1 _ _ (.int .i64 8) hH
        clear hH
        have HT9 : Hid (Below w.heap.size w (W8.setCell ⟨q, 1, none⟩ (.int .i64 8))) := (unhide HT).setCell (p := ⟨q, 1, none⟩) hq0 _
        have HG9 : Hid ((W8.setCell ⟨q, 1, none⟩ (.int .i64 8)).heap[w.heap.size]? = some (.cells #[.int .i64 D, .int .i64 B, .int .i64 P] 23 (0, 0))) := (Below.heap_setCell _ _ _ _ (by show w.heap.size ≠ q; omega)).trans (unhide HG)
        have HH9 : Hid ((W8.setCell ⟨q, 1, none⟩ (.int .i64 8)).heap[q]? = some (.cells #[.int .i64 7, .int .i64 8, .int .i64 5] 23 (0, 0))) := hset
        have c0 : (W8.setCell ⟨q, 1, none⟩ (.int .i64 8)).cell? ⟨w.heap.size, 0, none⟩ = some (.int .i64 D) := cell_blk (unhide HG9) rfl
        have c1 : (W8.setCell ⟨q, 1, none⟩ (.int .i64 8)).cell? ⟨w.heap.size, 1, none⟩ = some (.int .i64 B) := cell_blk (unhide HG9) rfl
        have c2 : (W8.setCell ⟨q, 1, none⟩ (.int .i64 8)).cell? ⟨w.heap.size, 2, none⟩ = some (.int .i64 P) := cell_blk (unhide HG9) rfl
        go_wp2_with fail
        clear hfr hce c0 c1 c2
        clear hset HT HG HH7
        generalize W8.setCell ⟨q, 1, none⟩ (.int .i64 8) = W9 at HT9 HG9 HH9 ⊢
        have HT := HT9
        have HG := HG9
        have HH7 := HH9
        clear HT9 HG9 HH9
        refine (new_code D B P _ gv l _ ((unhide HV).below (unhide HT) (unhide HLT))).mono ?_
        rintro e w10 ⟨⟨p10, rfl⟩, hk⟩
        replace HT := hide ((unhide HT).trans (hk.mono (unhide HT).size))
        replace HG := hide ((hk.block _ (lt_of_block (unhide HG))).trans (unhide HG))
        replace HH7 := hide ((hk.block _ (lt_of_block (unhide HH7))).trans (unhide HH7))
        clear hk
        have c0 : w10.cell? ⟨w.heap.size, 0, none⟩ = some (.int .i64 D) := cell_blk (unhide HG) rfl
        have c1 : w10.cell? ⟨w.heap.size, 1, none⟩ = some (.int .i64 B) := cell_blk (unhide HG) rfl
        have c2 : w10.cell? ⟨w.heap.size, 2, none⟩ = some (.int .i64 P) := cell_blk (unhide HG) rfl
        go_wp2_with fail
        clear c0 c1 c2
        refine (rnew_code D B P _ gv l _ ((unhide HV).below (unhide HT) (unhide HLT))).mono ?_
        rintro e w11 ⟨⟨p11, rfl⟩, hk⟩
        replace HT := hide ((unhide HT).trans (hk.mono (unhide HT).size))
        replace HG := hide ((hk.block _ (lt_of_block (unhide HG))).trans (unhide HG))
        replace HH7 := hide ((hk.block _ (lt_of_block (unhide HH7))).trans (unhide HH7))
        clear hk
        have h0 : w11.cell? ⟨q, 0, none⟩ = some (.int .i64 7) := cell_blk (unhide HH7) rfl
        have h1 : w11.cell? ⟨q, 1, none⟩ = some (.int .i64 8) := cell_blk (unhide HH7) rfl
        have h2 : w11.cell? ⟨q, 2, none⟩ = some (.int .i64 5) := cell_blk (unhide HH7) rfl
        go_wp2_with fail
        clear h0 h1 h2
        refine (new_code 7 8 5 _ 0 [] _ (PArg.nil _)).mono ?_
        rintro e w12 ⟨⟨p12, rfl⟩, hk⟩
        rw [show code 7 8 5 [] = 0 from by decide]
        replace HT := hide ((unhide HT).trans (hk.mono (unhide HT).size))
        replace HG := hide ((hk.block _ (lt_of_block (unhide HG))).trans (unhide HG))
        replace HH7 := hide ((hk.block _ (lt_of_block (unhide HH7))).trans (unhide HH7))
        clear hk
        have c0 : w12.cell? ⟨w.heap.size, 0, none⟩ = some (.int .i64 D) := cell_blk (unhide HG) rfl
        have c1 : w12.cell? ⟨w.heap.size, 1, none⟩ = some (.int .i64 B) := cell_blk (unhide HG) rfl
        have c2 : w12.cell? ⟨w.heap.size, 2, none⟩ = some (.int .i64 P) := cell_blk (unhide HG) rfl
        go_wp2_with fail
        clear c0 c1 c2
        refine (make_any D B P _).mono ?_
        rintro e w13 ⟨d1, b1, p1, hok1, hm1, rfl, hk⟩
        have HM1 := hide hm1
        clear hok1 hm1
        replace HT := hide ((unhide HT).trans (hk.mono (unhide HT).size))
        replace HG := hide ((hk.block _ (lt_of_block (unhide HG))).trans (unhide HG))
        replace HH7 := hide ((hk.block _ (lt_of_block (unhide HH7))).trans (unhide HH7))
        clear hk
        go_wp2_with fail
        refine (new_code d1 b1 p1 _ gv l _ ((unhide HV).below (unhide HT) (unhide HLT))).mono ?_
        rintro e w14 ⟨⟨p14, rfl⟩, hk⟩
        replace HT := hide ((unhide HT).trans (hk.mono (unhide HT).size))
        replace HG := hide ((hk.block _ (lt_of_block (unhide HG))).trans (unhide HG))
        replace HH7 := hide ((hk.block _ (lt_of_block (unhide HH7))).trans (unhide HH7))
        clear hk
        have c0 : w14.cell? ⟨w.heap.size, 0, none⟩ = some (.int .i64 D) := cell_blk (unhide HG) rfl
        have c1 : w14.cell? ⟨w.heap.size, 1, none⟩ = some (.int .i64 B) := cell_blk (unhide HG) rfl
        have c2 : w14.cell? ⟨w.heap.size, 2, none⟩ = some (.int .i64 P) := cell_blk (unhide HG) rfl
        go_wp2_with fail
        clear c0 c1 c2
        refine (make_any D B P _).mono ?_
        rintro e w15 ⟨d2, b2, p2, hok2, hm2, rfl, hk⟩
        obtain rfl : d2 = d1 := by have := unhide HM1; omega
        obtain rfl : b2 = b1 := by have := unhide HM1; omega
        obtain rfl : p2 = p1 := by have := unhide HM1; omega
        clear hok2 hm2
        replace HT := hide ((unhide HT).trans (hk.mono (unhide HT).size))
        replace HG := hide ((hk.block _ (lt_of_block (unhide HG))).trans (unhide HG))
        replace HH7 := hide ((hk.block _ (lt_of_block (unhide HH7))).trans (unhide HH7))
        clear hk
        go_wp2_with fail
        refine (rnew_code d2 b2 p2 _ gv l _ ((unhide HV).below (unhide HT) (unhide HLT))).mono ?_
        rintro e w16 ⟨⟨p16, rfl⟩, hk⟩
        generalize code D B P l = x1
        generalize code d2 b2 p2 l = x2
        replace HT := hide ((unhide HT).trans (hk.mono (unhide HT).size))
        replace HG := hide ((hk.block _ (lt_of_block (unhide HG))).trans (unhide HG))
        replace HH7 := hide ((hk.block _ (lt_of_block (unhide HH7))).trans (unhide HH7))
        clear hk
        go_wp2_with fail
        go_returns
        exact ⟨rfl, unhide HT⟩
      · rw [hk]
        clear hk
        have hH := unhide HH7
        have hfr : W8.frozen? ⟨q, 2, none⟩ = false := free_blk hH
        have hce : W8.cell? ⟨q, 2, none⟩ = some (.int .i64 5) := cell_blk hH rfl
        have hset := heap_setCell_same W8 q 2 _ _ (.int .i64 8) hH
        clear hH
        have HT9 : Hid (Below w.heap.size w (W8.setCell ⟨q, 2, none⟩ (.int .i64 8))) := (unhide HT).setCell (p := ⟨q, 2, none⟩) hq0 _
        have HG9 : Hid ((W8.setCell ⟨q, 2, none⟩ (.int .i64 8)).heap[w.heap.size]? = some (.cells #[.int .i64 D, .int .i64 B, .int .i64 P] 23 (0, 0))) := (Below.heap_setCell _ _ _ _ (by show w.heap.size ≠ q; omega)).trans (unhide HG)
        have HH9 : Hid ((W8.setCell ⟨q, 2, none⟩ (.int .i64 8)).heap[q]? = some (.cells #[.int .i64 7, .int .i64 9, .int .i64 8] 23 (0, 0))) := hset
        have c0 : (W8.setCell ⟨q, 2, none⟩ (.int .i64 8)).cell? ⟨w.heap.size, 0, none⟩ = some (.int .i64 D) := cell_blk (unhide HG9) rfl
        have c1 : (W8.setCell ⟨q, 2, none⟩ (.int .i64 8)).cell? ⟨w.heap.size, 1, none⟩ = some (.int .i64 B) := cell_blk (unhide HG9) rfl
        have c2 : (W8.setCell ⟨q, 2, none⟩ (.int .i64 8)).cell? ⟨w.heap.size, 2, none⟩ = some (.int .i64 P) := cell_blk (unhide HG9) rfl
        go_wp2_with fail
        clear hfr hce c0 c1 c2
        clear hset HT HG HH7
        generalize W8.setCell ⟨q, 2, none⟩ (.int .i64 8) = W9 at HT9 HG9 HH9 ⊢
        have HT := HT9
        have HG := HG9
        have HH7 := HH9
        clear HT9 HG9 HH9
        refine (new_code D B P _ gv l _ ((unhide HV).below (unhide HT) (unhide HLT))).mono ?_
        rintro e w10 ⟨⟨p10, rfl⟩, hk⟩
        replace HT := hide ((unhide HT).trans (hk.mono (unhide HT).size))
        replace HG := hide ((hk.block _ (lt_of_block (unhide HG))).trans (unhide HG))
        replace HH7 := hide ((hk.block _ (lt_of_block (unhide HH7))).trans (unhide HH7))
        clear hk
        have c0 : w10.cell? ⟨w.heap.size, 0, none⟩ = some (.int .i64 D) := cell_blk (unhide HG) rfl
        have c1 : w10.cell? ⟨w.heap.size, 1, none⟩ = some (.int .i64 B) := cell_blk (unhide HG) rfl
        have c2 : w10.cell? ⟨w.heap.size, 2, none⟩ = some (.int .i64 P) := cell_blk (unhide HG) rfl
        go_wp2_with fail
        clear c0 c1 c2
        refine (rnew_code D B P _ gv l _ ((unhide HV).below (unhide HT) (unhide HLT))).mono ?_
        rintro e w11 ⟨⟨p11, rfl⟩, hk⟩
        replace HT := hide ((unhide HT).trans (hk.mono (unhide HT).size))
        replace HG := hide ((hk.block _ (lt_of_block (unhide HG))).trans (unhide HG))
        replace HH7 := hide ((hk.block _ (lt_of_block (unhide HH7))).trans (unhide HH7))
        clear hk
        have h0 : w11.cell? ⟨q, 0, none⟩ = some (.int .i64 7) := cell_blk (unhide HH7) rfl
        have h1 : w11.cell? ⟨q, 1, none⟩ = some (.int .i64 9) := cell_blk (unhide HH7) rfl
        have h2 : w11.cell? ⟨q, 2, none⟩ = some (.int .i64 8) := cell_blk (unhide HH7) rfl
        go_wp2_with fail
        clear h0 h1 h2
        refine (new_code 7 9 8 _ 0 [] _ (PArg.nil _)).mono ?_
        rintro e w12 ⟨⟨p12, rfl⟩, hk⟩
        rw [show code 7 9 8 [] = 0 from by decide]
        replace HT := hide ((unhide HT).trans (hk.mono (unhide HT).size))
        replace HG := hide ((hk.block _ (lt_of_block (unhide HG))).trans (unhide HG))
        replace HH7 := hide ((hk.block _ (lt_of_block (unhide HH7))).trans (unhide HH7))
        clear hk
        have c0 : w12.cell? ⟨w.heap.size, 0, none⟩ = some (.int .i64 D) := cell_blk (unhide HG) rfl
        have c1 : w12.cell? ⟨w.heap.size, 1, none⟩ = some (.int .i64 B) := cell_blk (unhide HG) rfl
        have c2 : w12.cell? ⟨w.heap.size, 2, none⟩ = some (.int .i64 P) := cell_blk (unhide HG) rfl
        go_wp2_with fail
        clear c0 c1 c2
        refine (make_any D B P _).mono ?_
        rintro e w13 ⟨d1, b1, p1, hok1, hm1, rfl, hk⟩
        have HM1 := hide hm1
        clear hok1 hm1
        replace HT := hide ((unhide HT).trans (hk.mono (unhide HT).size))
        replace HG := hide ((hk.block _ (lt_of_block (unhide HG))).trans (unhide HG))
        replace HH7 := hide ((hk.block _ (lt_of_block (unhide HH7))).trans (unhide HH7))
        clear hk
        go_wp2_with fail
        refine (new_code d1 b1 p1 _ gv l _ ((unhide HV).below (unhide HT) (unhide HLT))).mono ?_
        rintro e w14 ⟨⟨p14, rfl⟩, hk⟩
        replace HT := hide ((unhide HT).trans (hk.mono (unhide HT).size))
        replace HG := hide ((hk.block _ (lt_of_block (unhide HG))).trans (unhide HG))
        replace HH7 := hide ((hk.block _ (lt_of_block (unhide HH7))).trans (unhide HH7))
        clear hk
        have c0 : w14.cell? ⟨w.heap.size, 0, none⟩ = some (.int .i64 D) := cell_blk (unhide HG) rfl
        have c1 : w14.cell? ⟨w.heap.size, 1, none⟩ = some (.int .i64 B) := cell_blk (unhide HG) rfl
        have c2 : w14.cell? ⟨w.heap.size, 2, none⟩ = some (.int .i64 P) := cell_blk (unhide HG) rfl
        go_wp2_with fail
        clear c0 c1 c2
        refine (make_any D B P _).mono ?_
        rintro e w15 ⟨d2, b2, p2, hok2, hm2, rfl, hk⟩
        obtain rfl : d2 = d1 := by have := unhide HM1; omega
        obtain rfl : b2 = b1 := by have := unhide HM1; omega
        obtain rfl : p2 = p1 := by have := unhide HM1; omega
        clear hok2 hm2
        replace HT := hide ((unhide HT).trans (hk.mono (unhide HT).size))
        replace HG := hide ((hk.block _ (lt_of_block (unhide HG))).trans (unhide HG))
        replace HH7 := hide ((hk.block _ (lt_of_block (unhide HH7))).trans (unhide HH7))
        clear hk
        go_wp2_with fail
        refine (rnew_code d2 b2 p2 _ gv l _ ((unhide HV).below (unhide HT) (unhide HLT))).mono ?_
        rintro e w16 ⟨⟨p16, rfl⟩, hk⟩
        generalize code D B P l = x1
        generalize code d2 b2 p2 l = x2
        replace HT := hide ((unhide HT).trans (hk.mono (unhide HT).size))
        replace HG := hide ((hk.block _ (lt_of_block (unhide HG))).trans (unhide HG))
        replace HH7 := hide ((hk.block _ (lt_of_block (unhide HH7))).trans (unhide HH7))
        clear hk
        go_wp2_with fail
        go_returns
        exact ⟨rfl, unhide HT⟩
      · rw [hk]
        clear hk
        have hH := unhide HH7
        have hfr : W8.frozen? ⟨q, 2, none⟩ = false := free_blk hH
        have hce : W8.cell? ⟨q, 2, none⟩ = some (.int .i64 5) := cell_blk hH rfl
        have hset := heap_setCell_same W8 q 2 _ _ (.int .i64 4) hH
        clear hH
        have HT9 : Hid (Below w.heap.size w (W8.setCell ⟨q, 2, none⟩ (.int .i64 4))) := (unhide HT).setCell (p := ⟨q, 2, none⟩) hq0 _
        have HG9 : Hid ((W8.setCell ⟨q, 2, none⟩ (.int .i64 4)).heap[w.heap.size]? = some (.cells #[.int .i64 D, .int .i64 B, .int .i64 P] 23 (0, 0))) := (Below.heap_setCell _ _ _ _ (by show w.heap.size ≠ q; omega)).trans (unhide HG)
        have HH9 : Hid ((W8.setCell ⟨q, 2, none⟩ (.int .i64 4)).heap[q]? = some (.cells #[.int .i64 7, .int .i64 9, .int .i64 4] 23 (0, 0))) := hset
        have c0 : (W8.setCell ⟨q, 2, none⟩ (.int .i64 4)).cell? ⟨w.heap.size, 0, none⟩ = some (.int .i64 D) := cell_blk (unhide HG9) rfl
        have c1 : (W8.setCell ⟨q, 2, none⟩ (.int .i64 4)).cell? ⟨w.heap.size, 1, none⟩ = some (.int .i64 B) := cell_blk (unhide HG9) rfl
        have c2 : (W8.setCell ⟨q, 2, none⟩ (.int .i64 4)).cell? ⟨w.heap.size, 2, none⟩ = some (.int .i64 P) := cell_blk (unhide HG9) rfl
        go_wp2_with fail
        clear hfr hce c0 c1 c2
        clear hset HT HG HH7
        generalize W8.setCell ⟨q, 2, none⟩ (.int .i64 4) = W9 at HT9 HG9 HH9 ⊢
        have HT := HT9
        have HG := HG9
        have HH7 := HH9
        clear HT9 HG9 HH9
        refine (new_code D B P _ gv l _ ((unhide HV).below (unhide HT) (unhide HLT))).mono ?_
        rintro e w10 ⟨⟨p10, rfl⟩, hk⟩
        replace HT := hide ((unhide HT).trans (hk.mono (unhide HT).size))
        replace HG := hide ((hk.block _ (lt_of_block (unhide HG))).trans (unhide HG))
        replace HH7 := hide ((hk.block _ (lt_of_block (unhide HH7))).trans (unhide HH7))
        clear hk
        have c0 : w10.cell? ⟨w.heap.size, 0, none⟩ = some (.int .i64 D) := cell_blk (unhide HG) rfl
        have c1 : w10.cell? ⟨w.heap.size, 1, none⟩ = some (.int .i64 B) := cell_blk (unhide HG) rfl
        have c2 : w10.cell? ⟨w.heap.size, 2, none⟩ = some (.int .i64 P) := cell_blk (unhide HG) rfl
        go_wp2_with fail
        clear c0 c1 c2
        refine (rnew_code D B P _ gv l _ ((unhide HV).below (unhide HT) (unhide HLT))).mono ?_
        rintro e w11 ⟨⟨p11, rfl⟩, hk⟩
        replace HT := hide ((unhide HT).trans (hk.mono (unhide HT).size))
        replace HG := hide ((hk.block _ (lt_of_block (unhide HG))).trans (unhide HG))
        replace HH7 := hide ((hk.block _ (lt_of_block (unhide HH7))).trans (unhide HH7))
        clear hk
        have h0 : w11.cell? ⟨q, 0, none⟩ = some (.int .i64 7) := cell_blk (unhide HH7) rfl
        have h1 : w11.cell? ⟨q, 1, none⟩ = some (.int .i64 9) := cell_blk (unhide HH7) rfl
        have h2 : w11.cell? ⟨q, 2, none⟩ = some (.int .i64 4) := cell_blk (unhide HH7) rfl
        go_wp2_with fail
        clear h0 h1 h2
        refine (new_code 7 9 4 _ 0 [] _ (PArg.nil _)).mono ?_
        rintro e w12 ⟨⟨p12, rfl⟩, hk⟩
        rw [show code 7 9 4 [] = 0 from by decide]
        replace HT := hide ((unhide HT).trans (hk.mono (unhide HT).size))
        replace HG := hide ((hk.block _ (lt_of_block (unhide HG))).trans (unhide HG))
        replace HH7 := hide ((hk.block _ (lt_of_block (unhide HH7))).trans (unhide HH7))
        clear hk
        have c0 : w12.cell? ⟨w.heap.size, 0, none⟩ = some (.int .i64 D) := cell_blk (unhide HG) rfl
        have c1 : w12.cell? ⟨w.heap.size, 1, none⟩ = some (.int .i64 B) := cell_blk (unhide HG) rfl
        have c2 : w12.cell? ⟨w.heap.size, 2, none⟩ = some (.int .i64 P) := cell_blk (unhide HG) rfl
        go_wp2_with fail
        clear c0 c1 c2
        refine (make_any D B P _).mono ?_
        rintro e w13 ⟨d1, b1, p1, hok1, hm1, rfl, hk⟩
        have HM1 := hide hm1
        clear hok1 hm1
        replace HT := hide ((unhide HT).trans (hk.mono (unhide HT).size))
        replace HG := hide ((hk.block _ (lt_of_block (unhide HG))).trans (unhide HG))
        replace HH7 := hide ((hk.block _ (lt_of_block (unhide HH7))).trans (unhide HH7))
        clear hk
        go_wp2_with fail
        refine (new_code d1 b1 p1 _ gv l _ ((unhide HV).below (unhide HT) (unhide HLT))).mono ?_
        rintro e w14 ⟨⟨p14, rfl⟩, hk⟩
        replace HT := hide ((unhide HT).trans (hk.mono (unhide HT).size))
        replace HG := hide ((hk.block _ (lt_of_block (unhide HG))).trans (unhide HG))
        replace HH7 := hide ((hk.block _ (lt_of_block (unhide HH7))).trans (unhide HH7))
        clear hk
        have c0 : w14.cell? ⟨w.heap.size, 0, none⟩ = some (.int .i64 D) := cell_blk (unhide HG) rfl
        have c1 : w14.cell? ⟨w.heap.size, 1, none⟩ = some (.int .i64 B) := cell_blk (unhide HG) rfl
        have c2 : w14.cell? ⟨w.heap.size, 2, none⟩ = some (.int .i64 P) := cell_blk (unhide HG) rfl
        go_wp2_with fail
        clear c0 c1 c2
        refine (make_any D B P _).mono ?_
        rintro e w15 ⟨d2, b2, p2, hok2, hm2, rfl, hk⟩
        obtain rfl : d2 = d1 := by have := unhide HM1; omega
        obtain rfl : b2 = b1 := by have := unhide HM1; omega
        obtain rfl : p2 = p1 := by have := unhide HM1; omega
        clear hok2 hm2
        replace HT := hide ((unhide HT).trans (hk.mono (unhide HT).size))
        replace HG := hide ((hk.block _ (lt_of_block (unhide HG))).trans (unhide HG))
        replace HH7 := hide ((hk.block _ (lt_of_block (unhide HH7))).trans (unhide HH7))
        clear hk
        go_wp2_with fail
        refine (rnew_code d2 b2 p2 _ gv l _ ((unhide HV).below (unhide HT) (unhide HLT))).mono ?_
        rintro e w16 ⟨⟨p16, rfl⟩, hk⟩
        generalize code D B P l = x1
        generalize code d2 b2 p2 l = x2
        replace HT := hide ((unhide HT).trans (hk.mono (unhide HT).size))
        replace HG := hide ((hk.block _ (lt_of_block (unhide HG))).trans (unhide HG))
        replace HH7 := hide ((hk.block _ (lt_of_block (unhide HH7))).trans (unhide HH7))
        clear hk
        go_wp2_with fail
        go_returns
        exact ⟨rfl, unhide HT⟩
    · go_wp2_with fail
      have hal8 : Below w0.heap.size w0 (w0.alloc (.cells #[.int .i64 7, .int .i64 9, .int .i64 5] 23)) := (Below.refl _ _).alloc (Nat.le_refl _) _
      have hnn8 := World.alloc_heap_new w0 (.cells #[.int .i64 7, .int .i64 9, .int .i64 5] 23)
      have hq0 := (unhide HT).size
      have hg0 := lt_of_block (unhide HG)
      replace HT := hide ((unhide HT).trans (hal8.mono (unhide HT).size))
      replace HG := hide ((hal8.block _ (lt_of_block (unhide HG))).trans (unhide HG))
      have HH7 := hide hnn8
      clear hal8 hnn8
      refine (within7_any _ 6 _ (by omega) (by omega)).mono ?_
      rintro e W8 ⟨rfl, rfl⟩
      generalize w0.alloc (.cells #[.int .i64 7, .int .i64 9, .int .i64 5] 23) = W8 at HT HG HH7 ⊢
      obtain ⟨q, hq⟩ : ∃ q, w0.heap.size = q := ⟨_, rfl⟩
      rw [hq] at hq0 hg0 HH7 ⊢
      clear hq
      obtain hk | hk | hk | hk | hk | hk : wh % 6 = 0 ∨ wh % 6 = 1 ∨ wh % 6 = 2 ∨ wh % 6 = 3 ∨ wh % 6 = 4 ∨ wh % 6 = 5 := by omega
      · rw [hk]
        clear hk
        have hH := unhide HH7
        have hfr : W8.frozen? ⟨q, 0, none⟩ = false := free_blk hH
        have hce : W8.cell? ⟨q, 0, none⟩ = some (.int .i64 7) := cell_blk hH rfl
        have hset := heap_setCell_same W8 q 0 _ _ (.int .i64 9) hH
        clear hH
        have HT9 : Hid (Below w.heap.size w (W8.setCell ⟨q, 0, none⟩ (.int .i64 9))) := (unhide HT).setCell (p := ⟨q, 0, none⟩) hq0 _
        have HG9 : Hid ((W8.setCell ⟨q, 0, none⟩ (.int .i64 9)).heap[w.heap.size]? = some (.cells #[.int .i64 D, .int .i64 B, .int .i64 P] 23 (0, 0))) := (Below.heap_setCell _ _ _ _ (by show w.heap.size ≠ q; omega)).trans (unhide HG)
        have HH9 : Hid ((W8.setCell ⟨q, 0, none⟩ (.int .i64 9)).heap[q]? = some (.cells #[.int .i64 9, .int .i64 9, .int .i64 5] 23 (0, 0))) := hset
        have c0 : (W8.setCell ⟨q, 0, none⟩ (.int .i64 9)).cell? ⟨w.heap.size, 0, none⟩ = some (.int .i64 D) := cell_blk (unhide HG9) rfl
        have c1 : (W8.setCell ⟨q, 0, none⟩ (.int .i64 9)).cell? ⟨w.heap.size, 1, none⟩ = some (.int .i64 B) := cell_blk (unhide HG9) rfl
        have c2 : (W8.setCell ⟨q, 0, none⟩ (.int .i64 9)).cell? ⟨w.heap.size, 2, none⟩ = some (.int .i64 P) := cell_blk (unhide HG9) rfl
        go_wp2_with fail
        clear hfr hce c0 c1 c2
        clear hset HT HG HH7
        generalize W8.setCell ⟨q, 0, none⟩ (.int .i64 9) = W9 at HT9 HG9 HH9 ⊢
        have HT := HT9
        have HG := HG9
        have HH7 := HH9
        clear HT9 HG9 HH9
        refine (new_code D B P _ gv l _ ((unhide HV).below (unhide HT) (unhide HLT))).mono ?_
        rintro e w10 ⟨⟨p10, rfl⟩, hk⟩
        replace HT := hide ((unhide HT).trans (hk.mono (unhide HT).size))
        replace HG := hide ((hk.block _ (lt_of_block (unhide HG))).trans (unhide HG))
        replace HH7 := hide ((hk.block _ (lt_of_block (unhide HH7))).trans (unhide HH7))
        clear hk
        have c0 : w10.cell? ⟨w.heap.size, 0, none⟩ = some (.int .i64 D) := cell_blk (unhide HG) rfl
        have c1 : w10.cell? ⟨w.heap.size, 1, none⟩ = some (.int .i64 B) := cell_blk (unhide HG) rfl
        have c2 : w10.cell? ⟨w.heap.size, 2, none⟩ = some (.int .i64 P) := cell_blk (unhide HG) rfl
        go_wp2_with fail
        clear c0 c1 c2
        refine (rnew_code D B P _ gv l _ ((unhide HV).below (unhide HT) (unhide HLT))).mono ?_
        rintro e w11 ⟨⟨p11, rfl⟩, hk⟩
        replace HT := hide ((unhide HT).trans (hk.mono (unhide HT).size))
        replace HG := hide ((hk.block _ (lt_of_block (unhide HG))).trans (unhide HG))
        replace HH7 := hide ((hk.block _ (lt_of_block (unhide HH7))).trans (unhide HH7))
        clear hk
        have h0 : w11.cell? ⟨q, 0, none⟩ = some (.int .i64 9) := cell_blk (unhide HH7) rfl
        have h1 : w11.cell? ⟨q, 1, none⟩ = some (.int .i64 9) := cell_blk (unhide HH7) rfl
        have h2 : w11.cell? ⟨q, 2, none⟩ = some (.int .i64 5) := cell_blk (unhide HH7) rfl
        go_wp2_with fail
        clear h0 h1 h2
        refine (new_code 9 9 5 _ 0 [] _ (PArg.nil _)).mono ?_
        rintro e w12 ⟨⟨p12, rfl⟩, hk⟩
        rw [show code 9 9 5 [] = 1 from by decide]
        replace HT := hide ((unhide HT).trans (hk.mono (unhide HT).size))
        replace HG := hide ((hk.block _ (lt_of_block (unhide HG))).trans (unhide HG))
        replace HH7 := hide ((hk.block _ (lt_of_block (unhide HH7))).trans (unhide HH7))
        clear hk
        have c0 : w12.cell? ⟨w.heap.size, 0, none⟩ = some (.int .i64 D) := cell_blk (unhide HG) rfl
        have c1 : w12.cell? ⟨w.heap.size, 1, none⟩ = some (.int .i64 B) := cell_blk (unhide HG) rfl
        have c2 : w12.cell? ⟨w.heap.size, 2, none⟩ = some (.int .i64 P) := cell_blk (unhide HG) rfl
        go_wp2_with fail
        clear c0 c1 c2
        refine (make_any D B P _).mono ?_
        rintro e w13 ⟨d1, b1, p1, hok1, hm1, rfl, hk⟩
        have HM1 := hide hm1
        clear hok1 hm1
        replace HT := hide ((unhide HT).trans (hk.mono (unhide HT).size))
        replace HG := hide ((hk.block _ (lt_of_block (unhide HG))).trans (unhide HG))
        replace HH7 := hide ((hk.block _ (lt_of_block (unhide HH7))).trans (unhide HH7))
        clear hk
        go_wp2_with fail
        refine (new_code d1 b1 p1 _ gv l _ ((unhide HV).below (unhide HT) (unhide HLT))).mono ?_
        rintro e w14 ⟨⟨p14, rfl⟩, hk⟩
        replace HT := hide ((unhide HT).trans (hk.mono (unhide HT).size))
        replace HG := hide ((hk.block _ (lt_of_block (unhide HG))).trans (unhide HG))
        replace HH7 := hide ((hk.block _ (lt_of_block (unhide HH7))).trans (unhide HH7))
        clear hk
        have c0 : w14.cell? ⟨w.heap.size, 0, none⟩ = some (.int .i64 D) := cell_blk (unhide HG) rfl
        have c1 : w14.cell? ⟨w.heap.size, 1, none⟩ = some (.int .i64 B) := cell_blk (unhide HG) rfl
        have c2 : w14.cell? ⟨w.heap.size, 2, none⟩ = some (.int .i64 P) := cell_blk (unhide HG) rfl
        go_wp2_with fail
        clear c0 c1 c2
        refine (make_any D B P _).mono ?_
        rintro e w15 ⟨d2, b2, p2, hok2, hm2, rfl, hk⟩
        obtain rfl : d2 = d1 := by have := unhide HM1; omega
        obtain rfl : b2 = b1 := by have := unhide HM1; omega
        obtain rfl : p2 = p1 := by have := unhide HM1; omega
        clear hok2 hm2
        replace HT := hide ((unhide HT).trans (hk.mono (unhide HT).size))
        replace HG := hide ((hk.block _ (lt_of_block (unhide HG))).trans (unhide HG))
        replace HH7 := hide ((hk.block _ (lt_of_block (unhide HH7))).trans (unhide HH7))
        clear hk
        go_wp2_with fail
        refine (rnew_code d2 b2 p2 _ gv l _ ((unhide HV).below (unhide HT) (unhide HLT))).mono ?_
        rintro e w16 ⟨⟨p16, rfl⟩, hk⟩
        generalize code D B P l = x1
        generalize code d2 b2 p2 l = x2
        replace HT := hide ((unhide HT).trans (hk.mono (unhide HT).size))
        replace HG := hide ((hk.block _ (lt_of_block (unhide HG))).trans (unhide HG))
        replace HH7 := hide ((hk.block _ (lt_of_block (unhide HH7))).trans (unhide HH7))
        clear hk
        go_wp2_with fail
        go_returns
        exact ⟨rfl, unhide HT⟩
      · rw [hk]
        clear hk
        have hH := unhide HH7
        have hfr : W8.frozen? ⟨q, 0, none⟩ = false := free_blk hH
        have hce : W8.cell? ⟨q, 0, none⟩ = some (.int .i64 7) := cell_blk hH rfl
        have hset := heap_setCell_same W8 q 0 _ _ (.int .i64 5) hH
        clear hH
        have HT9 : Hid (Below w.heap.size w (W8.setCell ⟨q, 0, none⟩ (.int .i64 5))) := (unhide HT).setCell (p := ⟨q, 0, none⟩) hq0 _
        have HG9 : Hid ((W8.setCell ⟨q, 0, none⟩ (.int .i64 5)).heap[w.heap.size]? = some (.cells #[.int .i64 D, .int .i64 B, .int .i64 P] 23 (0, 0))) := (Below.heap_setCell _ _ _ _ (by show w.heap.size ≠ q; omega)).trans (unhide HG)
        have HH9 : Hid ((W8.setCell ⟨q, 0, none⟩ (.int .i64 5)).heap[q]? = some (.cells #[.int .i64 5, .int .i64 9, .int .i64 5] 23 (0, 0))) := hset
        have c0 : (W8.setCell ⟨q, 0, none⟩ (.int .i64 5)).cell? ⟨w.heap.size, 0, none⟩ = some (.int .i64 D) := cell_blk (unhide HG9) rfl
        have c1 : (W8.setCell ⟨q, 0, none⟩ (.int .i64 5)).cell? ⟨w.heap.size, 1, none⟩ = some (.int .i64 B) := cell_blk (unhide HG9) rfl
        have c2 : (W8.setCell ⟨q, 0, none⟩ (.int .i64 5)).cell? ⟨w.heap.size, 2, none⟩ = some (.int .i64 P) := cell_blk (unhide HG9) rfl
        go_wp2_with fail
        clear hfr hce c0 c1 c2
        clear hset HT HG HH7
        generalize W8.setCell ⟨q, 0, none⟩ (.int .i64 5) = W9 at HT9 HG9 HH9 ⊢
        have HT := HT9
        have HG := HG9
        have HH7 := HH9
        clear HT9 HG9 HH9
        refine (new_code D B P _ gv l _ ((unhide HV).below (unhide HT) (unhide HLT))).mono ?_
        rintro e w10 ⟨⟨p10, rfl⟩, hk⟩
        replace HT := hide ((unhide HT).trans (hk.mono (unhide HT).size))
        replace HG := hide ((hk.block _ (lt_of_block (unhide HG))).trans (unhide HG))
        replace HH7 := hide ((hk.block _ (lt_of_block (unhide HH7))).trans (unhide HH7))
        clear hk
        have c0 : w10.cell? ⟨w.heap.size, 0, none⟩ = some (.int .i64 D) := cell_blk (unhide HG) rfl
        have c1 : w10.cell? ⟨w.heap.size, 1, none⟩ = some (.int .i64 B) := cell_blk (unhide HG) rfl
        have c2 : w10.cell? ⟨w.heap.size, 2, none⟩ = some (.int .i64 P) := cell_blk (unhide HG) rfl
        go_wp2_with fail
        clear c0 c1 c2
        refine (rnew_code D B P _ gv l _ ((unhide HV).below (unhide HT) (unhide HLT))).mono ?_
        rintro e w11 ⟨⟨p11, rfl⟩, hk⟩
        replace HT := hide ((unhide HT).trans (hk.mono (unhide HT).size))
        replace HG := hide ((hk.block _ (lt_of_block (unhide HG))).trans (unhide HG))
        replace HH7 := hide ((hk.block _ (lt_of_block (unhide HH7))).trans (unhide HH7))
        clear hk
        have h0 : w11.cell? ⟨q, 0, none⟩ = some (.int .i64 5) := cell_blk (unhide HH7) rfl
        have h1 : w11.cell? ⟨q, 1, none⟩ = some (.int .i64 9) := cell_blk (unhide HH7) rfl
        have h2 : w11.cell? ⟨q, 2, none⟩ = some (.int .i64 5) := cell_blk (unhide HH7) rfl
        go_wp2_with fail
        clear h0 h1 h2
        refine (new_code 5 9 5 _ 0 [] _ (PArg.nil _)).mono ?_
        rintro e w12 ⟨⟨p12, rfl⟩, hk⟩
        rw [show code 5 9 5 [] = 1 from by decide]
        replace HT := hide ((unhide HT).trans (hk.mono (unhide HT).size))
        replace HG := hide ((hk.block _ (lt_of_block (unhide HG))).trans (unhide HG))
        replace HH7 := hide ((hk.block _ (lt_of_block (unhide HH7))).trans (unhide HH7))
        clear hk
        have c0 : w12.cell? ⟨w.heap.size, 0, none⟩ = some (.int .i64 D) := cell_blk (unhide HG) rfl
        have c1 : w12.cell? ⟨w.heap.size, 1, none⟩ = some (.int .i64 B) := cell_blk (unhide HG) rfl
        have c2 : w12.cell? ⟨w.heap.size, 2, none⟩ = some (.int .i64 P) := cell_blk (unhide HG) rfl
        go_wp2_with fail
        clear c0 c1 c2
        refine (make_any D B P _).mono ?_
        rintro e w13 ⟨d1, b1, p1, hok1, hm1, rfl, hk⟩
        have HM1 := hide hm1
        clear hok1 hm1
        replace HT := hide ((unhide HT).trans (hk.mono (unhide HT).size))
        replace HG := hide ((hk.block _ (lt_of_block (unhide HG))).trans (unhide HG))
        replace HH7 := hide ((hk.block _ (lt_of_block (unhide HH7))).trans (unhide HH7))
        clear hk
        go_wp2_with fail
        refine (new_code d1 b1 p1 _ gv l _ ((unhide HV).below (unhide HT) (unhide HLT))).mono ?_
        rintro e w14 ⟨⟨p14, rfl⟩, hk⟩
        replace HT := hide ((unhide HT).trans (hk.mono (unhide HT).size))
        replace HG := hide ((hk.block _ (lt_of_block (unhide HG))).trans (unhide HG))
        replace HH7 := hide ((hk.block _ (lt_of_block (unhide HH7))).trans (unhide HH7))
        clear hk
        have c0 : w14.cell? ⟨w.heap.size, 0, none⟩ = some (.int .i64 D) := cell_blk (unhide HG) rfl
        have c1 : w14.cell? ⟨w.heap.size, 1, none⟩ = some (.int .i64 B) := cell_blk (unhide HG) rfl
        have c2 : w14.cell? ⟨w.heap.size, 2, none⟩ = some (.int .i64 P) := cell_blk (unhide HG) rfl
        go_wp2_with fail
        clear c0 c1 c2
        refine (make_any D B P _).mono ?_
        rintro e w15 ⟨d2, b2, p2, hok2, hm2, rfl, hk⟩
        obtain rfl : d2 = d1 := by have := unhide HM1; omega
        obtain rfl : b2 = b1 := by have := unhide HM1; omega
        obtain rfl : p2 = p1 := by have := unhide HM1; omega
        clear hok2 hm2
        replace HT := hide ((unhide HT).trans (hk.mono (unhide HT).size))
        replace HG := hide ((hk.block _ (lt_of_block (unhide HG))).trans (unhide HG))
        replace HH7 := hide ((hk.block _ (lt_of_block (unhide HH7))).trans (unhide HH7))
        clear hk
        go_wp2_with fail
        refine (rnew_code d2 b2 p2 _ gv l _ ((unhide HV).below (unhide HT) (unhide HLT))).mono ?_
        rintro e w16 ⟨⟨p16, rfl⟩, hk⟩
        generalize code D B P l = x1
        generalize code d2 b2 p2 l = x2
        replace HT := hide ((unhide HT).trans (hk.mono (unhide HT).size))
        replace HG := hide ((hk.block _ (lt_of_block (unhide HG))).trans (unhide HG))
        replace HH7 := hide ((hk.block _ (lt_of_block (unhide HH7))).trans (unhide HH7))
        clear hk
        go_wp2_with fail
        go_returns
        exact ⟨rfl, unhide HT⟩
      · rw [hk]
        clear hk
        have hH := unhide HH7
        have hfr : W8.frozen? ⟨q, 1, none⟩ = false := free_blk hH
        have hce : W8.cell? ⟨q, 1, none⟩ = some (.int .i64 9) := cell_blk hH rfl
        have hset := heap_setCell_same W8 q 1 _ _ (.int .i64 13) hH
        clear hH
        have HT9 : Hid (Below w.heap.size w (W8.setCell ⟨q, 1, none⟩ (.int .i64 13))) := (unhide HT).setCell (p := ⟨q, 1, none⟩) hq0 _
        have HG9 : Hid ((W8.setCell ⟨q, 1, none⟩ (.int .i64 13)).heap[w.heap.size]? = some (.cells #[.int .i64 D, .int .i64 B, .int .i64 P] 23 (0, 0))) := (Below.heap_setCell _ _ _ _ (by show w.heap.size ≠ q; omega)).trans (unhide HG)
        have HH9 : Hid ((W8.setCell ⟨q, 1, none⟩ (.int .i64 13)).heap[q]? = some (.cells #[.int .i64 7, .int .i64 13, .int .i64 5] 23 (0, 0))) := hset
        have c0 : (W8.setCell ⟨q, 1, none⟩ (.int .i64 13)).cell? ⟨w.heap.size, 0, none⟩ = some (.int .i64 D) := cell_blk (unhide HG9) rfl
        have c1 : (W8.setCell ⟨q, 1, none⟩ (.int .i64 13)).cell? ⟨w.heap.size, 1, none⟩ = some (.int .i64 B) := cell_blk (unhide HG9) rfl
        have c2 : (W8.setCell ⟨q, 1, none⟩ (.int .i64 13)).cell? ⟨w.heap.size, 2, none⟩ = some (.int .i64 P) := cell_blk (unhide HG9) rfl
        go_wp2_with fail
        clear hfr hce c0 c1 c2
        clear hset HT HG HH7
        generalize W8.setCell ⟨q, 1, none⟩ (.int .i64 13) = W9 at HT9 HG9 HH9 ⊢
        have HT := HT9
        have HG := HG9
        have HH7 := HH9
        clear HT9 HG9 HH9
        refine (new_code D B P _ gv l _ ((unhide HV).below (unhide HT) (unhide HLT))).mono ?_
        rintro e w10 ⟨⟨p10, rfl⟩, hk⟩
        replace HT := hide ((unhide HT).trans (hk.mono (unhide HT).size))
        replace HG := hide ((hk.block _ (lt_of_block (unhide HG))).trans (unhide HG))
        replace HH7 := hide ((hk.block _ (lt_of_block (unhide HH7))).trans (unhide HH7))
        clear hk
        have c0 : w10.cell? ⟨w.heap.size, 0, none⟩ = some (.int .i64 D) := cell_blk (unhide HG) rfl
        have c1 : w10.cell? ⟨w.heap.size, 1, none⟩ = some (.int .i64 B) := cell_blk (unhide HG) rfl
        have c2 : w10.cell? ⟨w.heap.size, 2, none⟩ = some (.int .i64 P) := cell_blk (unhide HG) rfl
        go_wp2_with fail
        clear c0 c1 c2
        refine (rnew_code D B P _ gv l _ ((unhide HV).below (unhide HT) (unhide HLT))).mono ?_
        rintro e w11 ⟨⟨p11, rfl⟩, hk⟩
        replace HT := hide ((unhide HT).trans (hk.mono (unhide HT).size))
        replace HG := hide ((hk.block _ (lt_of_block (unhide HG))).trans (unhide HG))
        replace HH7 := hide ((hk.block _ (lt_of_block (unhide HH7))).trans (unhide HH7))
        clear hk
        have h0 : w11.cell? ⟨q, 0, none⟩ = some (.int .i64 7) := cell_blk (unhide HH7) rfl
        have h1 : w11.cell? ⟨q, 1, none⟩ = some (.int .i64 13) := cell_blk (unhide HH7) rfl
        have h2 : w11.cell? ⟨q, 2, none⟩ = some (.int .i64 5) := cell_blk (unhide HH7) rfl
        go_wp2_with fail
        clear h0 h1 h2
        refine (new_code 7 13 5 _ 0 [] _ (PArg.nil _)).mono ?_
        rintro e w12 ⟨⟨p12, rfl⟩, hk⟩
        rw [show code 7 13 5 [] = 1 from by decide]
        replace HT := hide ((unhide HT).trans (hk.mono (unhide HT).size))
        replace HG := hide ((hk.block _ (lt_of_block (unhide HG))).trans (unhide HG))
        replace HH7 := hide ((hk.block _ (lt_of_block (unhide HH7))).trans (unhide HH7))
        clear hk
        have c0 : w12.cell? ⟨w.heap.size, 0, none⟩ = some (.int .i64 D) := cell_blk (unhide HG) rfl
        have c1 : w12.cell? ⟨w.heap.size, 1, none⟩ = some (.int .i64 B) := cell_blk (unhide HG) rfl
        have c2 : w12.cell? ⟨w.heap.size, 2, none⟩ = some (.int .i64 P) := cell_blk (unhide HG) rfl
        go_wp2_with fail
        clear c0 c1 c2
        refine (make_any D B P _).mono ?_
        rintro e w13 ⟨d1, b1, p1, hok1, hm1, rfl, hk⟩
        have HM1 := hide hm1
        clear hok1 hm1
        replace HT := hide ((unhide HT).trans (hk.mono (unhide HT).size))
        replace HG := hide ((hk.block _ (lt_of_block (unhide HG))).trans (unhide HG))
        replace HH7 := hide ((hk.block _ (lt_of_block (unhide HH7))).trans (unhide HH7))
        clear hk
        go_wp2_with fail
        refine (new_code d1 b1 p1 _ gv l _ ((unhide HV).below (unhide HT) (unhide HLT))).mono ?_
        rintro e w14 ⟨⟨p14, rfl⟩, hk⟩
        replace HT := hide ((unhide HT).trans (hk.mono (unhide HT).size))
        replace HG := hide ((hk.block _ (lt_of_block (unhide HG))).trans (unhide HG))
        replace HH7 := hide ((hk.block _ (lt_of_block (unhide HH7))).trans (unhide HH7))
        clear hk
        have c0 : w14.cell? ⟨w.heap.size, 0, none⟩ = some (.int .i64 D) := cell_blk (unhide HG) rfl
        have c1 : w14.cell? ⟨w.heap.size, 1, none⟩ = some (.int .i64 B) := cell_blk (unhide HG) rfl
        have c2 : w14.cell? ⟨w.heap.size, 2, none⟩ = some (.int .i64 P) := cell_blk (unhide HG) rfl
        go_wp2_with fail
        clear c0 c1 c2
        refine (make_any D B P _).mono ?_
        rintro e w15 ⟨d2, b2, p2, hok2, hm2, rfl, hk⟩
        obtain rfl : d2 = d1 := by have := unhide HM1; omega
        obtain rfl : b2 = b1 := by have := unhide HM1; omega
        obtain rfl : p2 = p1 := by have := unhide HM1; omega
        clear hok2 hm2
        replace HT := hide ((unhide HT).trans (hk.mono (unhide HT).size))
        replace HG := hide ((hk.block _ (lt_of_block (unhide HG))).trans (unhide HG))
        replace HH7 := hide ((hk.block _ (lt_of_block (unhide HH7))).trans (unhide HH7))
        clear hk
        go_wp2_with fail
        refine (rnew_code d2 b2 p2 _ gv l _ ((unhide HV).below (unhide HT) (unhide HLT))).mono ?_
        rintro e w16 ⟨⟨p16, rfl⟩, hk⟩
        generalize code D B P l = x1
        generalize code d2 b2 p2 l = x2
        replace HT := hide ((unhide HT).trans (hk.mono (unhide HT).size))
        replace HG := hide ((hk.block _ (lt_of_block (unhide HG))).trans (unhide HG))
        replace HH7 := hide ((hk.block _ (lt_of_block (unhide HH7))).trans (unhide HH7))
        clear hk
        go_wp2_with fail
        go_returns
        exact ⟨rfl, unhide HT⟩
      · rw [hk]
        clear hk
        have hH := unhide HH7
        have hfr : W8.frozen? ⟨q, 1, none⟩ = false := free_blk hH
        have hce : W8.cell? ⟨q, 1, none⟩ = some (.int .i64 9) := cell_blk hH rfl
        have hset := heap_setCell_same W8 q 1 _ _ (.int .i64 7) hH
        clear hH
        have HT9 : Hid (Below w.heap.size w (W8.setCell ⟨q, 1, none⟩ (.int .i64 7))) := (unhide HT).setCell (p := ⟨q, 1, none⟩) hq0 _
        have HG9 : Hid ((W8.setCell ⟨q, 1, none⟩ (.int .i64 7)).heap[w.heap.size]? = some (.cells #[.int .i64 D, .int .i64 B, .int .i64 P] 23 (0, 0))) := (Below.heap_setCell _ _ _ _ (by show w.heap.size ≠ q; omega)).trans (unhide HG)
        have HH9 : Hid ((W8.setCell ⟨q, 1, none⟩ (.int .i64 7)).heap[q]? = some (.cells #[.int .i64 7, .int .i64 7, .int .i64 5] 23 (0, 0))) := hset
        have c0 : (W8.setCell ⟨q, 1, none⟩ (.int .i64 7)).cell? ⟨w.heap.size, 0, none⟩ = some (.int .i64 D) := cell_blk (unhide HG9) rfl
        have c1 : (W8.setCell ⟨q, 1, none⟩ (.int .i64 7)).cell? ⟨w.heap.size, 1, none⟩ = some (.int .i64 B) := cell_blk (unhide HG9) rfl
        have c2 : (W8.setCell ⟨q, 1, none⟩ (.int .i64 7)).cell? ⟨w.heap.size, 2, none⟩ = some (.int .i64 P) := cell_blk (unhide HG9) rfl
        go_wp2_with fail
        clear hfr hce c0 c1 c2
        clear hset HT HG HH7
        generalize W8.setCell ⟨q, 1, none⟩ (.int .i64 7) = W9 at HT9 HG9 HH9 ⊢
        have HT := HT9
        have HG := HG9
        have HH7 := HH9
        clear HT9 HG9 HH9
        refine (new_code D B P _ gv l _ ((unhide HV).below (unhide HT) (unhide HLT))).mono ?_
        rintro e w10 ⟨⟨p10, rfl⟩, hk⟩
        replace HT := hide ((unhide HT).trans (hk.mono (unhide HT).size))
        replace HG := hide ((hk.block _ (lt_of_block (unhide HG))).trans (unhide HG))
        replace HH7 := hide ((hk.block _ (lt_of_block (unhide HH7))).trans (unhide HH7))
        clear hk
        have c0 : w10.cell? ⟨w.heap.size, 0, none⟩ = some (.int .i64 D) := cell_blk (unhide HG) rfl
        have c1 : w10.cell? ⟨w.heap.size, 1, none⟩ = some (.int .i64 B) := cell_blk (unhide HG) rfl
        have c2 : w10.cell? ⟨w.heap.size, 2, none⟩ = some (.int .i64 P) := cell_blk (unhide HG) rfl
        go_wp2_with fail
        clear c0 c1 c2
        refine (rnew_code D B P _ gv l _ ((unhide HV).below (unhide HT) (unhide HLT))).mono ?_
        rintro e w11 ⟨⟨p11, rfl⟩, hk⟩
        replace HT := hide ((unhide HT).trans (hk.mono (unhide HT).size))
        replace HG := hide ((hk.block _ (lt_of_block (unhide HG))).trans (unhide HG))
        replace HH7 := hide ((hk.block _ (lt_of_block (unhide HH7))).trans (unhide HH7))
        clear hk
        have h0 : w11.cell? ⟨q, 0, none⟩ = some (.int .i64 7) := cell_blk (unhide HH7) rfl
        have h1 : w11.cell? ⟨q, 1, none⟩ = some (.int .i64 7) := cell_blk (unhide HH7) rfl
        have h2 : w11.cell? ⟨q, 2, none⟩ = some (.int .i64 5) := cell_blk (unhide HH7) rfl
        go_wp2_with fail
        clear h0 h1 h2
        refine (new_code 7 7 5 _ 0 [] _ (PArg.nil _)).mono ?_
        rintro e w12 ⟨⟨p12, rfl⟩, hk⟩
        rw [show code 7 7 5 [] = 1 from by decide]
        replace HT := hide ((unhide HT).trans (hk.mono (unhide HT).size))
        replace HG := hide ((hk.block _ (lt_of_block (unhide HG))).trans (unhide HG))
        replace HH7 := hide ((hk.block _ (lt_of_block (unhide HH7))).trans (unhide HH7))
        clear hk
        have c0 : w12.cell? ⟨w.heap.size, 0, none⟩ = some (.int .i64 D) := cell_blk (unhide HG) rfl
        have c1 : w12.cell? ⟨w.heap.size, 1, none⟩ = some (.int .i64 B) := cell_blk (unhide HG) rfl
        have c2 : w12.cell? ⟨w.heap.size, 2, none⟩ = some (.int .i64 P) := cell_blk (unhide HG) rfl
        go_wp2_with fail
        clear c0 c1 c2
        refine (make_any D B P _).mono ?_
        rintro e w13 ⟨d1, b1, p1, hok1, hm1, rfl, hk⟩
        have HM1 := hide hm1
        clear hok1 hm1
        replace HT := hide ((unhide HT).trans (hk.mono (unhide HT).size))
        replace HG := hide ((hk.block _ (lt_of_block (unhide HG))).trans (unhide HG))
        replace HH7 := hide ((hk.block _ (lt_of_block (unhide HH7))).trans (unhide HH7))
        clear hk
        go_wp2_with fail
        refine (new_code d1 b1 p1 _ gv l _ ((unhide HV).below (unhide HT) (unhide HLT))).mono ?_
        rintro e w14 ⟨⟨p14, rfl⟩, hk⟩
        replace HT := hide ((unhide HT).trans (hk.mono (unhide HT).size))
        replace HG := hide ((hk.block _ (lt_of_block (unhide HG))).trans (unhide HG))
        replace HH7 := hide ((hk.block _ (lt_of_block (unhide HH7))).trans (unhide HH7))
        clear hk
        have c0 : w14.cell? ⟨w.heap.size, 0, none⟩ = some (.int .i64 D) := cell_blk (unhide HG) rfl
        have c1 : w14.cell? ⟨w.heap.size, 1, none⟩ = some (.int .i64 B) := cell_blk (unhide HG) rfl
        have c2 : w14.cell? ⟨w.heap.size, 2, none⟩ = some (.int .i64 P) := cell_blk (unhide HG) rfl
        go_wp2_with fail
        clear c0 c1 c2
        refine (make_any D B P _).mono ?_
        rintro e w15 ⟨d2, b2, p2, hok2, hm2, rfl, hk⟩
        obtain rfl : d2 = d1 := by have := unhide HM1; omega
        obtain rfl : b2 = b1 := by have := unhide HM1; omega
        obtain rfl : p2 = p1 := by have := unhide HM1; omega
        clear hok2 hm2
        replace HT := hide ((unhide HT).trans (hk.mono (unhide HT).size))
        replace HG := hide ((hk.block _ (lt_of_block (unhide HG))).trans (unhide HG))
        replace HH7 := hide ((hk.block _ (lt_of_block (unhide HH7))).trans (unhide HH7))
        clear hk
        go_wp2_with fail
        refine (rnew_code d2 b2 p2 _ gv l _ ((unhide HV).below (unhide HT) (unhide HLT))).mono ?_
        rintro e w16 ⟨⟨p16, rfl⟩, hk⟩
        generalize code D B P l = x1
        generalize code d2 b2 p2 l = x2
        replace HT := hide ((unhide HT).trans (hk.mono (unhide HT).size))
        replace HG := hide ((hk.block _ (lt_of_block (unhide HG))).trans (unhide HG))
        replace HH7 := hide ((hk.block _ (lt_of_block (unhide HH7))).trans (unhide HH7))
        clear hk
        go_wp2_with fail
        go_returns
        exact ⟨rfl, unhide HT⟩
      · rw [hk]
        clear hk
        have hH := unhide HH7
        have hfr : W8.frozen? ⟨q, 2, none⟩ = false := free_blk hH
        have hce : W8.cell? ⟨q, 2, none⟩ = some (.int .i64 5) := cell_blk hH rfl
        have hset := heap_setCell_same W8 q 2 _ _ (.int .i64 9) hH
        clear hH
        have HT9 : Hid (Below w.heap.size w (W8.setCell ⟨q, 2, none⟩ (.int .i64 9))) := (unhide HT).setCell (p := ⟨q, 2, none⟩) hq0 _
        have HG9 : Hid ((W8.setCell ⟨q, 2, none⟩ (.int .i64 9)).heap[w.heap.size]? = some (.cells #[.int .i64 D, .int .i64 B, .int .i64 P] 23 (0, 0))) := (Below.heap_setCell _ _ _ _ (by show w.heap.size ≠ q; omega)).trans (unhide HG)
        have HH9 : Hid ((W8.setCell ⟨q, 2, none⟩ (.int .i64 9)).heap[q]? = some (.cells #[.int .i64 7, .int .i64 9, .int .i64 9] 23 (0, 0))) := hset
        have c0 : (W8.setCell ⟨q, 2, none⟩ (.int .i64 9)).cell? ⟨w.heap.size, 0, none⟩ = some (.int .i64 D) := cell_blk (unhide HG9) rfl
        have c1 : (W8.setCell ⟨q, 2, none⟩ (.int .i64 9)).cell? ⟨w.heap.size, 1, none⟩ = some (.int .i64 B) := cell_blk (unhide HG9) rfl
        have c2 : (W8.setCell ⟨q, 2, none⟩ (.int .i64 9)).cell? ⟨w.heap.size, 2, none⟩ = some (.int .i64 P) := cell_blk (unhide HG9) rfl
        go_wp2_with fail
        clear hfr hce c0 c1 c2
        clear hset HT HG HH7
        generalize W8.setCell ⟨q, 2, none⟩ (.int .i64 9) = W9 at HT9 HG9 HH9 ⊢
        have HT := HT9
        have HG := HG9
        have HH7 := HH9
        clear HT9 HG9 HH9
        refine (new_code D B P _ gv l _ ((unhide HV).below (unhide HT) (unhide HLT))).mono ?_
        rintro e w10 ⟨⟨p10, rfl⟩, hk⟩
        replace HT := hide ((unhide HT).trans (hk.mono (unhide HT).size))
        replace HG := hide ((hk.block _ (lt_of_block (unhide HG))).trans (unhide HG))
        replace HH7 := hide ((hk.block _ (lt_of_block (unhide HH7))).trans (unhide HH7))
        clear hk
        have c0 : w10.cell? ⟨w.heap.size, 0, none⟩ = some (.int .i64 D) := cell_blk (unhide HG) rfl
        have c1 : w10.cell? ⟨w.heap.size, 1, none⟩ = some (.int .i64 B) := cell_blk (unhide HG) rfl
        have c2 : w10.cell? ⟨w.heap.size, 2, none⟩ = some (.int .i64 P) := cell_blk (unhide HG) rfl
        go_wp2_with fail
        clear c0 c1 c2
        refine (rnew_code D B P _ gv l _ ((unhide HV).below (unhide HT) (unhide HLT))).mono ?_
        rintro e w11 ⟨⟨p11, rfl⟩, hk⟩
        replace HT := hide ((unhide HT).trans (hk.mono (unhide HT).size))
        replace HG := hide ((hk.block _ (lt_of_block (unhide HG))).trans (unhide HG))
        replace HH7 := hide ((hk.block _ (lt_of_block (unhide HH7))).trans (unhide HH7))
        clear hk
        have h0 : w11.cell? ⟨q, 0, none⟩ = some (.int .i64 7) := cell_blk (unhide HH7) rfl
        have h1 : w11.cell? ⟨q, 1, none⟩ = some (.int .i64 9) := cell_blk (unhide HH7) rfl
        have h2 : w11.cell? ⟨q, 2, none⟩ = some (.int .i64 9) := cell_blk (unhide HH7) rfl
        go_wp2_with fail
        clear h0 h1 h2
        refine (new_code 7 9 9 _ 0 [] _ (PArg.nil _)).mono ?_
        rintro e w12 ⟨⟨p12, rfl⟩, hk⟩
        rw [show code 7 9 9 [] = 1 from by decide]
        replace HT := hide ((unhide HT).trans (hk.mono (unhide HT).size))
        replace HG := hide ((hk.block _ (lt_of_block (unhide HG))).trans (unhide HG))
        replace HH7 := hide ((hk.block _ (lt_of_block (unhide HH7))).trans (unhide HH7))
        clear hk
        have c0 : w12.cell? ⟨w.heap.size, 0, none⟩ = some (.int .i64 D) := cell_blk (unhide HG) rfl
        have c1 : w12.cell? ⟨w.heap.size, 1, none⟩ = some (.int .i64 B) := cell_blk (unhide HG) rfl
        have c2 : w12.cell? ⟨w.heap.size, 2, none⟩ = some (.int .i64 P) := cell_blk (unhide HG) rfl
        go_wp2_with fail
        clear c0 c1 c2
        refine (make_any D B P _).mono ?_
        rintro e w13 ⟨d1, b1, p1, hok1, hm1, rfl, hk⟩
        have HM1 := hide hm1
        clear hok1 hm1
        replace HT := hide ((unhide HT).trans (hk.mono (unhide HT).size))
        replace HG := hide ((hk.block _ (lt_of_block (unhide HG))).trans (unhide HG))
        replace HH7 := hide ((hk.block _ (lt_of_block (unhide HH7))).trans (unhide HH7))
        clear hk
        go_wp2_with fail
        refine (new_code d1 b1 p1 _ gv l _ ((unhide HV).below (unhide HT) (unhide HLT))).mono ?_
        rintro e w14 ⟨⟨p14, rfl⟩, hk⟩
        replace HT := hide ((unhide HT).trans (hk.mono (unhide HT).size))
        replace HG := hide ((hk.block _ (lt_of_block (unhide HG))).trans (unhide HG))
        replace HH7 := hide ((hk.block _ (lt_of_block (unhide HH7))).trans (unhide HH7))
        clear hk
        have c0 : w14.cell? ⟨w.heap.size, 0, none⟩ = some (.int .i64 D) := cell_blk (unhide HG) rfl
        have c1 : w14.cell? ⟨w.heap.size, 1, none⟩ = some (.int .i64 B) := cell_blk (unhide HG) rfl
        have c2 : w14.cell? ⟨w.heap.size, 2, none⟩ = some (.int .i64 P) := cell_blk (unhide HG) rfl
        go_wp2_with fail
        clear c0 c1 c2
        refine (make_any D B P _).mono ?_
        rintro e w15 ⟨d2, b2, p2, hok2, hm2, rfl, hk⟩
        obtain rfl : d2 = d1 := by have := unhide HM1; omega
        obtain rfl : b2 = b1 := by have := unhide HM1; omega
        obtain rfl : p2 = p1 := by have := unhide HM1; omega
        clear hok2 hm2
        replace HT := hide ((unhide HT).trans (hk.mono (unhide HT).size))
        replace HG := hide ((hk.block _ (lt_of_block (unhide HG))).trans (unhide HG))
        replace HH7 := hide ((hk.block _ (lt_of_block (unhide HH7))).trans (unhide HH7))
        clear hk
        go_wp2_with fail
        refine (rnew_code d2 b2 p2 _ gv l _ ((unhide HV).below (unhide HT) (unhide HLT))).mono ?_
        rintro e w16 ⟨⟨p16, rfl⟩, hk⟩
        generalize code D B P l = x1
        generalize code d2 b2 p2 l = x2
        replace HT := hide ((unhide HT).trans (hk.mono (unhide HT).size))
        replace HG := hide ((hk.block _ (lt_of_block (unhide HG))).trans (unhide HG))
        replace HH7 := hide ((hk.block _ (lt_of_block (unhide HH7))).trans (unhide HH7))
        clear hk
        go_wp2_with fail
        go_returns
        exact ⟨rfl, unhide HT⟩
      · rw [hk]
        clear hk
        have hH := unhide HH7
        have hfr : W8.frozen? ⟨q, 2, none⟩ = false := free_blk hH
        have hce : W8.cell? ⟨q, 2, none⟩ = some (.int .i64 5) := cell_blk hH rfl
        have hset := heap_setCell_same W8 q 2 _ _ (.int .i64 3) hH
        clear hH
        have HT9 : Hid (Below w.heap.size w (W8.setCell ⟨q, 2, none⟩ (.int .i64 3))) := (unhide HT).setCell (p := ⟨q, 2, none⟩) hq0 _
        have HG9 : Hid ((W8.setCell ⟨q, 2, none⟩ (.int .i64 3)).heap[w.heap.size]? = some (.cells #[.int .i64 D, .int .i64 B, .int .i64 P] 23 (0, 0))) := (Below.heap_setCell _ _ _ _ (by show w.heap.size ≠ q; omega)).trans (unhide HG)
        have HH9 : Hid ((W8.setCell ⟨q, 2, none⟩ (.int .i64 3)).heap[q]? = some (.cells #[.int .i64 7, .int .i64 9, .int .i64 3] 23 (0, 0))) := hset
        have c0 : (W8.setCell ⟨q, 2, none⟩ (.int .i64 3)).cell? ⟨w.heap.size, 0, none⟩ = some (.int .i64 D) := cell_blk (unhide HG9) rfl
        have c1 : (W8.setCell ⟨q, 2, none⟩ (.int .i64 3)).cell? ⟨w.heap.size, 1, none⟩ = some (.int .i64 B) := cell_blk (unhide HG9) rfl
        have c2 : (W8.setCell ⟨q, 2, none⟩ (.int .i64 3)).cell? ⟨w.heap.size, 2, none⟩ = some (.int .i64 P) := cell_blk (unhide HG9) rfl
        go_wp2_with fail
        clear hfr hce c0 c1 c2
        clear hset HT HG HH7
        generalize W8.setCell ⟨q, 2, none⟩ (.int .i64 3) = W9 at HT9 HG9 HH9 ⊢
        have HT := HT9
        have HG := HG9
        have HH7 := HH9
        clear HT9 HG9 HH9
        refine (new_code D B P _ gv l _ ((unhide HV).below (unhide HT) (unhide HLT))).mono ?_
        rintro e w10 ⟨⟨p10, rfl⟩, hk⟩
        replace HT := hide ((unhide HT).trans (hk.mono (unhide HT).size))
        replace HG := hide ((hk.block _ (lt_of_block (unhide HG))).trans (unhide HG))
        replace HH7 := hide ((hk.block _ (lt_of_block (unhide HH7))).trans (unhide HH7))
        clear hk
        have c0 : w10.cell? ⟨w.heap.size, 0, none⟩ = some (.int .i64 D) := cell_blk (unhide HG) rfl
        have c1 : w10.cell? ⟨w.heap.size, 1, none⟩ = some (.int .i64 B) := cell_blk (unhide HG) rfl
        have c2 : w10.cell? ⟨w.heap.size, 2, none⟩ = some (.int .i64 P) := cell_blk (unhide HG) rfl
        go_wp2_with fail
        clear c0 c1 c2
        refine (rnew_code D B P _ gv l _ ((unhide HV).below (unhide HT) (unhide HLT))).mono ?_
        rintro e w11 ⟨⟨p11, rfl⟩, hk⟩
        replace HT := hide ((unhide HT).trans (hk.mono (unhide HT).size))
        replace HG := hide ((hk.block _ (lt_of_block (unhide HG))).trans (unhide HG))
        replace HH7 := hide ((hk.block _ (lt_of_block (unhide HH7))).trans (unhide HH7))
        clear hk
        have h0 : w11.cell? ⟨q, 0, none⟩ = some (.int .i64 7) := cell_blk (unhide HH7) rfl
        have h1 : w11.cell? ⟨q, 1, none⟩ = some (.int .i64 9) := cell_blk (unhide HH7) rfl
        have h2 : w11.cell? ⟨q, 2, none⟩ = some (.int .i64 3) := cell_blk (unhide HH7) rfl
        go_wp2_with fail
        clear h0 h1 h2
        refine (new_code 7 9 3 _ 0 [] _ (PArg.nil _)).mono ?_
        rintro e w12 ⟨⟨p12, rfl⟩, hk⟩
        rw [show code 7 9 3 [] = 1 from by decide]
        replace HT := hide ((unhide HT).trans (hk.mono (unhide HT).size))
        replace HG := hide ((hk.block _ (lt_of_block (unhide HG))).trans (unhide HG))
        replace HH7 := hide ((hk.block _ (lt_of_block (unhide HH7))).trans (unhide HH7))
        clear hk
        have c0 : w12.cell? ⟨w.heap.size, 0, none⟩ = some (.int .i64 D) := cell_blk (unhide HG) rfl
        have c1 : w12.cell? ⟨w.heap.size, 1, none⟩ = some (.int .i64 B) := cell_blk (unhide HG) rfl
        have c2 : w12.cell? ⟨w.heap.size, 2, none⟩ = some (.int .i64 P) := cell_blk (unhide HG) rfl
        go_wp2_with fail
        clear c0 c1 c2
        refine (make_any D B P _).mono ?_
        rintro e w13 ⟨d1, b1, p1, hok1, hm1, rfl, hk⟩
        have HM1 := hide hm1
        clear hok1 hm1
        replace HT := hide ((unhide HT).trans (hk.mono (unhide HT).size))
        replace HG := hide ((hk.block _ (lt_of_block (unhide HG))).trans (unhide HG))
        replace HH7 := hide ((hk.block _ (lt_of_block (unhide HH7))).trans (unhide HH7))
        clear hk
        go_wp2_with fail
        refine (new_code d1 b1 p1 _ gv l _ ((unhide HV).below (unhide HT) (unhide HLT))).mono ?_
        rintro e w14 ⟨⟨p14, rfl⟩, hk⟩
        replace HT := hide ((unhide HT).trans (hk.mono (unhide HT).size))
        replace HG := hide ((hk.block _ (lt_of_block (unhide HG))).trans (unhide HG))
        replace HH7 := hide ((hk.block _ (lt_of_block (unhide HH7))).trans (unhide HH7))
        clear hk
        have c0 : w14.cell? ⟨w.heap.size, 0, none⟩ = some (.int .i64 D) := cell_blk (unhide HG) rfl
        have c1 : w14.cell? ⟨w.heap.size, 1, none⟩ = some (.int .i64 B) := cell_blk (unhide HG) rfl
        have c2 : w14.cell? ⟨w.heap.size, 2, none⟩ = some (.int .i64 P) := cell_blk (unhide HG) rfl
        go_wp2_with fail
        clear c0 c1 c2
        refine (make_any D B P _).mono ?_
        rintro e w15 ⟨d2, b2, p2, hok2, hm2, rfl, hk⟩
        obtain rfl : d2 = d1 := by have := unhide HM1; omega
        obtain rfl : b2 = b1 := by have := unhide HM1; omega
        obtain rfl : p2 = p1 := by have := unhide HM1; omega
        clear hok2 hm2
        replace HT := hide ((unhide HT).trans (hk.mono (unhide HT).size))
        replace HG := hide ((hk.block _ (lt_of_block (unhide HG))).trans (unhide HG))
        replace HH7 := hide ((hk.block _ (lt_of_block (unhide HH7))).trans (unhide HH7))
        clear hk
        go_wp2_with fail
        refine (rnew_code d2 b2 p2 _ gv l _ ((unhide HV).below (unhide HT) (unhide HLT))).mono ?_
        rintro e w16 ⟨⟨p16, rfl⟩, hk⟩
        generalize code D B P l = x1
        generalize code d2 b2 p2 l = x2
        replace HT := hide ((unhide HT).trans (hk.mono (unhide HT).size))
        replace HG := hide ((hk.block _ (lt_of_block (unhide HG))).trans (unhide HG))
        replace HH7 := hide ((hk.block _ (lt_of_block (unhide HH7))).trans (unhide HH7))
        clear hk
        go_wp2_with fail
        go_returns
        exact ⟨rfl, unhide HT⟩

end Go.Proofs.Ytnondiaefpdlpaa
