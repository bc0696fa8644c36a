/-
  The contracts of package code: written, Int, Byte; New, Fail, End, number and what reads; the law's own helpers known and within.
-/
import Derived.Test.YtjdikhelabibnaaGreatGr3
import Derived.Test.YtjdikhelabibnaaGreatTape
namespace Go.Proofs.YtjdikhelabibnaaGreat
open Go.RowKit

/-- The bytes zs, and the number's behind them, in a new block; nothing that was there has turned. -/
theorem written_any (a : Option Addr) (g n c s : Nat) (v : Int) (zs : List Int) (w : World) (hs : s ≤ 8) (hn : n ≤ 1000000) (hl : zs.length = n) (hr : Row w a g zs) :
    Calls Tryz.prog 144 #[.slice a n c, .int .i64 s, .int .i64 v] w fun e w' => ∃ q, e = .returned (.slice (some ⟨q, 0, none⟩) (n + s) (n + s)) ∧ w.heap.size ≤ q ∧
      w'.ownsRow w.heap.size 5 1 (.slice (some ⟨q, 0, none⟩) (n + s) (n + s)) (n + s) ((zs ++ by8 s (IntKind.u64.wrap v)).map (Value.int .u8)) ∧ Kp [] w w' := by
  have hmf : ∀ (fn : Fn) (first cap : Array Value) (w : World), (Instr.makeFunc fn first cap).run Tryz.prog w = .ok (.func fn first cap) w := fun _ _ _ _ => rfl
  go_enter Tryz.func144, Tryz.ntmps144
  go_wp2_with fail
  refine (tapeOf_any a g n c s zs w hs hn hl hr).mono ?_
  rintro e w1 ⟨q, rfl, hq, ho, hk⟩
  have HO := hide ho
  have HK := hide hk
  clear ho hk hr hl
  go_wp2_with fail
  have hq1 : q < w1.heap.size := ((unhide HO).lt q rfl).2
  have hne : w1.heap.size ≠ q := by omega
  refine (split_any w1.heap.size q n (n + s) s v (zs.map (Value.int .u8)) w.heap.size _ hs hne (by omega) (heap_alloc_new _ _) ((unhide HO).alloc _)).mono ?_
  rintro e w2 ⟨rfl, hb2, ho2, hk2⟩
  have hc2 := cell_of_one hb2
  have HO2 := hide ho2
  have HK2 : Hid (Kp [] w w2) := ((unhide HK).alloc _).trans hk2 (by intro x hx; have := (unhide HK).size; simp at hx; omega)
  clear hb2 ho2 hk2 HO HK
  go_wp2
  go_ret
  exact ⟨q, rfl, hq, by rw [List.map_append]; exact unhide HO2, unhide HK2⟩

theorem int_any (a : Option Addr) (g n c : Nat) (v : Int) (zs : List Int) (w : World) (hn : n ≤ 1000000) (hl : zs.length = n) (hr : Row w a g zs) :
    Calls Tryz.prog 115 #[.slice a n c, .int .i64 v] w fun e w' => ∃ q, e = .returned (.slice (some ⟨q, 0, none⟩) (n + 8) (n + 8)) ∧ w.heap.size ≤ q ∧
      w'.ownsRow w.heap.size 5 1 (.slice (some ⟨q, 0, none⟩) (n + 8) (n + 8)) (n + 8) ((zs ++ by8 8 (IntKind.u64.wrap v)).map (Value.int .u8)) ∧ Kp [] w w' := by
  go_enter Tryz.func115, Tryz.ntmps115
  go_wp2_with fail
  refine (written_any a g n c 8 v zs w (by omega) hn hl hr).mono ?_
  rintro e w1 ⟨q, rfl, hq, ho, hk⟩
  have HO := hide ho
  have HK := hide hk
  clear ho hk hr hl
  go_wp2
  go_ret
  exact ⟨q, rfl, hq, unhide HO, unhide HK⟩

/-- A reader of the bytes zs, in new memory. -/
theorem cnew_any (a : Option Addr) (g n c : Nat) (zs : List Int) (w : World) (hn : n ≤ 1000000) (hl : zs.length = n) (hr : Row w a g zs) :
    Calls Tryz.prog 103 #[.slice a n c] w fun e w' => ∃ R q, e = .returned (.pointer (some ⟨R, 0, none⟩)) ∧ w.heap.size ≤ R ∧ w.heap.size ≤ q ∧ Rd 186 w' R q zs 0 ∧ Kp [] w w' := by
  go_enter Tryz.func103, Tryz.ntmps103
  go_wp2_with fail
  refine (tapeOf_any a g n c 0 zs w (by omega) hn hl hr).mono ?_
  rintro e w1 ⟨q, rfl, hq, ho, hk⟩
  have HO := hide ho
  have HK := hide hk
  have HL := hide hl
  clear ho hk hr hl
  go_wp2
  go_ret
  have hq1 : q < w1.heap.size := ((unhide HO).lt q rfl).2
  refine ⟨w1.heap.size, q, rfl, (unhide HK).size, hq, ⟨by omega, some ⟨q, 0, none⟩, n, ?_, by rw [unhide HL]; omega, by unfold maxLen; omega, ?_⟩, (unhide HK).alloc _⟩
  · rw [unhide HL]; exact heap_alloc_new _ _
  · exact row_of_owns ((unhide HO).alloc _)

/-- No error is made of none, and a first one stays. -/
theorem fail_keep (R g : Nat) (zs : List Int) (e f : Int) (w : World) (hr : Rd 186 w R g zs e) (h : e ≠ 0 ∨ f = 0) :
    Calls Tryz.prog 155 #[.pointer (some ⟨R, 0, none⟩), .int .i64 f] w fun x w' => x = .returned (.tuple #[]) ∧ w' = w := by
  obtain ⟨hne, ao, cap, hb, hlc, hcm, hrow⟩ := hr
  have hc1 := cell_of_two1 hb
  clear hb hrow hlc
  by_cases he : e = 0
  · have hf : f = 0 := by rcases h with h | h; exact absurd he h; exact h
    subst he
    subst hf
    go_enter Tryz.func155, Tryz.ntmps155
    go_wp2
    go_returns
    exact ⟨rfl, rfl⟩
  · have he1 : (e != 0) = true := by rw [bne_iff_ne]; exact he
    go_enter Tryz.func155, Tryz.ntmps155
    go_wp2
    go_returns
    exact ⟨rfl, rfl⟩

/-- The first error: it is kept, and the bytes that were left are gone. -/
theorem fail_set (R g : Nat) (zs : List Int) (f : Int) (w : World) (hr : Rd 186 w R g zs 0) (hf : f ≠ 0) :
    Calls Tryz.prog 155 #[.pointer (some ⟨R, 0, none⟩), .int .i64 f] w fun x w' => x = .returned (.tuple #[]) ∧ Rd 186 w' R g [] f ∧ Kp [R] w w' := by
  obtain ⟨hne, ao, cap, hb, hlc, hcm, hrow⟩ := hr
  have hc0 := cell_of_two0 hb
  have hc1 := cell_of_two1 hb
  have hf0 := free_of_two (j := 0) hb
  have hf1 := free_of_two (j := 1) hb
  have HB := hide hb
  clear hb hrow hlc
  have hf2 : (f == 0) = false := beq_eq_false_iff_ne.2 hf
  go_enter Tryz.func155, Tryz.ntmps155
  go_wp2
  go_end0
  refine ⟨rfl, ⟨hne, none, 0, two_set0 (two_set1 (unhide HB)), by simp, by unfold maxLen; omega, .inl rfl⟩, ((Kp.refl _ _).setCell _ _ (by simp)).setCell _ _ (by simp)⟩

/-- Whatever error is told. -/
theorem fail_any (R g : Nat) (zs : List Int) (e f : Int) (w : World) (hr : Rd 186 w R g zs e) :
    Calls Tryz.prog 155 #[.pointer (some ⟨R, 0, none⟩), .int .i64 f] w fun x w' => x = .returned (.tuple #[]) ∧ Rd 186 w' R g (if e = 0 ∧ f ≠ 0 then [] else zs) (if e = 0 then f else e) ∧ Kp [R] w w' := by
  by_cases h : e = 0 ∧ f ≠ 0
  · obtain ⟨rfl, hf⟩ := h
    rw [if_pos ⟨rfl, hf⟩, if_pos rfl]
    exact fail_set R g zs f w hr hf
  · rw [if_neg h]
    have h2 : (if e = 0 then f else e) = e := by
      split
      · rename_i h0; have : ¬ f ≠ 0 := fun hf => h ⟨h0, hf⟩
        omega
      · rfl
    rw [h2]
    refine (fail_keep R g zs e f w hr (by omega)).mono ?_
    rintro x w' ⟨rfl, rfl⟩
    exact ⟨rfl, hr, Kp.refl _ _⟩

/-- What a reader says at the end: its error; else 4, where bytes are left. -/
theorem end_any (R g : Nat) (zs : List Int) (e : Int) (w : World) (hr : Rd 186 w R g zs e) :
    Calls Tryz.prog 107 #[.pointer (some ⟨R, 0, none⟩)] w fun x w' => x = .returned (.int .i64 (if e = 0 ∧ zs ≠ [] then 4 else e)) ∧ w' = w := by
  obtain ⟨hne, ao, cap, hb, hlc, hcm, hrow⟩ := hr
  have hc0 := cell_of_two0 hb
  have hc1 := cell_of_two1 hb
  clear hb hrow hlc
  by_cases he : e = 0
  · subst he
    cases zs with
    | nil =>
      rw [if_neg (by simp)]
      go_enter Tryz.func107, Tryz.ntmps107
      go_wp2_with fail
      refine (left_any R ao 0 cap _ hc0).mono ?_
      rintro x w1 ⟨rfl, rfl⟩
      go_wp2
      go_ret
      exact ⟨rfl, rfl⟩
    | cons z r =>
      rw [if_pos (by simp)]
      have hl : (0 : Int) < ((z :: r).length : Int) := by simp only [List.length_cons]; omega
      generalize hn : (z :: r).length = n at *
      go_enter Tryz.func107, Tryz.ntmps107
      go_wp2_with fail
      refine (left_any R ao n cap _ hc0).mono ?_
      rintro x w1 ⟨rfl, rfl⟩
      go_wp2
      go_ret
      exact ⟨rfl, rfl⟩
  · have he1 : (e == 0) = false := beq_eq_false_iff_ne.2 he
    rw [if_neg (by simp [he])]
    go_enter Tryz.func107, Tryz.ntmps107
    go_wp2
    go_ret
    exact ⟨rfl, rfl⟩

/-- A number of s bytes is read. -/
theorem number_any (R g s : Nat) (zs : List Int) (e : Int) (w : World) (hs : s ≤ 8) (hb : Byt zs) (hr : Rd 186 w R g zs e) :
    Calls Tryz.prog 145 #[.pointer (some ⟨R, 0, none⟩), .int .i64 s] w fun x w' => x = .returned (.int .i64 (rdV s zs)) ∧ Rd 186 w' R g (rdZ s zs e) (rdE s zs e) ∧ Kp [R] w w' := by
  have hmf : ∀ (fn : Fn) (first cap : Array Value) (w : World), (Instr.makeFunc fn first cap).run Tryz.prog w = .ok (.func fn first cap) w := fun _ _ _ _ => rfl
  have HR := hide hr
  obtain ⟨hne, ao, cap, hblk, hlc, hcm, hrow⟩ := hr
  have hc0 := cell_of_two0 hblk
  have HBY := hide hb
  clear hblk hrow hlc hb
  unfold rdV rdZ rdE
  by_cases hl : s ≤ zs.length
  · simp only [if_pos hl]
    have hl' : ¬ (zs.length : Int) < (s : Int) := by omega
    go_enter Tryz.func145, Tryz.ntmps145
    go_wp2_with fail
    refine (left_any R ao zs.length cap _ hc0).mono ?_
    rintro x w1 ⟨rfl, rfl⟩
    go_wp2_with fail
    refine (join_any 186 R g s zs e _ hs hl (unhide HBY) (unhide HR)).mono ?_
    rintro x w2 ⟨rfl, hr2, hk2⟩
    have HR2 := hide hr2
    have HK2 := hide hk2
    clear hr2 hk2
    go_wp2
    go_ret
    exact ⟨rfl, unhide HR2, unhide HK2⟩
  · simp only [if_neg hl]
    have hl' : (zs.length : Int) < (s : Int) := by omega
    by_cases he : e = 0
    · subst he
      simp only [if_pos]
      go_enter Tryz.func145, Tryz.ntmps145
      go_wp2_with fail
      refine (left_any R ao zs.length cap _ hc0).mono ?_
      rintro x w1 ⟨rfl, rfl⟩
      go_wp2_with fail
      refine (fail_set R g zs 3 _ (unhide HR) (by omega)).mono ?_
      rintro x w2 ⟨rfl, hr2, hk2⟩
      have HR2 := hide hr2
      have HK2 := hide hk2
      clear hr2 hk2
      go_wp2
      go_ret
      exact ⟨rfl, unhide HR2, unhide HK2⟩
    · simp only [if_neg he]
      have HE := hide he
      clear he
      go_enter Tryz.func145, Tryz.ntmps145
      go_wp2_with fail
      refine (left_any R ao zs.length cap _ hc0).mono ?_
      rintro x w1 ⟨rfl, rfl⟩
      go_wp2_with fail
      refine (fail_keep R g zs e 3 _ (unhide HR) (.inl (unhide HE))).mono ?_
      rintro x w2 ⟨rfl, rfl⟩
      go_wp2
      go_ret
      exact ⟨rfl, unhide HR, Kp.refl _ _⟩

theorem rint_any (R g : Nat) (zs : List Int) (e : Int) (w : World) (hb : Byt zs) (hr : Rd 186 w R g zs e) :
    Calls Tryz.prog 117 #[.pointer (some ⟨R, 0, none⟩)] w fun x w' => x = .returned (.int .i64 (rdV 8 zs)) ∧ Rd 186 w' R g (rdZ 8 zs e) (rdE 8 zs e) ∧ Kp [R] w w' := by
  have HR := hide hr
  have HB := hide hb
  clear hr hb
  go_enter Tryz.func117, Tryz.ntmps117
  go_wp2_with fail
  refine (number_any R g 8 zs e w (by omega) (unhide HB) (unhide HR)).mono ?_
  rintro x w2 ⟨rfl, hr2, hk2⟩
  have HR2 := hide hr2
  have HK2 := hide hk2
  clear hr2 hk2
  go_wp2
  go_ret
  exact ⟨rfl, unhide HR2, unhide HK2⟩

theorem rbyte_any (R g : Nat) (zs : List Int) (e : Int) (w : World) (hb : Byt zs) (hr : Rd 186 w R g zs e) :
    Calls Tryz.prog 121 #[.pointer (some ⟨R, 0, none⟩)] w fun x w' => x = .returned (.int .i64 (rdV 1 zs)) ∧ Rd 186 w' R g (rdZ 1 zs e) (rdE 1 zs e) ∧ Kp [R] w w' := by
  have HR := hide hr
  have HB := hide hb
  clear hr hb
  go_enter Tryz.func121, Tryz.ntmps121
  go_wp2_with fail
  refine (number_any R g 1 zs e w (by omega) (unhide HB) (unhide HR)).mono ?_
  rintro x w2 ⟨rfl, hr2, hk2⟩
  have HR2 := hide hr2
  have HK2 := hide hk2
  clear hr2 hk2
  go_wp2
  go_ret
  exact ⟨rfl, unhide HR2, unhide HK2⟩

end Go.Proofs.YtjdikhelabibnaaGreat
