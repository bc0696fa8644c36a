/-
  The contracts of package code's tape: left, take, put, tapeOf, split, join.
  The contracts of package code: written, Int, Byte; New, Fail, End, number and what reads; the law's own helpers known and within.
  The contract of code.Byte.
-/
import Derived.Test.YtjdikhelabibnabGreatMag
import Derived.Test.YtjdikhelabibnabGreatMad
import Derived.Test.YtjdikhelabibnabGreatRows
import Derived.Test.YtjdikhelabibnabGreatMaa
import Derived.OpenShut
import Derived.Handy
import Derived.Laws.CopyOwn
namespace Go.Proofs.YtjdikhelabibnabGreat
open Go.RowKit

theorem sizeE1 : (Tryz.prog.info? 5).map (·.size) = some 1 := by kernel_rfl

theorem left_any (T : Nat) (a : Option Addr) (n c : Nat) (w : World) (h : w.cell? ⟨T, 0, none⟩ = some (.slice a n c)) :
    Calls Tryz.prog 102 #[.pointer (some ⟨T, 0, none⟩)] w fun e w' => e = .returned (.int .i64 n) ∧ w' = w := by
  go_enter Tryz.func102, Tryz.ntmps102
  go_wp2
  go_ret
  exact ⟨rfl, rfl⟩

/-- One is taken where there is one: the row's address goes on by one (at its end it stays where it is). -/
theorem take_one (T g o n cap : Nat) (z : Int) (w : World) (hn : 1 ≤ n) (hc : n ≤ cap)
    (h : w.cell? ⟨T, 0, none⟩ = some (.slice (some ⟨g, o, none⟩) n cap)) (hf : w.frozen? ⟨T, 0, none⟩ = false) (hz : w.cell? ⟨g, o, none⟩ = some (.int .u8 z)) :
    Calls Tryz.prog 139 #[.pointer (some ⟨T, 0, none⟩)] w fun e w' => e = .returned (.int .u8 z) ∧
      ∃ ao, w' = w.setCell ⟨T, 0, none⟩ (.slice ao (n - 1) (cap - 1)) ∧ (1 < n → ao = some ⟨g, o + 1, none⟩) := by
  go_enter Tryz.func139, Tryz.ntmps139
  go_wp2
  · go_ret
    exact ⟨rfl, _, rfl, fun h1 => absurd h1 (by omega)⟩
  · go_ret
    exact ⟨rfl, _, rfl, fun _ => rfl⟩

theorem put_one (T g n cap : Nat) (x : Int) (xs : List Value) (base : Nat) (w : World) (hg : T ≠ g) (hr : n + 1 ≤ cap)
    (h : w.heap[T]? = some (.cells #[.slice (some ⟨g, 0, none⟩) n cap] 161 (0, 0))) (ho : w.ownsRow base 5 1 (.slice (some ⟨g, 0, none⟩) n cap) n xs) :
    Calls Tryz.prog 136 #[.pointer (some ⟨T, 0, none⟩), .int .u8 x] w fun e w' => e = .returned (.tuple #[]) ∧
      w'.heap[T]? = some (.cells #[.slice (some ⟨g, 0, none⟩) (n + 1) cap] 161 (0, 0)) ∧ w'.ownsRow base 5 1 (.slice (some ⟨g, 0, none⟩) (n + 1) cap) (n + 1) (xs ++ [.int .u8 x]) ∧ Kp [T, g] w w' := by
  obtain ⟨i0, hi, hz0, hz1, hz2⟩ := info_parts infoE
  have hc0 := cell_of_one h
  have hf0 := free_of_one h
  have HH : Hid (w.heap[T]? = some (.cells #[.slice (some ⟨g, 0, none⟩) n cap] 161 (0, 0))) := h
  have hlt := lt_of_block h
  clear h
  go_enter Tryz.func136, Tryz.ntmps136
  go_wp2_with (at_builtin; refine wpList_append_fits _ rfl _ _ 33 rfl base 5 i0 1 Tryz.underlying33 hi hz1 g n cap xs rfl (ho.alloc _) ⟨w.heap.size, 0, none⟩ 1 1 [.int .u8 x] rfl rfl ?c1 ?c2 hr ?_)
  case c1 => intro j u hj; match j, hj with | 0, hj => simp at hj; subst hj; simp [Addr.add]
  case c2 => intro u hu; simp at hu; subst hu; rfl
  intro w1 ho1 hg1
  have k1 : Kp [T, g] w w1 := ((Kp.refl _ w).alloc _).grown hg1 (by intro k hk; cases hk; simp)
  have hb1 : w1.heap[T]? = some (.cells #[.slice (some ⟨g, 0, none⟩) n cap] 161 (0, 0)) := by
    rw [hg1.block T (by simp; omega) (by simpa using hg), Below.heap_alloc _ _ _ hlt]; exact HH.out
  have hc1 := cell_of_one hb1
  have hf1 := free_of_one hb1
  have HB : Hid (w1.heap[T]? = some (.cells #[.slice (some ⟨g, 0, none⟩) n cap] 161 (0, 0))) := hb1
  clear hb1
  go_wp2
  go_end0
  exact ⟨rfl, one_setCell HB.out, ownsRow_setCell_other ho1 (by simpa [Value.ownBlock] using fun e => hg e.symm) _, k1.setCell _ _ (by simp)⟩

/-- A copy of the bytes zs, with room for m more, in a new block. -/
theorem tapeOf_any (a : Option Addr) (g n c : Nat) (m : Nat) (zs : List Int) (w : World) (hm : m ≤ 8) (hn : n ≤ 1000000) (hl : zs.length = n) (hr : Row w a g zs) :
    Calls Tryz.prog 101 #[.slice a n c, .int .i64 m] w fun e w' => ∃ q, e = .returned (.agg #[.slice (some ⟨q, 0, none⟩) n (n + m)]) ∧ w.heap.size ≤ q ∧
      w'.ownsRow w.heap.size 5 1 (.slice (some ⟨q, 0, none⟩) n (n + m)) n (zs.map (Value.int .u8)) ∧ Kp [] w w' := by
  obtain ⟨i0, hi, hz0, hz1, hz2⟩ := info_parts infoE
  have hmk := run_make (P := Tryz.prog) (w.alloc (Obj.cells #[Value.slice none 0 0] 161)) 33 5 i0 (.int .u8 0) Tryz.underlying33 hi hz0 .i64 .i64 (n : Int) ((n : Int) + (m : Int)) (by omega) (by omega) (by rw [hz2]; omega) (by omega)
  obtain ⟨Z, hZ, hZs⟩ : ∃ Z, Z = madeCells (Value.cells (.int .u8 0)) (((n : Int) + (m : Int)).toNat * i0.size) ∧ Z.size = n + m := ⟨_, rfl, by rw [size_madeCells, hz1]; omega⟩
  rw [← hZ] at hmk
  clear hZ
  rw [show ((n : Int)).toNat = n from by omega, show ((n : Int) + (m : Int)).toNat = n + m from by omega, show (w.alloc (Obj.cells #[Value.slice none 0 0] 161)).heap.size = w.heap.size + 1 from by simp] at hmk
  obtain ⟨W3, hcp, Z', hZ', hZs', htk, hk3⟩ : ∃ W3, (Builtin.copy_ #[33, 33] 3 #[Value.slice (some ⟨w.heap.size + 1, 0, none⟩) n (n + m), Value.slice a n c]).run Tryz.prog
      ((w.alloc (Obj.cells #[Value.slice none 0 0] 161)).alloc (Obj.cells Z 5)) = .ok (.int .i64 n) W3 ∧ ∃ Z', W3.heap[w.heap.size + 1]? = some (.cells Z' 5 (0, 0)) ∧ Z'.size = n + m ∧ Z'.toList.take n = zs.map (Value.int .u8) ∧
      Kp [w.heap.size + 1] ((w.alloc (Obj.cells #[Value.slice none 0 0] 161)).alloc (Obj.cells Z 5)) W3 := by
    have hnew : ((w.alloc (Obj.cells #[Value.slice none 0 0] 161)).alloc (Obj.cells Z 5)).heap[w.heap.size + 1]? = some (.cells Z 5 (0, 0)) := heap_alloc2_new _ _ _
    rcases hr with rfl | ⟨o, rfl, hc⟩
    · simp only [List.length_nil] at hl
      subst hl
      exact ⟨_, run_copy_none _ _ _ _ 5 _ _ _ _ _ _ Tryz.underlying33 sizeE1 (by simp), Z, hnew, hZs, by simp, Kp.refl _ _⟩
    · have hrun := run_copy_row (P := Tryz.prog) ((w.alloc (Obj.cells #[Value.slice none 0 0] 161)).alloc (Obj.cells Z 5)) 33 33 3 5 (w.heap.size + 1) 0 n (n + m) ⟨g, o, none⟩ n c Z 5 (zs.map (Value.int .u8)) Tryz.underlying33 sizeE1 hnew
        (by simp [hl]) (fun j v hv => by
          obtain ⟨hj, hv⟩ := List.getElem?_eq_some_iff.1 hv
          simp only [List.length_map] at hj
          have hcj := hc j hj
          have hlt : g < w.heap.size := block_lt_of_cell hcj
          rw [Addr.add_lit, World.cell?_alloc_past _ _ _ (by simp only [World.size_alloc]; omega), World.cell?_alloc_past _ _ _ hlt, hcj]
          simp [← hv, List.getD_eq_getElem?_getD, hj]) (by simp [hl, hZs]) (ints_oneCell _ _)
      rw [show goInt ((zs.map (Value.int .u8)).length : Int) = .int .i64 n from by simp [goInt, hl]] at hrun
      refine ⟨_, hrun, _, setRow_heap _ _ _ _ 5 _ hnew, ?_, ?_, ?_⟩
      · simp [hl, hZs]
      · simp [hl]
      · exact (Kp.refl _ _).grown (row := some (w.heap.size + 1)) ⟨rfl, rfl, rfl, by simp, fun k _ hk => setRow_other _ _ k _ (fun e => hk (by simp [e]))⟩ (by simp)
  have hk0 : Kp [] w W3 := (((Kp.refl [] w).alloc _).alloc _).trans hk3 (by simp)
  have hbT : W3.heap[w.heap.size]? = some (.cells #[Value.slice none 0 0] 161 (0, 0)) := hk3.heap (heap_alloc2_old _ _ _) (by simp)
  have hcT := cell_of_one hbT
  have hfT := free_of_one hbT
  have HT := hide hbT
  have HZ := hide hZ'
  have HZS := hide hZs'
  have HTK := hide htk
  have HK0 := hide hk0
  have HL := hide hl
  clear hk3 hk0 hbT hZ' hZs' htk hr hl hZs
  go_enter Tryz.func101, Tryz.ntmps101
  go_wp2
  refine bodyPost_ret (v := .agg #[.slice (some ⟨w.heap.size + 1, 0, none⟩) n (n + m)]) (by simp [results, Tryz.results101, go_sem, cell_of_one (one_setCell (unhide HT))]) rfl ⟨w.heap.size + 1, rfl, by omega, ?_, ?_⟩
  · refine ⟨by simpa using unhide HL, .inr ⟨w.heap.size + 1, n + m, Z', rfl, by omega, ?_, by omega, by unfold maxLen; omega, by simpa using unhide HZS, by simpa using unhide HTK⟩⟩
    rw [Below.heap_setCell _ _ _ _ (by simp)]
    exact unhide HZ
  · exact (unhide HK0).setCell _ _ (by simp)

/-- A number's bytes go behind what is there. -/
theorem split_any (T g n cap s : Nat) (v : Int) (xs : List Value) (base : Nat) (w : World) (hs : s ≤ 8) (hg : T ≠ g) (hr : n + s ≤ cap)
    (h : w.heap[T]? = some (.cells #[.slice (some ⟨g, 0, none⟩) n cap] 161 (0, 0))) (ho : w.ownsRow base 5 1 (.slice (some ⟨g, 0, none⟩) n cap) n xs) :
    Calls Tryz.prog 135 #[.int .i64 s, .int .i64 v, .func (.func 136) #[.pointer (some ⟨T, 0, none⟩)] #[]] w fun e w' => e = .returned (.tuple #[]) ∧
      w'.heap[T]? = some (.cells #[.slice (some ⟨g, 0, none⟩) (n + s) cap] 161 (0, 0)) ∧ w'.ownsRow base 5 1 (.slice (some ⟨g, 0, none⟩) (n + s) cap) (n + s) (xs ++ (by8 s (IntKind.u64.wrap v)).map (Value.int .u8)) ∧ Kp [T, g] w w' := by
  have HH : Hid (w.heap[T]? = some (.cells #[.slice (some ⟨g, 0, none⟩) n cap] 161 (0, 0))) := h
  have HO : Hid (w.ownsRow base 5 1 (.slice (some ⟨g, 0, none⟩) n cap) n xs) := ho
  clear h ho
  have hu : 0 ≤ IntKind.u64.wrap v ∧ IntKind.u64.wrap v < 18446744073709551616 := by rw [IntKind.wrap_u64]; omega
  go_enter Tryz.func135, Tryz.ntmps135
  go_wp2_with fail
  go_loopw [6, 10] (fun l i wr => ∃ k : Nat, k ≤ s ∧ i = .int .i64 k ∧ l = .int .u64 (IntKind.u64.wrap v / 256 ^ k) ∧ Kp [T, g] w wr ∧
      wr.heap[T]? = some (.cells #[.slice (some ⟨g, 0, none⟩) (n + k) cap] 161 (0, 0)) ∧ wr.ownsRow base 5 1 (.slice (some ⟨g, 0, none⟩) (n + k) cap) (n + k) (xs ++ (by8 k (IntKind.u64.wrap v)).map (Value.int .u8)))
    (fun _ i _ => s - (intOf i).toNat)
  case atStart => exact ⟨0, by omega, rfl, by simp, Kp.refl _ _, HH.out, by simpa [by8] using HO.out⟩
  case round =>
    obtain ⟨k, hk, rfl, rfl, hK, hb, ho⟩ := hrel
    generalize hV : IntKind.u64.wrap v / 256 ^ k = V at *
    have hV0 : 0 ≤ V := by rw [← hV]; exact Int.ediv_nonneg hu.1 (Int.pow_nonneg (by omega))
    have hV1 : V < 18446744073709551616 := by rw [← hV]; exact Int.lt_of_le_of_lt (Int.ediv_le_self _ hu.1) hu.2
    have HV : Hid (IntKind.u64.wrap v / 256 ^ k = V) := hV
    have HB : Hid (wr.heap[T]? = some (.cells #[.slice (some ⟨g, 0, none⟩) (n + k) cap] 161 (0, 0))) := hb
    have HO1 : Hid (wr.ownsRow base 5 1 (.slice (some ⟨g, 0, none⟩) (n + k) cap) (n + k) (xs ++ (by8 k (IntKind.u64.wrap v)).map (Value.int .u8))) := ho
    have HK : Hid (Kp [T, g] w wr) := hK
    clear hV hb ho hK HH HO
    by_cases hlt : k < s
    · go_wp2_with fail
      refine (put_one T g (n + k) cap _ _ base wr hg (by omega) HB.out HO1.out).mono ?_
      rintro e w1 ⟨rfl, hb1, ho1, hk1⟩
      have HB1 := hide hb1
      have HO2 := hide ho1
      have HK1 : Hid (Kp [T, g] w w1) := HK.out.trans hk1 (by simp)
      clear hb1 ho1 hk1
      go_wp2
      go_roundw
      case rel =>
        refine ⟨k + 1, by omega, by go_num, ?_, HK1.out, unhide HB1, ?_⟩
        · rw [← HV.out, Int.ediv_ediv_of_nonneg (Int.pow_nonneg (by omega)), Int.pow_succ]
        · have := unhide HO2
          rw [by8_snoc, List.map_append, ← List.append_assoc, HV.out]
          exact this
      case measure => simp [intOf]; omega
    · have : k = s := by omega
      subst this
      go_wp2
      go_end0
      exact ⟨rfl, HB.out, HO1.out, HK.out⟩

/-- So many bytes are read, the lowest first. -/
theorem join_any (TT : TypeId) (R g s : Nat) (zs : List Int) (e : Int) (w : World) (hs : s ≤ 8) (hl : s ≤ zs.length) (hb : Byt zs) (hr : Rd TT w R g zs e) :
    Calls Tryz.prog 138 #[.int .i64 s, .func (.func 139) #[.pointer (some ⟨R, 0, none⟩)] #[]] w fun x w' => x = .returned (.int .i64 (wrap64 (le (zs.take s)))) ∧
      Rd TT w' R g (zs.drop s) e ∧ Kp [R] w w' := by
  have HR : Hid (Rd TT w R g zs e) := hr
  clear hr
  go_enter Tryz.func138, Tryz.ntmps138
  go_wp2_with fail
  go_loopw [5, 8] (fun l i wr => ∃ k : Nat, k ≤ s ∧ i = .int .i64 k ∧ l = .int .u64 (le (zs.take k)) ∧ Kp [R] w wr ∧ Rd TT wr R g (zs.drop k) e)
    (fun _ i _ => s - (intOf i).toNat)
  case atStart => exact ⟨0, by omega, rfl, by simp [le], Kp.refl _ _, by simpa using HR.out⟩
  case round =>
    obtain ⟨k, hk, rfl, rfl, hK, hr⟩ := hrel
    have hbt : Byt (zs.take k) := fun z hz => hb z (List.mem_of_mem_take hz)
    have hbd := le_bound (zs.take k) hbt
    have hlk : (zs.take k).length = k := by simp; omega
    rw [hlk] at hbd
    have hp : (256 : Int) ^ k ≤ 256 ^ 8 := by
      have : (256 : Nat) ^ k ≤ 256 ^ 8 := Nat.pow_le_pow_right (by omega) (by omega)
      have h2 : ((256 ^ k : Nat) : Int) ≤ ((256 ^ 8 : Nat) : Int) := by omega
      simpa using h2
    have hV1 : le (zs.take k) < 18446744073709551616 := by have : (256 : Int) ^ 8 = 18446744073709551616 := by decide
                                                           omega
    obtain ⟨hV0, hVk⟩ := hbd
    have hgb := hb.getD k
    have hle : k < zs.length → le (zs.take (k + 1)) = le (zs.take k) + zs.getD k 0 * 256 ^ k := by intro h; rw [take_snoc zs k h, le_snoc, hlk]
    generalize hV : le (zs.take k) = V at *
    generalize hz : zs.getD k 0 = z at *
    have HL := hide hle
    have HVk := hide hVk
    have HV := hide hV
    have HZ := hide hz
    have HK := hide hK
    obtain ⟨hne, ao, cap, hblk, hlc, hcm, hrow⟩ := hr
    have HB := hide hblk
    have HW := hide hrow
    have HH := hide hb
    clear hle hVk hV hz hK hblk hrow hp hbt hlk HR hb
    simp only [List.length_drop] at hlc
    by_cases hlt : k < s
    · obtain ⟨o, rfl, hcs⟩ : ∃ o, ao = some ⟨g, o, none⟩ ∧ ∀ j, j < (zs.drop k).length → wr.cell? ⟨g, o + j, none⟩ = some (.int .u8 ((zs.drop k).getD j 0)) := by
        rcases unhide HW with h0 | h0
        · have := congrArg List.length h0; simp at this; omega
        · exact h0
      have HCS := hide hcs
      have hz0 : wr.cell? ⟨g, o, none⟩ = some (.int .u8 z) := by
        have := hcs 0 (by simp; omega)
        rw [drop_getD, Nat.add_zero, Nat.add_zero, unhide HZ] at this
        exact this
      clear hcs
      go_wp2_with fail
      refine (take_one R g o (zs.length - k) cap z wr (by omega) hlc (by have := cell_of_two0 (unhide HB); simpa using this) (free_of_two (unhide HB)) hz0).mono ?_
      rintro x w1 ⟨rfl, ao1, rfl, hao⟩
      have HA := hide hao
      clear hao hz0
      go_wp2
      go_roundw
      case rel =>
        refine ⟨k + 1, by omega, by go_num, ?_, (unhide HK).setCell _ _ (by simp), hne, ao1, cap - 1, ?_, ?_, by omega, ?_⟩
        · rw [unhide HL (by omega), or_step _ _ _ (by omega) hV0 (unhide HVk) hgb.1 hgb.2]
        · have := two_set0 (x := .slice ao1 (zs.length - k - 1) (cap - 1)) (unhide HB)
          rw [this]
          simp [Nat.sub_sub]
        · simp; omega
        · by_cases h1 : 1 < zs.length - k
          · refine .inr ⟨o + 1, unhide HA h1, fun j hj => ?_⟩
            simp only [List.length_drop] at hj
            have := unhide HCS (j + 1) (by simp; omega)
            rw [drop_getD] at this ⊢
            rw [show k + 1 + j = k + (j + 1) from by omega, show o + 1 + j = o + (j + 1) from by omega, ← this]
            exact World.cell?_of_block (Below.heap_setCell _ _ _ _ hne)
          · exact .inl (List.drop_eq_nil_of_le (by omega))
      case measure => simp [intOf]; omega
    · have : k = s := by omega
      subst this
      go_wp2
      go_ret
      exact ⟨by rw [unhide HV]; rfl, ⟨hne, ao, cap, unhide HB, by simpa using hlc, hcm, unhide HW⟩, unhide HK⟩

end Go.Proofs.YtjdikhelabibnabGreat

namespace Go.Proofs.YtjdikhelabibnabGreat
open Go.RowKit

/-- The bytes zs, and the number's behind them, in a new block; nothing that was there has turned. -/
theorem written_any (a : Option Addr) (g n c s : Nat) (v : Int) (zs : List Int) (w : World) (hs : s ≤ 8) (hn : n ≤ 1000000) (hl : zs.length = n) (hr : Row w a g zs) :
    Calls Tryz.prog 129 #[.slice a n c, .int .i64 s, .int .i64 v] w fun e w' => ∃ q, e = .returned (.slice (some ⟨q, 0, none⟩) (n + s) (n + s)) ∧ w.heap.size ≤ q ∧
      w'.ownsRow w.heap.size 5 1 (.slice (some ⟨q, 0, none⟩) (n + s) (n + s)) (n + s) ((zs ++ by8 s (IntKind.u64.wrap v)).map (Value.int .u8)) ∧ Kp [] w w' := by
  have hmf : ∀ (fn : Fn) (first cap : Array Value) (w : World), (Instr.makeFunc fn first cap).run Tryz.prog w = .ok (.func fn first cap) w := fun _ _ _ _ => rfl
  go_enter Tryz.func129, Tryz.ntmps129
  go_wp2_with fail
  refine (tapeOf_any a g n c s zs w hs hn hl hr).mono ?_
  rintro e w1 ⟨q, rfl, hq, ho, hk⟩
  have HO := hide ho
  have HK := hide hk
  clear ho hk hr hl
  go_wp2_with fail
  have hq1 : q < w1.heap.size := ((unhide HO).lt q rfl).2
  have hne : w1.heap.size ≠ q := by omega
  refine (split_any w1.heap.size q n (n + s) s v (zs.map (Value.int .u8)) w.heap.size _ hs hne (by omega) (heap_alloc_new _ _) ((unhide HO).alloc _)).mono ?_
  rintro e w2 ⟨rfl, hb2, ho2, hk2⟩
  have hc2 := cell_of_one hb2
  have HO2 := hide ho2
  have HK2 : Hid (Kp [] w w2) := ((unhide HK).alloc _).trans hk2 (by intro x hx; have := (unhide HK).size; simp at hx; omega)
  clear hb2 ho2 hk2 HO HK
  go_wp2
  go_ret
  exact ⟨q, rfl, hq, by rw [List.map_append]; exact unhide HO2, unhide HK2⟩

theorem int_any (a : Option Addr) (g n c : Nat) (v : Int) (zs : List Int) (w : World) (hn : n ≤ 1000000) (hl : zs.length = n) (hr : Row w a g zs) :
    Calls Tryz.prog 108 #[.slice a n c, .int .i64 v] w fun e w' => ∃ q, e = .returned (.slice (some ⟨q, 0, none⟩) (n + 8) (n + 8)) ∧ w.heap.size ≤ q ∧
      w'.ownsRow w.heap.size 5 1 (.slice (some ⟨q, 0, none⟩) (n + 8) (n + 8)) (n + 8) ((zs ++ by8 8 (IntKind.u64.wrap v)).map (Value.int .u8)) ∧ Kp [] w w' := by
  go_enter Tryz.func108, Tryz.ntmps108
  go_wp2_with fail
  refine (written_any a g n c 8 v zs w (by omega) hn hl hr).mono ?_
  rintro e w1 ⟨q, rfl, hq, ho, hk⟩
  have HO := hide ho
  have HK := hide hk
  clear ho hk hr hl
  go_wp2
  go_ret
  exact ⟨q, rfl, hq, unhide HO, unhide HK⟩

/-- A reader of the bytes zs, in new memory. -/
theorem cnew_any (a : Option Addr) (g n c : Nat) (zs : List Int) (w : World) (hn : n ≤ 1000000) (hl : zs.length = n) (hr : Row w a g zs) :
    Calls Tryz.prog 65 #[.slice a n c] w fun e w' => ∃ R q, e = .returned (.pointer (some ⟨R, 0, none⟩)) ∧ w.heap.size ≤ R ∧ w.heap.size ≤ q ∧ Rd 164 w' R q zs 0 ∧ Kp [] w w' := by
  go_enter Tryz.func65, Tryz.ntmps65
  go_wp2_with fail
  refine (tapeOf_any a g n c 0 zs w (by omega) hn hl hr).mono ?_
  rintro e w1 ⟨q, rfl, hq, ho, hk⟩
  have HO := hide ho
  have HK := hide hk
  have HL := hide hl
  clear ho hk hr hl
  go_wp2
  go_ret
  have hq1 : q < w1.heap.size := ((unhide HO).lt q rfl).2
  refine ⟨w1.heap.size, q, rfl, (unhide HK).size, hq, ⟨by omega, some ⟨q, 0, none⟩, n, ?_, by rw [unhide HL]; omega, by unfold maxLen; omega, ?_⟩, (unhide HK).alloc _⟩
  · rw [unhide HL]; exact heap_alloc_new _ _
  · exact row_of_owns ((unhide HO).alloc _)

/-- No error is made of none, and a first one stays. -/
theorem fail_keep (R g : Nat) (zs : List Int) (e f : Int) (w : World) (hr : Rd 164 w R g zs e) (h : e ≠ 0 ∨ f = 0) :
    Calls Tryz.prog 137 #[.pointer (some ⟨R, 0, none⟩), .int .i64 f] w fun x w' => x = .returned (.tuple #[]) ∧ w' = w := by
  obtain ⟨hne, ao, cap, hb, hlc, hcm, hrow⟩ := hr
  have hc1 := cell_of_two1 hb
  clear hb hrow hlc
  by_cases he : e = 0
  · have hf : f = 0 := by rcases h with h | h; exact absurd he h; exact h
    subst he
    subst hf
    go_enter Tryz.func137, Tryz.ntmps137
    go_wp2
    go_returns
    exact ⟨rfl, rfl⟩
  · have he1 : (e != 0) = true := by rw [bne_iff_ne]; exact he
    go_enter Tryz.func137, Tryz.ntmps137
    go_wp2
    go_returns
    exact ⟨rfl, rfl⟩

/-- The first error: it is kept, and the bytes that were left are gone. -/
theorem fail_set (R g : Nat) (zs : List Int) (f : Int) (w : World) (hr : Rd 164 w R g zs 0) (hf : f ≠ 0) :
    Calls Tryz.prog 137 #[.pointer (some ⟨R, 0, none⟩), .int .i64 f] w fun x w' => x = .returned (.tuple #[]) ∧ Rd 164 w' R g [] f ∧ Kp [R] w w' := by
  obtain ⟨hne, ao, cap, hb, hlc, hcm, hrow⟩ := hr
  have hc0 := cell_of_two0 hb
  have hc1 := cell_of_two1 hb
  have hf0 := free_of_two (j := 0) hb
  have hf1 := free_of_two (j := 1) hb
  have HB := hide hb
  clear hb hrow hlc
  have hf2 : (f == 0) = false := beq_eq_false_iff_ne.2 hf
  go_enter Tryz.func137, Tryz.ntmps137
  go_wp2
  go_end0
  refine ⟨rfl, ⟨hne, none, 0, two_set0 (two_set1 (unhide HB)), by simp, by unfold maxLen; omega, .inl rfl⟩, ((Kp.refl _ _).setCell _ _ (by simp)).setCell _ _ (by simp)⟩

/-- Whatever error is told. -/
theorem fail_any (R g : Nat) (zs : List Int) (e f : Int) (w : World) (hr : Rd 164 w R g zs e) :
    Calls Tryz.prog 137 #[.pointer (some ⟨R, 0, none⟩), .int .i64 f] w fun x w' => x = .returned (.tuple #[]) ∧ Rd 164 w' R g (if e = 0 ∧ f ≠ 0 then [] else zs) (if e = 0 then f else e) ∧ Kp [R] w w' := by
  by_cases h : e = 0 ∧ f ≠ 0
  · obtain ⟨rfl, hf⟩ := h
    rw [if_pos ⟨rfl, hf⟩, if_pos rfl]
    exact fail_set R g zs f w hr hf
  · rw [if_neg h]
    have h2 : (if e = 0 then f else e) = e := by
      split
      · rename_i h0; have : ¬ f ≠ 0 := fun hf => h ⟨h0, hf⟩
        omega
      · rfl
    rw [h2]
    refine (fail_keep R g zs e f w hr (by omega)).mono ?_
    rintro x w' ⟨rfl, rfl⟩
    exact ⟨rfl, hr, Kp.refl _ _⟩

/-- What a reader says at the end: its error; else 4, where bytes are left. -/
theorem end_any (R g : Nat) (zs : List Int) (e : Int) (w : World) (hr : Rd 164 w R g zs e) :
    Calls Tryz.prog 69 #[.pointer (some ⟨R, 0, none⟩)] w fun x w' => x = .returned (.int .i64 (if e = 0 ∧ zs ≠ [] then 4 else e)) ∧ w' = w := by
  obtain ⟨hne, ao, cap, hb, hlc, hcm, hrow⟩ := hr
  have hc0 := cell_of_two0 hb
  have hc1 := cell_of_two1 hb
  clear hb hrow hlc
  by_cases he : e = 0
  · subst he
    cases zs with
    | nil =>
      rw [if_neg (by simp)]
      go_enter Tryz.func69, Tryz.ntmps69
      go_wp2_with fail
      refine (left_any R ao 0 cap _ hc0).mono ?_
      rintro x w1 ⟨rfl, rfl⟩
      go_wp2
      go_ret
      exact ⟨rfl, rfl⟩
    | cons z r =>
      rw [if_pos (by simp)]
      have hl : (0 : Int) < ((z :: r).length : Int) := by simp only [List.length_cons]; omega
      generalize hn : (z :: r).length = n at *
      go_enter Tryz.func69, Tryz.ntmps69
      go_wp2_with fail
      refine (left_any R ao n cap _ hc0).mono ?_
      rintro x w1 ⟨rfl, rfl⟩
      go_wp2
      go_ret
      exact ⟨rfl, rfl⟩
  · have he1 : (e == 0) = false := beq_eq_false_iff_ne.2 he
    rw [if_neg (by simp [he])]
    go_enter Tryz.func69, Tryz.ntmps69
    go_wp2
    go_ret
    exact ⟨rfl, rfl⟩

/-- A number of s bytes is read. -/
theorem number_any (R g s : Nat) (zs : List Int) (e : Int) (w : World) (hs : s ≤ 8) (hb : Byt zs) (hr : Rd 164 w R g zs e) :
    Calls Tryz.prog 130 #[.pointer (some ⟨R, 0, none⟩), .int .i64 s] w fun x w' => x = .returned (.int .i64 (rdV s zs)) ∧ Rd 164 w' R g (rdZ s zs e) (rdE s zs e) ∧ Kp [R] w w' := by
  have hmf : ∀ (fn : Fn) (first cap : Array Value) (w : World), (Instr.makeFunc fn first cap).run Tryz.prog w = .ok (.func fn first cap) w := fun _ _ _ _ => rfl
  have HR := hide hr
  obtain ⟨hne, ao, cap, hblk, hlc, hcm, hrow⟩ := hr
  have hc0 := cell_of_two0 hblk
  have HBY := hide hb
  clear hblk hrow hlc hb
  unfold rdV rdZ rdE
  by_cases hl : s ≤ zs.length
  · simp only [if_pos hl]
    have hl' : ¬ (zs.length : Int) < (s : Int) := by omega
    go_enter Tryz.func130, Tryz.ntmps130
    go_wp2_with fail
    refine (left_any R ao zs.length cap _ hc0).mono ?_
    rintro x w1 ⟨rfl, rfl⟩
    go_wp2_with fail
    refine (join_any 164 R g s zs e _ hs hl (unhide HBY) (unhide HR)).mono ?_
    rintro x w2 ⟨rfl, hr2, hk2⟩
    have HR2 := hide hr2
    have HK2 := hide hk2
    clear hr2 hk2
    go_wp2
    go_ret
    exact ⟨rfl, unhide HR2, unhide HK2⟩
  · simp only [if_neg hl]
    have hl' : (zs.length : Int) < (s : Int) := by omega
    by_cases he : e = 0
    · subst he
      simp only [if_pos]
      go_enter Tryz.func130, Tryz.ntmps130
      go_wp2_with fail
      refine (left_any R ao zs.length cap _ hc0).mono ?_
      rintro x w1 ⟨rfl, rfl⟩
      go_wp2_with fail
      refine (fail_set R g zs 3 _ (unhide HR) (by omega)).mono ?_
      rintro x w2 ⟨rfl, hr2, hk2⟩
      have HR2 := hide hr2
      have HK2 := hide hk2
      clear hr2 hk2
      go_wp2
      go_ret
      exact ⟨rfl, unhide HR2, unhide HK2⟩
    · simp only [if_neg he]
      have HE := hide he
      clear he
      go_enter Tryz.func130, Tryz.ntmps130
      go_wp2_with fail
      refine (left_any R ao zs.length cap _ hc0).mono ?_
      rintro x w1 ⟨rfl, rfl⟩
      go_wp2_with fail
      refine (fail_keep R g zs e 3 _ (unhide HR) (.inl (unhide HE))).mono ?_
      rintro x w2 ⟨rfl, rfl⟩
      go_wp2
      go_ret
      exact ⟨rfl, unhide HR, Kp.refl _ _⟩

theorem rint_any (R g : Nat) (zs : List Int) (e : Int) (w : World) (hb : Byt zs) (hr : Rd 164 w R g zs e) :
    Calls Tryz.prog 110 #[.pointer (some ⟨R, 0, none⟩)] w fun x w' => x = .returned (.int .i64 (rdV 8 zs)) ∧ Rd 164 w' R g (rdZ 8 zs e) (rdE 8 zs e) ∧ Kp [R] w w' := by
  have HR := hide hr
  have HB := hide hb
  clear hr hb
  go_enter Tryz.func110, Tryz.ntmps110
  go_wp2_with fail
  refine (number_any R g 8 zs e w (by omega) (unhide HB) (unhide HR)).mono ?_
  rintro x w2 ⟨rfl, hr2, hk2⟩
  have HR2 := hide hr2
  have HK2 := hide hk2
  clear hr2 hk2
  go_wp2
  go_ret
  exact ⟨rfl, unhide HR2, unhide HK2⟩

theorem rbyte_any (R g : Nat) (zs : List Int) (e : Int) (w : World) (hb : Byt zs) (hr : Rd 164 w R g zs e) :
    Calls Tryz.prog 114 #[.pointer (some ⟨R, 0, none⟩)] w fun x w' => x = .returned (.int .i64 (rdV 1 zs)) ∧ Rd 164 w' R g (rdZ 1 zs e) (rdE 1 zs e) ∧ Kp [R] w w' := by
  have HR := hide hr
  have HB := hide hb
  clear hr hb
  go_enter Tryz.func114, Tryz.ntmps114
  go_wp2_with fail
  refine (number_any R g 1 zs e w (by omega) (unhide HB) (unhide HR)).mono ?_
  rintro x w2 ⟨rfl, hr2, hk2⟩
  have HR2 := hide hr2
  have HK2 := hide hk2
  clear hr2 hk2
  go_wp2
  go_ret
  exact ⟨rfl, unhide HR2, unhide HK2⟩

end Go.Proofs.YtjdikhelabibnabGreat

namespace Go.Proofs.YtjdikhelabibnabGreat
open Go.RowKit

theorem byte_any (a : Option Addr) (g n c : Nat) (v : Int) (zs : List Int) (w : World) (hn : n ≤ 1000000) (hl : zs.length = n) (hr : Row w a g zs) :
    Calls Tryz.prog 112 #[.slice a n c, .int .i64 v] w fun e w' => ∃ q, e = .returned (.slice (some ⟨q, 0, none⟩) (n + 1) (n + 1)) ∧ w.heap.size ≤ q ∧
      w'.ownsRow w.heap.size 5 1 (.slice (some ⟨q, 0, none⟩) (n + 1) (n + 1)) (n + 1) ((zs ++ by8 1 (IntKind.u64.wrap v)).map (Value.int .u8)) ∧ Kp [] w w' := by
  go_enter Tryz.func112, Tryz.ntmps112
  go_wp2_with fail
  refine (written_any a g n c 1 v zs w (by omega) hn hl hr).mono ?_
  rintro e w1 ⟨q, rfl, hq, ho, hk⟩
  have HO := hide ho
  have HK := hide hk
  clear ho hk hr hl
  go_wp2
  go_ret
  exact ⟨q, rfl, hq, unhide HO, unhide HK⟩

end Go.Proofs.YtjdikhelabibnabGreat
