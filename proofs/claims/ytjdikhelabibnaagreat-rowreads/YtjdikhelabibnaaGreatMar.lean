/-
  
-/
import Derived.Test.YtjdikhelabibnaaGreatMaf
import Derived.Test.YtjdikhelabibnaaGreatMac
import Derived.Test.YtjdikhelabibnaaGreatRows
import Derived.Test.YtjdikhelabibnaaGreatMaa
import Derived.OpenShut
import Derived.Handy
import Derived.Laws.CopyOwn
namespace Go.Proofs.YtjdikhelabibnaaGreat
open Go.RowKit
theorem sizeE1 : (Tryz.prog.info? 5).map (·.size) = some 1 := by kernel_rfl
theorem left_any (T : Nat) (a : Option Addr) (n c : Nat) (w : World) (h : w.cell? ⟨T, 0, none⟩ = some (.slice a n c)) :
  Calls Tryz.prog 143 #[.pointer (some ⟨T, 0, none⟩)] w fun e w' => e = .returned (.int .i64 n) ∧ w' = w := by
 go_enter Tryz.func143, Tryz.ntmps143
 go_wp2
 go_ret
 exact ⟨rfl, rfl⟩
theorem take_one (T g o n cap : Nat) (z : Int) (w : World) (hn : 1 ≤ n) (hc : n ≤ cap)
  (h : w.cell? ⟨T, 0, none⟩ = some (.slice (some ⟨g, o, none⟩) n cap)) (hf : w.frozen? ⟨T, 0, none⟩ = false) (hz : w.cell? ⟨g, o, none⟩ = some (.int .u8 z)) :
  Calls Tryz.prog 157 #[.pointer (some ⟨T, 0, none⟩)] w fun e w' => e = .returned (.int .u8 z) ∧
   ∃ ao, w' = w.setCell ⟨T, 0, none⟩ (.slice ao (n - 1) (cap - 1)) ∧ (1 < n → ao = some ⟨g, o + 1, none⟩) := by
 go_enter Tryz.func157, Tryz.ntmps157
 go_wp2
 ·go_ret
  exact ⟨rfl, _, rfl, fun h1 => absurd h1 (by omega)⟩
 go_ret
 exact ⟨rfl, _, rfl, fun _ => rfl⟩
theorem put_one (T g n cap : Nat) (x : Int) (xs : List Value) (base : Nat) (w : World) (hg : T ≠ g) (hr : n + 1 ≤ cap)
  (h : w.heap[T]? = some (.cells #[.slice (some ⟨g, 0, none⟩) n cap] 183 (0, 0))) (ho : w.ownsRow base 5 1 (.slice (some ⟨g, 0, none⟩) n cap) n xs) :
  Calls Tryz.prog 154 #[.pointer (some ⟨T, 0, none⟩), .int .u8 x] w fun e w' => e = .returned (.tuple #[]) ∧
   w'.heap[T]? = some (.cells #[.slice (some ⟨g, 0, none⟩) (n + 1) cap] 183 (0, 0)) ∧ w'.ownsRow base 5 1 (.slice (some ⟨g, 0, none⟩) (n + 1) cap) (n + 1) (xs ++ [.int .u8 x]) ∧ Kp [T, g] w w' := by
 obtain ⟨i0, hi, hz0, hz1, hz2⟩ := info_parts infoE
 have hc0 := cell_of_one h
 have hf0 := free_of_one h
 have HH : Hid (w.heap[T]? = some (.cells #[.slice (some ⟨g, 0, none⟩) n cap] 183 (0, 0))) := h
 have hlt := lt_of_block h
 clear h
 go_enter Tryz.func154, Tryz.ntmps154
 go_wp2_with (at_builtin; refine wpList_append_fits _ rfl _ _ 47 rfl base 5 i0 1 Tryz.underlying47 hi hz1 g n cap xs rfl (ho.alloc _) ⟨w.heap.size, 0, none⟩ 1 1 [.int .u8 x] rfl rfl ?c1 ?c2 hr ?_)
 case c1 => intro j u hj; match j, hj with | 0, hj => simp at hj; subst hj; simp [Addr.add]
 case c2 => intro u hu; simp at hu; subst hu; rfl
 intro w1 ho1 hg1
 have k1 : Kp [T, g] w w1 := ((Kp.refl _ w).alloc _).grown hg1 (by intro k hk; cases hk; simp)
 have hb1 : w1.heap[T]? = some (.cells #[.slice (some ⟨g, 0, none⟩) n cap] 183 (0, 0)) := by
  rw [hg1.block T (by simp; omega) (by simpa using hg), Below.heap_alloc _ _ _ hlt]; exact HH.out
 have hc1 := cell_of_one hb1
 have hf1 := free_of_one hb1
 have HB : Hid (w1.heap[T]? = some (.cells #[.slice (some ⟨g, 0, none⟩) n cap] 183 (0, 0))) := hb1
 clear hb1
 go_wp2
 go_end0
 exact ⟨rfl, one_setCell HB.out, ownsRow_setCell_other ho1 (by simpa [Value.ownBlock] using fun e => hg e.symm) _, k1.setCell _ _ (by simp)⟩
theorem tapeOf_any (a : Option Addr) (g n c : Nat) (m : Nat) (zs : List Int) (w : World) (hm : m ≤ 8) (hn : n ≤ 1000000) (hl : zs.length = n) (hr : Row w a g zs) :
  Calls Tryz.prog 142 #[.slice a n c, .int .i64 m] w fun e w' => ∃ q, e = .returned (.agg #[.slice (some ⟨q, 0, none⟩) n (n + m)]) ∧ w.heap.size ≤ q ∧
   w'.ownsRow w.heap.size 5 1 (.slice (some ⟨q, 0, none⟩) n (n + m)) n (zs.map (Value.int .u8)) ∧ Kp [] w w' := by
 obtain ⟨i0, hi, hz0, hz1, hz2⟩ := info_parts infoE
 have hmk := run_make (P := Tryz.prog) (w.alloc (Obj.cells #[Value.slice none 0 0] 183)) 47 5 i0 (.int .u8 0) Tryz.underlying47 hi hz0 .i64 .i64 (n : Int) ((n : Int) + (m : Int)) (by omega) (by omega) (by rw [hz2]; omega) (by omega)
 obtain ⟨Z, hZ, hZs⟩ : ∃ Z, Z = madeCells (Value.cells (.int .u8 0)) (((n : Int) + (m : Int)).toNat * i0.size) ∧ Z.size = n + m := ⟨_, rfl, by rw [size_madeCells, hz1]; omega⟩
 rw [← hZ] at hmk
 clear hZ
 rw [show ((n : Int)).toNat = n from by omega, show ((n : Int) + (m : Int)).toNat = n + m from by omega, show (w.alloc (Obj.cells #[Value.slice none 0 0] 183)).heap.size = w.heap.size + 1 from by simp] at hmk
 obtain ⟨W3, hcp, Z', hZ', hZs', htk, hk3⟩ : ∃ W3, (Builtin.copy_ #[47, 47] 3 #[Value.slice (some ⟨w.heap.size + 1, 0, none⟩) n (n + m), Value.slice a n c]).run Tryz.prog
   ((w.alloc (Obj.cells #[Value.slice none 0 0] 183)).alloc (Obj.cells Z 5)) = .ok (.int .i64 n) W3 ∧ ∃ Z', W3.heap[w.heap.size + 1]? = some (.cells Z' 5 (0, 0)) ∧ Z'.size = n + m ∧ Z'.toList.take n = zs.map (Value.int .u8) ∧
   Kp [w.heap.size + 1] ((w.alloc (Obj.cells #[Value.slice none 0 0] 183)).alloc (Obj.cells Z 5)) W3 := by
  have hnew : ((w.alloc (Obj.cells #[Value.slice none 0 0] 183)).alloc (Obj.cells Z 5)).heap[w.heap.size + 1]? = some (.cells Z 5 (0, 0)) := heap_alloc2_new _ _ _
  rcases hr with rfl | ⟨o, rfl, hc⟩
  ·simp only [List.length_nil] at hl
   subst hl
   exact ⟨_, run_copy_none _ _ _ _ 5 _ _ _ _ _ _ Tryz.underlying47 sizeE1 (by simp), Z, hnew, hZs, by simp, Kp.refl _ _⟩
  have hrun := run_copy_row (P := Tryz.prog) ((w.alloc (Obj.cells #[Value.slice none 0 0] 183)).alloc (Obj.cells Z 5)) 47 47 3 5 (w.heap.size + 1) 0 n (n + m) ⟨g, o, none⟩ n c Z 5 (zs.map (Value.int .u8)) Tryz.underlying47 sizeE1 hnew
   (by simp [hl]) (fun j v hv => by
    obtain ⟨hj, hv⟩ := List.getElem?_eq_some_iff.1 hv
    simp only [List.length_map] at hj
    have hcj := hc j hj
    have hlt : g < w.heap.size := block_lt_of_cell hcj
    rw [Addr.add_lit, World.cell?_alloc_past _ _ _ (by simp only [World.size_alloc]; omega), World.cell?_alloc_past _ _ _ hlt, hcj]
    simp [← hv, List.getD_eq_getElem?_getD, hj]) (by simp [hl, hZs]) (ints_oneCell _ _)
  rw [show goInt ((zs.map (Value.int .u8)).length : Int) = .int .i64 n from by simp [goInt, hl]] at hrun
  refine ⟨_, hrun, _, setRow_heap _ _ _ _ 5 _ hnew, ?_, ?_, ?_⟩
  ·simp [hl, hZs]
  ·simp [hl]
  exact (Kp.refl _ _).grown (row := some (w.heap.size + 1)) ⟨rfl, rfl, rfl, by simp, fun k _ hk => setRow_other _ _ k _ (fun e => hk (by simp [e]))⟩ (by simp)
 have hk0 : Kp [] w W3 := (((Kp.refl [] w).alloc _).alloc _).trans hk3 (by simp)
 have hbT : W3.heap[w.heap.size]? = some (.cells #[Value.slice none 0 0] 183 (0, 0)) := hk3.heap (heap_alloc2_old _ _ _) (by simp)
 have hcT := cell_of_one hbT
 have hfT := free_of_one hbT
 have HT := hide hbT
 have HZ := hide hZ'
 have HZS := hide hZs'
 have HTK := hide htk
 have HK0 := hide hk0
 have HL := hide hl
 clear hk3 hk0 hbT hZ' hZs' htk hr hl hZs
 go_enter Tryz.func142, Tryz.ntmps142
 go_wp2
 refine bodyPost_ret (v := .agg #[.slice (some ⟨w.heap.size + 1, 0, none⟩) n (n + m)]) (by simp [results, Tryz.results142, go_sem, cell_of_one (one_setCell (uh HT))]) rfl ⟨w.heap.size + 1, rfl, by omega, ?_, ?_⟩
 ·refine ⟨by simpa using uh HL, .inr ⟨w.heap.size + 1, n + m, Z', rfl, by omega, ?_, by omega, by unfold maxLen; omega, by simpa using uh HZS, by simpa using uh HTK⟩⟩
  rw [Below.heap_setCell _ _ _ _ (by simp)]
  exact uh HZ
 exact (uh HK0).setCell _ _ (by simp)
theorem split_any (T g n cap s : Nat) (v : Int) (xs : List Value) (base : Nat) (w : World) (hs : s ≤ 8) (hg : T ≠ g) (hr : n + s ≤ cap)
  (h : w.heap[T]? = some (.cells #[.slice (some ⟨g, 0, none⟩) n cap] 183 (0, 0))) (ho : w.ownsRow base 5 1 (.slice (some ⟨g, 0, none⟩) n cap) n xs) :
  Calls Tryz.prog 153 #[.int .i64 s, .int .i64 v, .func (.func 154) #[.pointer (some ⟨T, 0, none⟩)] #[]] w fun e w' => e = .returned (.tuple #[]) ∧
   w'.heap[T]? = some (.cells #[.slice (some ⟨g, 0, none⟩) (n + s) cap] 183 (0, 0)) ∧ w'.ownsRow base 5 1 (.slice (some ⟨g, 0, none⟩) (n + s) cap) (n + s) (xs ++ (by8 s (IntKind.u64.wrap v)).map (Value.int .u8)) ∧ Kp [T, g] w w' := by
 have HH : Hid (w.heap[T]? = some (.cells #[.slice (some ⟨g, 0, none⟩) n cap] 183 (0, 0))) := h
 have HO : Hid (w.ownsRow base 5 1 (.slice (some ⟨g, 0, none⟩) n cap) n xs) := ho
 clear h ho
 have hu : 0 ≤ IntKind.u64.wrap v ∧ IntKind.u64.wrap v < 18446744073709551616 := by rw [IntKind.wrap_u64]; omega
 go_enter Tryz.func153, Tryz.ntmps153
 go_wp2_with fail
 go_loopw [6, 10] (fun l i wr => ∃ k : Nat, k ≤ s ∧ i = .int .i64 k ∧ l = .int .u64 (IntKind.u64.wrap v / 256 ^ k) ∧ Kp [T, g] w wr ∧
   wr.heap[T]? = some (.cells #[.slice (some ⟨g, 0, none⟩) (n + k) cap] 183 (0, 0)) ∧ wr.ownsRow base 5 1 (.slice (some ⟨g, 0, none⟩) (n + k) cap) (n + k) (xs ++ (by8 k (IntKind.u64.wrap v)).map (Value.int .u8)))
  (fun _ i _ => s - (intOf i).toNat)
 case atStart => exact ⟨0, by omega, rfl, by simp, Kp.refl _ _, HH.out, by simpa [by8] using HO.out⟩
 case round =>
  obtain ⟨k, hk, rfl, rfl, hK, hb, ho⟩ := hrel
  generalize hV : IntKind.u64.wrap v / 256 ^ k = V at *
  have hV0 : 0 ≤ V := by rw [← hV]; exact Int.ediv_nonneg hu.1 (Int.pow_nonneg (by omega))
  have hV1 : V < 18446744073709551616 := by rw [← hV]; exact Int.lt_of_le_of_lt (Int.ediv_le_self _ hu.1) hu.2
  have HV : Hid (IntKind.u64.wrap v / 256 ^ k = V) := hV
  have HB : Hid (wr.heap[T]? = some (.cells #[.slice (some ⟨g, 0, none⟩) (n + k) cap] 183 (0, 0))) := hb
  have HO1 : Hid (wr.ownsRow base 5 1 (.slice (some ⟨g, 0, none⟩) (n + k) cap) (n + k) (xs ++ (by8 k (IntKind.u64.wrap v)).map (Value.int .u8))) := ho
  have HK : Hid (Kp [T, g] w wr) := hK
  clear hV hb ho hK HH HO
  by_cases hlt : k < s
  ·go_wp2_with fail
   refine (put_one T g (n + k) cap _ _ base wr hg (by omega) HB.out HO1.out).mono ?_
   rintro e w1 ⟨rfl, hb1, ho1, hk1⟩
   have HB1 := hide hb1
   have HO2 := hide ho1
   have HK1 : Hid (Kp [T, g] w w1) := HK.out.trans hk1 (by simp)
   clear hb1 ho1 hk1
   go_wp2
   go_roundw
   case rel =>
    refine ⟨k + 1, by omega, by go_num, ?_, HK1.out, uh HB1, ?_⟩
    ·rw [← HV.out, Int.ediv_ediv_of_nonneg (Int.pow_nonneg (by omega)), Int.pow_succ]
    have := uh HO2
    rw [by8_snoc, List.map_append, ← List.append_assoc, HV.out]
    exact this
   case measure => simp [intOf]; omega
  have : k = s := by omega
  subst this
  go_wp2
  go_end0
  exact ⟨rfl, HB.out, HO1.out, HK.out⟩
theorem join_any (TT : TypeId) (R g s : Nat) (zs : List Int) (e : Int) (w : World) (hs : s ≤ 8) (hl : s ≤ zs.length) (hb : Byt zs) (hr : Rd TT w R g zs e) :
    Calls Tryz.prog 156 #[.int .i64 s, .func (.func 157) #[.pointer (some ⟨R, 0, none⟩)] #[]] w fun x w' => x = .returned (.int .i64 (wrap64 (le (zs.take s)))) ∧
      Rd TT w' R g (zs.drop s) e ∧ Kp [R] w w' := by
  have HR : Hid (Rd TT w R g zs e) := hr
  clear hr
  go_enter Tryz.func156, Tryz.ntmps156
  go_wp2_with fail
  go_loopw [5, 8] (fun l i wr => ∃ k : Nat, k ≤ s ∧ i = .int .i64 k ∧ l = .int .u64 (le (zs.take k)) ∧ Kp [R] w wr ∧ Rd TT wr R g (zs.drop k) e)
    (fun _ i _ => s - (intOf i).toNat)
  case atStart => exact ⟨0, by omega, rfl, by simp [le], Kp.refl _ _, by simpa using HR.out⟩
  case round =>
    obtain ⟨k, hk, rfl, rfl, hK, hr⟩ := hrel
    have hbt : Byt (zs.take k) := fun z hz => hb z (List.mem_of_mem_take hz)
    have hbd := le_bound (zs.take k) hbt
    have hlk : (zs.take k).length = k := by simp; omega
    rw [hlk] at hbd
    have hp : (256 : Int) ^ k ≤ 256 ^ 8 := by
      have : (256 : Nat) ^ k ≤ 256 ^ 8 := Nat.pow_le_pow_right (by omega) (by omega)
      have h2 : ((256 ^ k : Nat) : Int) ≤ ((256 ^ 8 : Nat) : Int) := by omega
      simpa using h2
    have hV1 : le (zs.take k) < 18446744073709551616 := by have : (256 : Int) ^ 8 = 18446744073709551616 := by decide
                                                           omega
    obtain ⟨hV0, hVk⟩ := hbd
    have hgb := hb.getD k
    have hle : k < zs.length → le (zs.take (k + 1)) = le (zs.take k) + zs.getD k 0 * 256 ^ k := by intro h; rw [take_snoc zs k h, le_snoc, hlk]
    generalize hV : le (zs.take k) = V at *
    generalize hz : zs.getD k 0 = z at *
    have HL := hide hle
    have HVk := hide hVk
    have HV := hide hV
    have HZ := hide hz
    have HK := hide hK
    obtain ⟨hne, ao, cap, hblk, hlc, hcm, hrow⟩ := hr
    have HB := hide hblk
    have HW := hide hrow
    have HH := hide hb
    clear hle hVk hV hz hK hblk hrow hp hbt hlk HR hb
    simp only [List.length_drop] at hlc
    by_cases hlt : k < s
    · obtain ⟨o, rfl, hcs⟩ : ∃ o, ao = some ⟨g, o, none⟩ ∧ ∀ j, j < (zs.drop k).length → wr.cell? ⟨g, o + j, none⟩ = some (.int .u8 ((zs.drop k).getD j 0)) := by
        rcases uh HW with h0 | h0
        · have := congrArg List.length h0; simp at this; omega
        exact h0
      have HCS := hide hcs
      have hz0 : wr.cell? ⟨g, o, none⟩ = some (.int .u8 z) := by
        have := hcs 0 (by simp; omega)
        rw [drop_getD, Nat.add_zero, Nat.add_zero, uh HZ] at this
        exact this
      clear hcs
      go_wp2_with fail
      refine (take_one R g o (zs.length - k) cap z wr (by omega) hlc (by have := cell_of_two0 (uh HB); simpa using this) (free_of_two (uh HB)) hz0).mono ?_
      rintro x w1 ⟨rfl, ao1, rfl, hao⟩
      have HA := hide hao
      clear hao hz0
      go_wp2
      go_roundw
      case rel =>
        refine ⟨k + 1, by omega, by go_num, ?_, (uh HK).setCell _ _ (by simp), hne, ao1, cap - 1, ?_, ?_, by omega, ?_⟩
        · rw [uh HL (by omega), or_step _ _ _ (by omega) hV0 (uh HVk) hgb.1 hgb.2]
        · have := two_set0 (x := .slice ao1 (zs.length - k - 1) (cap - 1)) (uh HB)
          rw [this]
          simp [Nat.sub_sub]
        · simp; omega
        by_cases h1 : 1 < zs.length - k
        · refine .inr ⟨o + 1, uh HA h1, fun j hj => ?_⟩
          simp only [List.length_drop] at hj
          have := uh HCS (j + 1) (by simp; omega)
          rw [drop_getD] at this ⊢
          rw [show k + 1 + j = k + (j + 1) from by omega, show o + 1 + j = o + (j + 1) from by omega, ← this]
          exact World.cell?_of_block (Below.heap_setCell _ _ _ _ hne)
        exact .inl (List.drop_eq_nil_of_le (by omega))
      case measure => simp [intOf]; omega
    have : k = s := by omega
    subst this
    go_wp2
    go_ret
    exact ⟨by rw [uh HV]; rfl, ⟨hne, ao, cap, uh HB, by simpa using hlc, hcm, uh HW⟩, uh HK⟩
end Go.Proofs.YtjdikhelabibnaaGreat

namespace Go.Proofs.YtjdikhelabibnaaGreat
open Go.RowKit
theorem written_any (a : Option Addr) (g n c s : Nat) (v : Int) (zs : List Int) (w : World) (hs : s ≤ 8) (hn : n ≤ 1000000) (hl : zs.length = n) (hr : Row w a g zs) :
  Calls Tryz.prog 144 #[.slice a n c, .int .i64 s, .int .i64 v] w fun e w' => ∃ q, e = .returned (.slice (some ⟨q, 0, none⟩) (n + s) (n + s)) ∧ w.heap.size ≤ q ∧
   w'.ownsRow w.heap.size 5 1 (.slice (some ⟨q, 0, none⟩) (n + s) (n + s)) (n + s) ((zs ++ by8 s (IntKind.u64.wrap v)).map (Value.int .u8)) ∧ Kp [] w w' := by
 have hmf : ∀ (fn : Fn) (first cap : Array Value) (w : World), (Instr.makeFunc fn first cap).run Tryz.prog w = .ok (.func fn first cap) w := fun _ _ _ _ => rfl
 go_enter Tryz.func144, Tryz.ntmps144
 go_wp2_with fail
 refine (tapeOf_any a g n c s zs w hs hn hl hr).mono ?_
 rintro e w1 ⟨q, rfl, hq, ho, hk⟩
 have HO := hide ho
 have HK := hide hk
 clear ho hk hr hl
 go_wp2_with fail
 have hq1 : q < w1.heap.size := ((uh HO).lt q rfl).2
 have hne : w1.heap.size ≠ q := by omega
 refine (split_any w1.heap.size q n (n + s) s v (zs.map (Value.int .u8)) w.heap.size _ hs hne (by omega) (heap_alloc_new _ _) ((uh HO).alloc _)).mono ?_
 rintro e w2 ⟨rfl, hb2, ho2, hk2⟩
 have hc2 := cell_of_one hb2
 have HO2 := hide ho2
 have HK2 : Hid (Kp [] w w2) := ((uh HK).alloc _).trans hk2 (by intro x hx; have := (uh HK).size; simp at hx; omega)
 clear hb2 ho2 hk2 HO HK
 go_wp2
 go_ret
 exact ⟨q, rfl, hq, by rw [List.map_append]; exact uh HO2, uh HK2⟩
theorem int_any (a : Option Addr) (g n c : Nat) (v : Int) (zs : List Int) (w : World) (hn : n ≤ 1000000) (hl : zs.length = n) (hr : Row w a g zs) :
  Calls Tryz.prog 115 #[.slice a n c, .int .i64 v] w fun e w' => ∃ q, e = .returned (.slice (some ⟨q, 0, none⟩) (n + 8) (n + 8)) ∧ w.heap.size ≤ q ∧
   w'.ownsRow w.heap.size 5 1 (.slice (some ⟨q, 0, none⟩) (n + 8) (n + 8)) (n + 8) ((zs ++ by8 8 (IntKind.u64.wrap v)).map (Value.int .u8)) ∧ Kp [] w w' := by
 go_enter Tryz.func115, Tryz.ntmps115
 go_wp2_with fail
 refine (written_any a g n c 8 v zs w (by omega) hn hl hr).mono ?_
 rintro e w1 ⟨q, rfl, hq, ho, hk⟩
 have HO := hide ho
 have HK := hide hk
 clear ho hk hr hl
 go_wp2
 go_ret
 exact ⟨q, rfl, hq, uh HO, uh HK⟩
theorem cnew_any (a : Option Addr) (g n c : Nat) (zs : List Int) (w : World) (hn : n ≤ 1000000) (hl : zs.length = n) (hr : Row w a g zs) :
  Calls Tryz.prog 103 #[.slice a n c] w fun e w' => ∃ R q, e = .returned (.pointer (some ⟨R, 0, none⟩)) ∧ w.heap.size ≤ R ∧ w.heap.size ≤ q ∧ Rd 186 w' R q zs 0 ∧ Kp [] w w' := by
 go_enter Tryz.func103, Tryz.ntmps103
 go_wp2_with fail
 refine (tapeOf_any a g n c 0 zs w (by omega) hn hl hr).mono ?_
 rintro e w1 ⟨q, rfl, hq, ho, hk⟩
 have HO := hide ho
 have HK := hide hk
 have HL := hide hl
 clear ho hk hr hl
 go_wp2
 go_ret
 have hq1 : q < w1.heap.size := ((uh HO).lt q rfl).2
 refine ⟨w1.heap.size, q, rfl, (uh HK).size, hq, ⟨by omega, some ⟨q, 0, none⟩, n, ?_, by rw [uh HL]; omega, by unfold maxLen; omega, ?_⟩, (uh HK).alloc _⟩
 ·rw [uh HL]; exact heap_alloc_new _ _
 exact row_of_owns ((uh HO).alloc _)
theorem fail_keep (R g : Nat) (zs : List Int) (e f : Int) (w : World) (hr : Rd 186 w R g zs e) (h : e ≠ 0 ∨ f = 0) :
  Calls Tryz.prog 155 #[.pointer (some ⟨R, 0, none⟩), .int .i64 f] w fun x w' => x = .returned (.tuple #[]) ∧ w' = w := by
 obtain ⟨hne, ao, cap, hb, hlc, hcm, hrow⟩ := hr
 have hc1 := cell_of_two1 hb
 clear hb hrow hlc
 by_cases he : e = 0
 ·have hf : f = 0 := by rcases h with h | h; exact absurd he h; exact h
  subst he
  subst hf
  go_enter Tryz.func155, Tryz.ntmps155
  go_wp2
  go_returns
  exact ⟨rfl, rfl⟩
 have he1 : (e != 0) = true := by rw [bne_iff_ne]; exact he
 go_enter Tryz.func155, Tryz.ntmps155
 go_wp2
 go_returns
 exact ⟨rfl, rfl⟩
theorem fail_set (R g : Nat) (zs : List Int) (f : Int) (w : World) (hr : Rd 186 w R g zs 0) (hf : f ≠ 0) :
  Calls Tryz.prog 155 #[.pointer (some ⟨R, 0, none⟩), .int .i64 f] w fun x w' => x = .returned (.tuple #[]) ∧ Rd 186 w' R g [] f ∧ Kp [R] w w' := by
 obtain ⟨hne, ao, cap, hb, hlc, hcm, hrow⟩ := hr
 have hc0 := cell_of_two0 hb
 have hc1 := cell_of_two1 hb
 have hf0 := free_of_two (j := 0) hb
 have hf1 := free_of_two (j := 1) hb
 have HB := hide hb
 clear hb hrow hlc
 have hf2 : (f == 0) = false := beq_eq_false_iff_ne.2 hf
 go_enter Tryz.func155, Tryz.ntmps155
 go_wp2
 go_end0
 refine ⟨rfl, ⟨hne, none, 0, two_set0 (two_set1 (uh HB)), by simp, by unfold maxLen; omega, .inl rfl⟩, ((Kp.refl _ _).setCell _ _ (by simp)).setCell _ _ (by simp)⟩
theorem end_any (R g : Nat) (zs : List Int) (e : Int) (w : World) (hr : Rd 186 w R g zs e) :
  Calls Tryz.prog 107 #[.pointer (some ⟨R, 0, none⟩)] w fun x w' => x = .returned (.int .i64 (if e = 0 ∧ zs ≠ [] then 4 else e)) ∧ w' = w := by
 obtain ⟨hne, ao, cap, hb, hlc, hcm, hrow⟩ := hr
 have hc0 := cell_of_two0 hb
 have hc1 := cell_of_two1 hb
 clear hb hrow hlc
 by_cases he : e = 0
 ·subst he
  cases zs with
  | nil =>
   rw [if_neg (by simp)]
   go_enter Tryz.func107, Tryz.ntmps107
   go_wp2_with fail
   refine (left_any R ao 0 cap _ hc0).mono ?_
   rintro x w1 ⟨rfl, rfl⟩
   go_wp2
   go_ret
   exact ⟨rfl, rfl⟩
  | cons z r =>
   rw [if_pos (by simp)]
   have hl : (0 : Int) < ((z :: r).length : Int) := by simp only [List.length_cons]; omega
   generalize hn : (z :: r).length = n at *
   go_enter Tryz.func107, Tryz.ntmps107
   go_wp2_with fail
   refine (left_any R ao n cap _ hc0).mono ?_
   rintro x w1 ⟨rfl, rfl⟩
   go_wp2
   go_ret
   exact ⟨rfl, rfl⟩
 have he1 : (e == 0) = false := beq_eq_false_iff_ne.2 he
 rw [if_neg (by simp [he])]
 go_enter Tryz.func107, Tryz.ntmps107
 go_wp2
 go_ret
 exact ⟨rfl, rfl⟩
theorem number_any (R g s : Nat) (zs : List Int) (e : Int) (w : World) (hs : s ≤ 8) (hb : Byt zs) (hr : Rd 186 w R g zs e) :
  Calls Tryz.prog 145 #[.pointer (some ⟨R, 0, none⟩), .int .i64 s] w fun x w' => x = .returned (.int .i64 (rdV s zs)) ∧ Rd 186 w' R g (rdZ s zs e) (rdE s zs e) ∧ Kp [R] w w' := by
 have hmf : ∀ (fn : Fn) (first cap : Array Value) (w : World), (Instr.makeFunc fn first cap).run Tryz.prog w = .ok (.func fn first cap) w := fun _ _ _ _ => rfl
 have HR := hide hr
 obtain ⟨hne, ao, cap, hblk, hlc, hcm, hrow⟩ := hr
 have hc0 := cell_of_two0 hblk
 have HBY := hide hb
 clear hblk hrow hlc hb
 unfold rdV rdZ rdE
 by_cases hl : s ≤ zs.length
 ·simp only [if_pos hl]
  have hl' : ¬ (zs.length : Int) < (s : Int) := by omega
  go_enter Tryz.func145, Tryz.ntmps145
  go_wp2_with fail
  refine (left_any R ao zs.length cap _ hc0).mono ?_
  rintro x w1 ⟨rfl, rfl⟩
  go_wp2_with fail
  refine (join_any 186 R g s zs e _ hs hl (uh HBY) (uh HR)).mono ?_
  rintro x w2 ⟨rfl, hr2, hk2⟩
  have HR2 := hide hr2
  have HK2 := hide hk2
  clear hr2 hk2
  go_wp2
  go_ret
  exact ⟨rfl, uh HR2, uh HK2⟩
 simp only [if_neg hl]
 have hl' : (zs.length : Int) < (s : Int) := by omega
 by_cases he : e = 0
 ·subst he
  simp only [if_pos]
  go_enter Tryz.func145, Tryz.ntmps145
  go_wp2_with fail
  refine (left_any R ao zs.length cap _ hc0).mono ?_
  rintro x w1 ⟨rfl, rfl⟩
  go_wp2_with fail
  refine (fail_set R g zs 3 _ (uh HR) (by omega)).mono ?_
  rintro x w2 ⟨rfl, hr2, hk2⟩
  have HR2 := hide hr2
  have HK2 := hide hk2
  clear hr2 hk2
  go_wp2
  go_ret
  exact ⟨rfl, uh HR2, uh HK2⟩
 simp only [if_neg he]
 have HE := hide he
 clear he
 go_enter Tryz.func145, Tryz.ntmps145
 go_wp2_with fail
 refine (left_any R ao zs.length cap _ hc0).mono ?_
 rintro x w1 ⟨rfl, rfl⟩
 go_wp2_with fail
 refine (fail_keep R g zs e 3 _ (uh HR) (.inl (uh HE))).mono ?_
 rintro x w2 ⟨rfl, rfl⟩
 go_wp2
 go_ret
 exact ⟨rfl, uh HR, Kp.refl _ _⟩
theorem rint_any (R g : Nat) (zs : List Int) (e : Int) (w : World) (hb : Byt zs) (hr : Rd 186 w R g zs e) :
  Calls Tryz.prog 117 #[.pointer (some ⟨R, 0, none⟩)] w fun x w' => x = .returned (.int .i64 (rdV 8 zs)) ∧ Rd 186 w' R g (rdZ 8 zs e) (rdE 8 zs e) ∧ Kp [R] w w' := by
 have HR := hide hr
 have HB := hide hb
 clear hr hb
 go_enter Tryz.func117, Tryz.ntmps117
 go_wp2_with fail
 refine (number_any R g 8 zs e w (by omega) (uh HB) (uh HR)).mono ?_
 rintro x w2 ⟨rfl, hr2, hk2⟩
 have HR2 := hide hr2
 have HK2 := hide hk2
 clear hr2 hk2
 go_wp2
 go_ret
 exact ⟨rfl, uh HR2, uh HK2⟩
theorem rbyte_any (R g : Nat) (zs : List Int) (e : Int) (w : World) (hb : Byt zs) (hr : Rd 186 w R g zs e) :
  Calls Tryz.prog 121 #[.pointer (some ⟨R, 0, none⟩)] w fun x w' => x = .returned (.int .i64 (rdV 1 zs)) ∧ Rd 186 w' R g (rdZ 1 zs e) (rdE 1 zs e) ∧ Kp [R] w w' := by
 have HR := hide hr
 have HB := hide hb
 clear hr hb
 go_enter Tryz.func121, Tryz.ntmps121
 go_wp2_with fail
 refine (number_any R g 1 zs e w (by omega) (uh HB) (uh HR)).mono ?_
 rintro x w2 ⟨rfl, hr2, hk2⟩
 have HR2 := hide hr2
 have HK2 := hide hk2
 clear hr2 hk2
 go_wp2
 go_ret
 exact ⟨rfl, uh HR2, uh HK2⟩
end Go.Proofs.YtjdikhelabibnaaGreat

namespace Go.Proofs.YtjdikhelabibnaaGreat
open Go.RowKit
theorem byte_any (a : Option Addr) (g n c : Nat) (v : Int) (zs : List Int) (w : World) (hn : n ≤ 1000000) (hl : zs.length = n) (hr : Row w a g zs) :
  Calls Tryz.prog 119 #[.slice a n c, .int .i64 v] w fun e w' => ∃ q, e = .returned (.slice (some ⟨q, 0, none⟩) (n + 1) (n + 1)) ∧ w.heap.size ≤ q ∧
   w'.ownsRow w.heap.size 5 1 (.slice (some ⟨q, 0, none⟩) (n + 1) (n + 1)) (n + 1) ((zs ++ by8 1 (IntKind.u64.wrap v)).map (Value.int .u8)) ∧ Kp [] w w' := by
 go_enter Tryz.func119, Tryz.ntmps119
 go_wp2_with fail
 refine (written_any a g n c 1 v zs w (by omega) hn hl hr).mono ?_
 rintro e w1 ⟨q, rfl, hq, ho, hk⟩
 have HO := hide ho
 have HK := hide hk
 clear ho hk hr hl
 go_wp2
 go_ret
 exact ⟨q, rfl, hq, uh HO, uh HK⟩
end Go.Proofs.YtjdikhelabibnaaGreat

namespace Go.Proofs.YtjdikhelabibnaaGreat
open Go.RowKit
def Xd (w : World) (X g : Nat) (ao : Option Addr) (cap : Nat) (zs : List Int) (P : Nat) (e : Int) : Prop :=
 w.heap[X]? = some (.cells #[.slice ao zs.length cap, .int .i64 P, .int .i64 e] 128 (0, 0)) ∧ Row w ao g zs ∧ (zs = [] ∨ g ≠ X) ∧ P ≤ zs.length ∧ zs.length ≤ cap ∧ zs.length ≤ 1000000
theorem Xd.keep {S : List Nat} {w w' : World} {X g : Nat} {ao : Option Addr} {cap : Nat} {zs : List Int} {P : Nat} {e : Int} (hr : Xd w X g ao cap zs P e) (h : Kp S w w') (h1 : X ∉ S) (h2 : zs = [] ∨ g ∉ S) : Xd w' X g ao cap zs P e := by
 obtain ⟨hb, hrow, r⟩ := hr
 refine ⟨h.heap hb h1, ?_, r⟩
 rcases h2 with h2 | h2
 ·exact .inl h2
 exact hrow.keep h h2
theorem cell_of3 {w : World} {b j : Nat} {cs : Array Value} {t : TypeId} (h : w.heap[b]? = some (.cells cs t (0, 0))) : w.cell? ⟨b, j, none⟩ = cs[j]? := cell_of_row w b j cs t (0, 0) h
theorem xthree_set1 {w : World} {b : Nat} {v u y x : Value} {t : TypeId} (h : w.heap[b]? = some (.cells #[v, u, y] t (0, 0))) : (w.setCell ⟨b, 1, none⟩ x).heap[b]? = some (.cells #[v, x, y] t (0, 0)) := by
 rw [heap_setCell_same w b 1 _ t x h]; rfl
theorem xthree_set2 {w : World} {b : Nat} {v u y x : Value} {t : TypeId} (h : w.heap[b]? = some (.cells #[v, u, y] t (0, 0))) : (w.setCell ⟨b, 2, none⟩ x).heap[b]? = some (.cells #[v, u, x] t (0, 0)) := by
 rw [heap_setCell_same w b 2 _ t x h]; rfl
def rest (zs : List Int) (P : Nat) (e : Int) : List Int := if e = 0 then zs.drop P else []
theorem xnew_any (ao : Option Addr) (g cap : Nat) (zs : List Int) (w : World) (hn : zs.length ≤ 1000000) (hc : zs.length ≤ cap) (hr : Row w ao g zs) :
  Calls Tryz.prog 41 #[.slice ao zs.length cap] w fun x w' => x = .returned (.pointer (some ⟨w.heap.size, 0, none⟩)) ∧ Xd w' w.heap.size g ao cap zs 0 0 ∧ Kp [] w w' := by
 have HR := hide hr
 clear hr
 generalize hL : zs.length = n at *
 go_enter Tryz.func41, Tryz.ntmps41
 go_wp2
 go_ret
 subst hL
 refine ⟨rfl, ⟨heap_alloc_new _ _, (uh HR).keep ((Kp.refl [] _).alloc _) (by simp), ?_, by omega, hc, hn⟩, (Kp.refl [] _).alloc _⟩
 rcases uh HR with h | ⟨o, rfl, h⟩
 ·exact .inl h
 cases zs with
 | nil => exact .inl rfl
 | cons z r => exact .inr (by have : g < _ := block_lt_of_cell (h 0 (by simp)); omega)
theorem xend_any (X g : Nat) (ao : Option Addr) (cap : Nat) (zs : List Int) (P : Nat) (e : Int) (w : World) (hx : Xd w X g ao cap zs P e) :
  Calls Tryz.prog 44 #[.pointer (some ⟨X, 0, none⟩)] w fun x w' => x = .returned (.int .i64 (if e = 0 ∧ rest zs P e ≠ [] then 4 else e)) ∧ Kp [] w w' := by
 obtain ⟨hb, hrow, hg, hp, hc, hn⟩ := hx
 have hc0 : w.cell? ⟨X, 0, none⟩ = some (.slice ao zs.length cap) := cell_of3 hb
 have hc1 : w.cell? ⟨X, 1, none⟩ = some (.int .i64 P) := cell_of3 hb
 have hc2 : w.cell? ⟨X, 2, none⟩ = some (.int .i64 e) := cell_of3 hb
 clear hb hrow
 by_cases he : e = 0
 ·subst he
  by_cases hl : P < zs.length
  ·rw [if_pos ⟨rfl, by simp only [rest, if_pos]; intro h; have := congrArg List.length h; simp at this; omega⟩]
   generalize zs.length = n at *
   go_enter Tryz.func44, Tryz.ntmps44
   go_wp2_with fail
   go_quiet (fail)
   go_wp2
   go_ret
   exact ⟨rfl, (Kp.refl _ _).drewN _⟩
  rw [if_neg (by simp only [rest, if_pos]; rintro ⟨_, h⟩; exact h (List.drop_eq_nil_of_le (by omega)))]
  generalize zs.length = n at *
  have hl' : n ≤ P := by omega
  go_enter Tryz.func44, Tryz.ntmps44
  go_wp2_with fail
  go_quiet (fail)
  go_wp2
  go_ret
  exact ⟨rfl, (Kp.refl _ _).drewN _⟩
 rw [if_neg (by rintro ⟨h, _⟩; exact he h)]
 have he1 : (e == 0) = false := beq_eq_false_iff_ne.2 he
 generalize zs.length = n at *
 clear he
 go_enter Tryz.func44, Tryz.ntmps44
 go_wp2_with fail
 go_quiet (fail)
 go_wp2
 go_ret
 exact ⟨rfl, (Kp.refl _ _).drewN _⟩
theorem xtake_ok (X g : Nat) (ao : Option Addr) (cap : Nat) (zs : List Int) (P n : Nat) (w : World) (hx : Xd w X g ao cap zs P 0) (hn1 : 1 ≤ n) (hn8 : n ≤ 8) (hl : P + n ≤ zs.length) :
  Calls Tryz.prog 74 #[.pointer (some ⟨X, 0, none⟩), .int .i64 n] w fun x w' => ∃ ao' c', x = .returned (.slice ao' n c') ∧ Row w' ao' g ((zs.drop P).take n) ∧ Xd w' X g ao cap zs (P + n) 0 ∧ Kp [X] w w' := by
 obtain ⟨hb, hrow, hg, hp, hc, hn⟩ := hx
 have hg' : g ≠ X := by
  rcases hg with h | h
  ·rw [h] at hl; simp at hl; omega
  exact h
 obtain ⟨o, rfl, hcs⟩ : ∃ o, ao = some ⟨g, o, none⟩ ∧ ∀ j, j < zs.length → w.cell? ⟨g, o + j, none⟩ = some (.int .u8 (zs.getD j 0)) := by
  rcases hrow with h | h
  ·rw [h] at hl; simp at hl; omega
  exact h
 have hc0 : w.cell? ⟨X, 0, none⟩ = some (.slice (some ⟨g, o, none⟩) zs.length cap) := cell_of3 hb
 have hc1 : w.cell? ⟨X, 1, none⟩ = some (.int .i64 P) := cell_of3 hb
 have hc2 : w.cell? ⟨X, 2, none⟩ = some (.int .i64 0) := cell_of3 hb
 have hf1 := free_of_two (j := 1) hb
 have HB := hide hb
 have HC := hide hcs
 have HG := hide hg
 have HZ : Hid (((zs.drop P).take n).length = n) := by show _ = _; simp; omega
 clear hb hcs hg
 generalize hL : zs.length = m at *
 have HL := hide hL
 clear hL
 have hd : ¬ ((m : Int) - (P : Int) < (n : Int)) := by omega
 go_enter Tryz.func74, Tryz.ntmps74
 go_wp2_with fail
 go_quiet (fail)
 go_wp2
 have hb' : ((w.drewN nq).setCell ⟨X, 1, none⟩ (.int .i64 ((P : Int) + (n : Int)))).heap[X]? = some (.cells #[.slice (some ⟨g, o, none⟩) m cap, .int .i64 ((P : Int) + (n : Int)), .int .i64 0] 128 (0, 0)) := xthree_set1 (uh HB)
 have hk : Kp [X] w ((w.drewN nq).setCell ⟨X, 1, none⟩ (.int .i64 ((P : Int) + (n : Int)))) := ((Kp.refl _ _).drewN _).setCell _ _ (by simp)
 generalize (w.drewN nq).setCell ⟨X, 1, none⟩ (.int .i64 ((P : Int) + (n : Int))) = W at *
 have hd0 : W.cell? ⟨X, 0, none⟩ = some (.slice (some ⟨g, o, none⟩) m cap) := cell_of3 hb'
 have hd1 : W.cell? ⟨X, 1, none⟩ = some (.int .i64 ((P : Int) + (n : Int))) := cell_of3 hb'
 have HB' := hide hb'
 have HK := hide hk
 clear hb' hk hc0 hc1 hc2 hf1
 go_quiet (fail)
 go_wp2
 rw [show P + n - P = n from by omega]
 go_ret
 have hk2 : Kp [X] w (W.drewN nq) := (uh HK).drewN _
 refine ⟨_, _, rfl, .inr ⟨o + P, rfl, fun j hj => ?_⟩, ⟨?_, hrow.keep hk2 (by simpa using hg'), uh HG, by rw [uh HL]; omega, by rw [uh HL]; exact hc, by rw [uh HL]; exact hn⟩, hk2⟩
 ·rw [uh HZ] at hj
  have := uh HC (P + j) (by omega)
  have h2 := hk2.cell this (by simpa using hg')
  rw [Nat.add_assoc, h2]
  simp [List.getD_eq_getElem?_getD, hj]
 rw [uh HL, Int.natCast_add]
 exact uh HB'
theorem xtake_no (X g : Nat) (ao : Option Addr) (cap : Nat) (zs : List Int) (P n : Nat) (e : Int) (w : World) (hx : Xd w X g ao cap zs P e) (hn8 : n ≤ 8) (hl : e ≠ 0 ∨ zs.length < P + n) :
  Calls Tryz.prog 74 #[.pointer (some ⟨X, 0, none⟩), .int .i64 n] w fun x w' => x = .returned (.slice none 0 0) ∧ Xd w' X g ao cap zs P (if e = 0 then 3 else e) ∧ Kp [X] w w' := by
 obtain ⟨hb, hrow, hg, hp, hc, hn⟩ := hx
 have hc0 : w.cell? ⟨X, 0, none⟩ = some (.slice ao zs.length cap) := cell_of3 hb
 have hc1 : w.cell? ⟨X, 1, none⟩ = some (.int .i64 P) := cell_of3 hb
 have hc2 : w.cell? ⟨X, 2, none⟩ = some (.int .i64 e) := cell_of3 hb
 have hf2 := free_of_two (j := 2) hb
 have HB := hide hb
 have HW := hide hrow
 clear hb hrow
 by_cases he : e = 0
 ·subst he
  simp only [if_pos]
  have hl' : zs.length < P + n := by rcases hl with h | h; exact absurd rfl h; exact h
  clear hl
  generalize hL : zs.length = m at *
  have HL := hide hL
  clear hL
  have hd : ((m : Int) - (P : Int) < (n : Int)) := by omega
  go_enter Tryz.func74, Tryz.ntmps74
  go_wp2_with fail
  go_quiet (fail)
  go_wp2
  go_ret
  have hk : Kp [X] w ((w.drewN nq).setCell ⟨X, 2, none⟩ (.int .i64 3)) := ((Kp.refl _ _).drewN _).setCell _ _ (by simp)
  refine ⟨rfl, ⟨?_, ?_, hg, by rw [uh HL]; exact hp, by rw [uh HL]; exact hc, by rw [uh HL]; exact hn⟩, hk⟩
  ·rw [uh HL]; exact xthree_set2 (uh HB)
  rcases hg with h | h
  ·exact .inl h
  exact (uh HW).keep hk (by simpa using h)
 simp only [if_neg he]
 have he1 : (e == 0) = false := beq_eq_false_iff_ne.2 he
 have he2 : (e != 0) = true := by rw [bne_iff_ne]; exact he
 clear he hl
 generalize hL : zs.length = m at *
 have HL := hide hL
 clear hL
 go_enter Tryz.func74, Tryz.ntmps74
 go_wp2_with fail
 go_quiet (fail)
 go_wp2
 go_ret
 have hk : Kp [X] w (w.drewN nq) := (Kp.refl _ _).drewN _
 refine ⟨rfl, ⟨?_, uh HW, hg, by rw [uh HL]; exact hp, by rw [uh HL]; exact hc, by rw [uh HL]; exact hn⟩, hk⟩
 rw [uh HL]; exact uh HB
theorem or_ahead (V b : Int) (k : Nat) (hk : k < 8) (h0 : 0 ≤ V) (h1 : V < 256 ^ k) (hb0 : 0 ≤ b) (hb1 : b ≤ 255) :
  bits BinOp.or IntKind.u64 (IntKind.u64.wrap (V * 256)) b = b + 256 * V := by
 have hp : (256 : Int) ^ k ≤ 256 ^ 7 := by
  have : (256 : Nat) ^ k ≤ 256 ^ 7 := Nat.pow_le_pow_right (by omega) (by omega)
  have h2 : ((256 ^ k : Nat) : Int) ≤ ((256 ^ 7 : Nat) : Int) := by omega
  simpa using h2
 have h7 : (256 : Int) ^ 7 = 72057594037927936 := by decide
 rw [IntWalk.u64_in _ ⟨by omega, by omega⟩]
 obtain ⟨v, rfl⟩ := Int.eq_ofNat_of_zero_le h0
 obtain ⟨c, rfl⟩ := Int.eq_ofNat_of_zero_le hb0
 have e : ((v : Nat) : Int) * 256 = ((2 ^ 8 * v : Nat) : Int) := by omega
 rw [e, bits_or_u64_nat (2 ^ 8 * v) c (by omega) (by omega), ← Nat.two_pow_add_eq_or_of_lt (by omega)]
 omega
theorem le_drop (zs : List Int) (k : Nat) (h : k < zs.length) : le (zs.drop k) = zs.getD k 0 + 256 * le (zs.drop (k + 1)) := by
 rw [List.drop_eq_getElem_cons h, le, List.getD_eq_getElem?_getD, List.getElem?_eq_getElem h]
 rfl
theorem rest_cut (zs : List Int) (P n : Nat) (e : Int) (h : e ≠ 0 ∨ zs.length < P + n) (hn : 1 ≤ n) :
  rdV n (rest zs P e) = 0 ∧ ∃ e', (if e = 0 then 3 else e) = e' ∧ rdE n (rest zs P e) e = e' ∧ rest zs P e' = rdZ n (rest zs P e) e := by
 have hc : ¬ n ≤ (rest zs P e).length := by
  unfold rest
  split
  ·simp only [List.length_drop]; omega
  simp only [List.length_nil]; omega
 refine ⟨by unfold rdV; rw [if_neg hc], _, rfl, by unfold rdE; rw [if_neg hc], ?_⟩
 unfold rdZ
 rw [if_neg hc]
 by_cases he : e = 0
 ·simp [he, rest]
 simp [he, rest]
theorem xint_any (X g : Nat) (ao : Option Addr) (cap : Nat) (zs : List Int) (P : Nat) (e : Int) (w : World) (hb : Byt zs) (hx : Xd w X g ao cap zs P e) :
  Calls Tryz.prog 42 #[.pointer (some ⟨X, 0, none⟩)] w fun x w' => x = .returned (.int .i64 (rdV 8 (rest zs P e))) ∧
   (∃ P', Xd w' X g ao cap zs P' (rdE 8 (rest zs P e) e) ∧ rest zs P' (rdE 8 (rest zs P e) e) = rdZ 8 (rest zs P e) e) ∧ Kp [X] w w' := by
 have HB := hide hb
 have HX := hide hx
 have hP := hx.2.2.2.1
 clear hb hx
 by_cases hl : e = 0 ∧ P + 8 ≤ zs.length
 ·obtain ⟨rfl, hl⟩ := hl
  have h8 : 8 ≤ (zs.drop P).length := by simp; omega
  have HV : Hid (rdV 8 (rest zs P 0) = wrap64 (le ((zs.drop P).take 8))) := by show _ = _; simp only [rest, if_pos, rdV, h8]
  have HE : Hid (rdE 8 (rest zs P 0) 0 = 0) := by show _ = _; simp only [rest, if_pos, rdE, h8]
  have HZ : Hid (rest zs (P + 8) 0 = rdZ 8 (rest zs P 0) 0) := by show _ = _; simp only [rest, if_pos, rdZ, h8, List.drop_drop]
  rw [uh HV, uh HE]
  clear HV HE
  have HL : Hid (((zs.drop P).take 8).length = 8) := by show _ = _; simp; omega
  have HY : Hid (Byt ((zs.drop P).take 8)) := fun z hz => uh HB z (List.mem_of_mem_drop (List.mem_of_mem_take hz))
  obtain ⟨bs, hbs⟩ : ∃ bs, (zs.drop P).take 8 = bs := ⟨_, rfl⟩
  rw [hbs] at HL HY ⊢
  have HBS := hide hbs
  clear hbs
  go_enter Tryz.func42, Tryz.ntmps42
  go_wp2_with fail
  refine (xtake_ok X g ao cap zs P 8 w (uh HX) (by omega) (by omega) hl).mono ?_
  rintro x w1 ⟨ao', c', rfl, hrow, hx1, hk1⟩
  rw [uh HBS] at hrow
  obtain ⟨o, rfl, hcs⟩ : ∃ o, ao' = some ⟨g, o, none⟩ ∧ ∀ j, j < bs.length → w1.cell? ⟨g, o + j, none⟩ = some (.int .u8 (bs.getD j 0)) := by
   rcases hrow with h | h
   ·have := uh HL; rw [h] at this; simp at this
   exact h
  have HC := hide hcs
  have HX1 := hide hx1
  have HK1 := hide hk1
  clear hrow hx1 hk1 hcs HX HB h8
  go_wp2_with fail
  go_loop [3, 5] (fun u i => ∃ k : Nat, k ≤ 8 ∧ i = .int .i64 ((k : Int) - 1) ∧ u = .int .u64 (le (bs.drop k))) (fun _ i => (intOf i + 1).toNat)
  case atStart => exact ⟨8, by omega, rfl, by rw [List.drop_eq_nil_of_le (by rw [uh HL]; omega)]; rfl⟩
  case round =>
   obtain ⟨k, hk, rfl, rfl⟩ := hrel
   have hbd := le_bound (bs.drop k) (fun z hz => uh HY z (List.mem_of_mem_drop hz))
   have hlk : (bs.drop k).length = 8 - k := by rw [List.length_drop, uh HL]
   rw [hlk] at hbd
   cases k with
   | zero =>
    rw [List.drop_zero] at *
    generalize hV : le bs = V at *
    have HV := hide hV
    have HBD := hide hbd
    clear hV hbd
    have hm : ((0 : Nat) : Int) - 1 = -1 := by omega
    rw [hm]
    go_wp2
    go_ret
    exact ⟨by rw [uh HV]; rfl, ⟨_, uh HX1, uh HZ⟩, uh HK1⟩
   | succ k =>
    have hle := le_drop bs k (by rw [uh HL]; omega)
    have hcell := uh HC k (by rw [uh HL]; omega)
    have hbb := (uh HY).getD k
    generalize hV : le (bs.drop (k + 1)) = V at *
    generalize hz : bs.getD k 0 = z at *
    have HBD := hide hbd
    have HLE := hide hle
    clear hV hz hbd hle hlk
    obtain ⟨hz0, hz1⟩ := hbb
    have hm : ((k + 1 : Nat) : Int) - 1 = (k : Int) := by omega
    rw [hm]
    have hV0 : 0 ≤ V := (uh HBD).1
    go_wp2
    go_round
    case rel => exact ⟨k, by omega, rfl, by rw [uh HLE, or_ahead V z (8 - (k + 1)) (by omega) hV0 (uh HBD).2 hz0 hz1]⟩
    case measure => simp [intOf]
 have hno : e ≠ 0 ∨ zs.length < P + 8 := by omega
 obtain ⟨hv, e', he', hE, hz⟩ := rest_cut zs P 8 e hno (by omega)
 rw [hv, hE]
 have HE := hide he'
 have HZ := hide hz
 clear hv he' hE hz hl
 go_enter Tryz.func42, Tryz.ntmps42
 go_wp2_with fail
 refine (xtake_no X g ao cap zs P 8 e w (uh HX) (by omega) hno).mono ?_
 rintro x w1 ⟨rfl, hx1, hk1⟩
 rw [uh HE] at hx1
 have HX1 := hide hx1
 have HK1 := hide hk1
 clear hx1 hk1 HX HB hno
 go_wp2_with fail
 refine wp_loop_rounds 1 ?_
 rw [rounds_succ]
 go_wp2
 go_ret
 exact ⟨rfl, ⟨_, uh HX1, uh HZ⟩, uh HK1⟩
theorem xbyte_any (X g : Nat) (ao : Option Addr) (cap : Nat) (zs : List Int) (P : Nat) (e : Int) (w : World) (hb : Byt zs) (hx : Xd w X g ao cap zs P e) :
  Calls Tryz.prog 43 #[.pointer (some ⟨X, 0, none⟩)] w fun x w' => x = .returned (.int .i64 (rdV 1 (rest zs P e))) ∧
   (∃ P', Xd w' X g ao cap zs P' (rdE 1 (rest zs P e) e) ∧ rest zs P' (rdE 1 (rest zs P e) e) = rdZ 1 (rest zs P e) e) ∧ Kp [X] w w' := by
 have HB := hide hb
 have HX := hide hx
 have hP := hx.2.2.2.1
 clear hb hx
 by_cases hl : e = 0 ∧ P + 1 ≤ zs.length
 ·obtain ⟨rfl, hl⟩ := hl
  have h8 : 1 ≤ (zs.drop P).length := by simp; omega
  have hbb := (uh HB).getD P
  have HV : Hid (rdV 1 (rest zs P 0) = zs.getD P 0) := by
   show _ = _
   simp only [rest, if_pos, rdV, h8]
   have e1 : (zs.drop P).take 1 = [zs.getD P 0] := by
    rw [List.drop_eq_getElem_cons (by omega), List.getD_eq_getElem?_getD, List.getElem?_eq_getElem (by omega)]
    rfl
   rw [e1, le, le, Int.mul_zero, Int.add_zero, IntWalk.wrap64_in _ ⟨by omega, by omega⟩]
  have HE : Hid (rdE 1 (rest zs P 0) 0 = 0) := by show _ = _; simp only [rest, if_pos, rdE, h8]
  have HZ : Hid (rest zs (P + 1) 0 = rdZ 1 (rest zs P 0) 0) := by show _ = _; simp only [rest, if_pos, rdZ, h8, List.drop_drop]
  rw [uh HV, uh HE]
  clear HV HE
  have HL : Hid (((zs.drop P).take 1).length = 1) := by show _ = _; simp; omega
  generalize hz : zs.getD P 0 = z at *
  have HG := hide hz
  clear hz
  obtain ⟨hz0, hz1⟩ := hbb
  go_enter Tryz.func43, Tryz.ntmps43
  go_wp2_with fail
  refine (xtake_ok X g ao cap zs P 1 w (uh HX) (by omega) (by omega) hl).mono ?_
  rintro x w1 ⟨ao', c', rfl, hrow, hx1, hk1⟩
  obtain ⟨o, rfl, hcs⟩ : ∃ o, ao' = some ⟨g, o, none⟩ ∧ w1.cell? ⟨g, o, none⟩ = some (.int .u8 z) := by
   rcases hrow with h | ⟨o, rfl, h⟩
   ·have := uh HL; rw [h] at this; simp at this
   refine ⟨o, rfl, ?_⟩
   have := h 0 (by rw [uh HL]; omega)
   rw [Nat.add_zero] at this
   rw [this, ← uh HG]
   simp [List.getD_eq_getElem?_getD]
  have HX1 := hide hx1
  have HK1 := hide hk1
  clear hrow hx1 hk1 HX HB h8
  go_wp2
  go_ret
  exact ⟨rfl, ⟨_, uh HX1, uh HZ⟩, uh HK1⟩
 have hno : e ≠ 0 ∨ zs.length < P + 1 := by omega
 obtain ⟨hv, e', he', hE, hz⟩ := rest_cut zs P 1 e hno (by omega)
 rw [hv, hE]
 have HE := hide he'
 have HZ := hide hz
 clear hv he' hE hz hl
 go_enter Tryz.func43, Tryz.ntmps43
 go_wp2_with fail
 refine (xtake_no X g ao cap zs P 1 e w (uh HX) (by omega) hno).mono ?_
 rintro x w1 ⟨rfl, hx1, hk1⟩
 rw [uh HE] at hx1
 have HX1 := hide hx1
 have HK1 := hide hk1
 clear hx1 hk1 HX HB hno
 go_wp2
 go_ret
 exact ⟨rfl, ⟨_, uh HX1, uh HZ⟩, uh HK1⟩
end Go.Proofs.YtjdikhelabibnaaGreat
