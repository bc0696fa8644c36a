/-
  Arguments that are opened: a slot (api.Entry), a head (api.Head).
  The parts of a layout, each by itself, put: entry.number, low, several.
  Rows of reads by themselves; cells that are set one behind the other; what a slot's bytes tell.
  The parts of a layout, each by itself, taken: entry.number, low, several.
-/
import Derived.Test.YtjdikhelabibnabGreatMav
import Derived.WalkKit
import Derived.ProofKit
import Derived.OpenShut
import Derived.Deep.Strs
import Derived.Deep.Slices
import Derived.Test.YtjdikhelabibnabGreatMat
namespace Go.Proofs.YtjdikhelabibnabGreat
open Go Go.RowKit

section
variable {H : Type} {enc : TypeId × Value → H} {w : World} {base : Nat} {spare : Nat → Bool} {held : Bool} {fuel : Nat} {cs : List Value} {x : DataW H × List MemPlace}

theorem cells_I10 : Tryz.prog.cellsOf 3 = 1 := by kernel_rfl
theorem cells_E10 : Tryz.prog.cellsOf 5 = 1 := by kernel_rfl
theorem cells_TD10 : Tryz.prog.cellsOf 44 = 16 := by kernel_rfl
theorem cells_TE10 : Tryz.prog.cellsOf 46 = 19 := by kernel_rfl
theorem cells_TH10 : Tryz.prog.cellsOf 52 = 4 := by kernel_rfl
theorem one_of10 {cs : List Value} {o : Nat} {v : Value} (h : (cs.drop o).take 1 = [v]) : cs[o]? = some v := by
  have := congrArg (fun l => l[0]?) h
  simpa [List.getElem?_take, List.getElem?_drop] using this

set_option maxRecDepth 100000 in
theorem open_head (h : DataW.trod enc Tryz.prog w base spare held fuel 52 cs = some x) : ∃ a b c e : Int, cs = [.int .i64 a, .int .i64 b, .int .i64 c, .int .i64 e] := by
  obtain ⟨xs, n, _, _, hl, hlen, hf⟩ := DataW.trod_struct Tryz.underlying52 h
  rw [cells_TH10] at hl
  match xs, hlen with
  | [y0, y1, y2, y3], _ =>
    obtain ⟨a, e0, _⟩ := DataW.trod_int Tryz.underlying3 (by simpa using hf 0 _ rfl)
    obtain ⟨b, e1, _⟩ := DataW.trod_int Tryz.underlying3 (by simpa using hf 1 _ rfl)
    obtain ⟨c, e2, _⟩ := DataW.trod_int Tryz.underlying3 (by simpa using hf 2 _ rfl)
    obtain ⟨e, e3, _⟩ := DataW.trod_int Tryz.underlying3 (by simpa using hf 3 _ rfl)
    rw [cells_I10] at e0 e1 e2 e3
    match cs, hl with
    | [c0, c1, c2, c3], _ =>
      simp at e0 e1 e2 e3
      exact ⟨a, b, c, e, by rw [e0, e1, e2, e3]⟩

set_option maxRecDepth 100000 in
theorem open_ent (h : DataW.trod enc Tryz.prog w base spare held fuel 46 cs = some x) : ∃ (k l s : Int) (d : List Nat), cs = (entA k l s d).toList ∧ d.length = 16 ∧ ∀ j, cf d j < 256 := by
  obtain ⟨xs, n, _, _, hl, hlen, hf⟩ := DataW.trod_struct Tryz.underlying46 h
  rw [cells_TE10] at hl
  match xs, hlen with
  | [y0, y1, y2, y3], _ =>
    obtain ⟨k, e0, _⟩ := DataW.trod_int Tryz.underlying3 (by simpa using hf 0 _ rfl)
    obtain ⟨l, e1, _⟩ := DataW.trod_int Tryz.underlying3 (by simpa using hf 1 _ rfl)
    obtain ⟨s, e2, _⟩ := DataW.trod_int Tryz.underlying3 (by simpa using hf 2 _ rfl)
    obtain ⟨ys, m, _, _, hl2, hn2, hf2⟩ := DataW.trod_array Tryz.underlying44 (by simpa using hf 3 _ rfl)
    rw [cells_I10] at e0 e1 e2
    rw [cells_TD10] at hl2 hf2
    have key : ∀ i, i < 16 → ∃ b : Nat, b < 256 ∧ cs[3 + i]? = some (.int .u8 (b : Int)) := by
      intro i hi
      have hy : ys[i]? = some (ys[i]'(by omega)) := List.getElem?_eq_getElem (by omega)
      obtain ⟨b, e, _, hw⟩ := DataW.trod_int Tryz.underlying5 ((hf2 i hi).trans hy)
      rw [cells_E10] at e
      have h1 := one_of10 e
      rw [Nat.mul_one, List.getElem?_take, if_pos hi, List.getElem?_drop] at h1
      have hb : 0 ≤ b ∧ b < 256 := by
        have h2 : (decide (IntKind.u8.min ≤ b) && decide (b ≤ IntKind.u8.max)) = true := hw
        rw [Bool.and_eq_true, decide_eq_true_eq, decide_eq_true_eq, show IntKind.u8.min = 0 from rfl, show IntKind.u8.max = 255 from rfl] at h2
        omega
      exact ⟨b.toNat, by omega, by rw [h1, Int.toNat_of_nonneg hb.1]⟩
    let g : Nat → Nat := fun i => if h : i < 16 then Classical.choose (key i h) else 0
    have hg : ∀ i (h : i < 16), g i < 256 ∧ cs[3 + i]? = some (.int .u8 ((g i : Nat) : Int)) := fun i h => by
      have := Classical.choose_spec (key i h)
      simpa [g, h] using this
    have hlen16 : ((List.range 16).map g).length = 16 := by simp
    have hcf : ∀ j, j < 16 → cf ((List.range 16).map g) j = g j := fun j hj => by
      have h1 : j < ((List.range 16).map g).length := by rw [hlen16]; exact hj
      have h2 := cf_get h1
      rw [List.getElem?_map, List.getElem?_range hj] at h2
      exact (Option.some.inj h2).symm
    refine ⟨k, l, s, (List.range 16).map g, ?_, hlen16, fun j => ?_⟩
    · refine List.ext_getElem? (fun j => ?_)
      match j with
      | 0 => exact one_of10 e0
      | 1 => exact one_of10 (by rw [← List.drop_one] at e1; exact e1)
      | 2 => exact one_of10 e2
      | j + 3 =>
        have hr : (entA k l s ((List.range 16).map g)).toList[3 + j]? = (datL ((List.range 16).map g))[j]? := by rw [← entA_d k l s]; simp
        rw [show j + 3 = 3 + j from by omega, hr]
        by_cases hj : j < 16
        · rw [(hg j hj).2, datL_get (by rw [hlen16]; exact hj), hcf j hj]
        · rw [List.getElem?_eq_none (by omega), List.getElem?_eq_none (by rw [datL_len, hlen16]; omega)]
    · by_cases hj : j < 16
      · rw [hcf j hj]; exact (hg j hj).1
      · rw [cf_ge (by rw [hlen16]; omega)]; omega
end
end Go.Proofs.YtjdikhelabibnabGreat

namespace Go.Proofs.YtjdikhelabibnabGreat
open Go.RowKit Go.Shelf
attribute [local go_sem] Oper.semAt_some

/-- What is called so is entered. -/
abbrev Ent10 (f : Nat) : Prop := ∀ args W, (callFunc f args).run Tryz.prog W = .ok (.enter f args) W
/-- Such a function tells a number's place. -/
def AtI (f off : Nat) : Prop := ∀ B W, Calls Tryz.prog f #[.pointer (some ⟨B, 0, none⟩)] W fun e W' => e = .returned (.pointer (some ⟨B, off, none⟩)) ∧ W' = W
/-- Such a function tells the place of m bytes. -/
def AtS (f off m : Nat) : Prop := ∀ B W, Calls Tryz.prog f #[.pointer (some ⟨B, 0, none⟩)] W fun e W' => e = .returned (.slice (some ⟨B, off, none⟩) m m) ∧ W' = W
theorem ints_take10 {d : List Nat} {k : Nat} (h : k < d.length) : ints (d.take (k + 1)) = ints (d.take k) ++ [((cf d k : Nat) : Int)] := by
  rw [List.take_add_one, cf_get h]
  simp [ints]
theorem by8_one10 {x : Nat} (h : x < 256) : by8 1 (IntKind.u64.wrap (wrap64 (x : Int))) = [(x : Int)] := by
  rw [IntKind.wrap_u64]
  simp only [by8, wrap64, List.cons.injEq, and_true]
  omega

set_option maxRecDepth 100000 in
set_option maxHeartbeats 4000000 in
theorem put_numH (atf C B off : Nat) (v : Int) (a : Option Addr) (g n c : Nat) (zs : List Int) (w : World) (hn : n ≤ 1000) (hl : zs.length = n) (hr : Row w a g zs) (he : Ent10 atf) (hat : AtI atf off)
    (hC : w.cell? ⟨C, 0, none⟩ = some (.func (.func atf) #[] #[])) (hB : w.cell? ⟨B, off, none⟩ = some (.int .i64 v)) :
    Calls Tryz.prog 107 #[.slice a n c, .pointer (some ⟨B, 0, none⟩), .pointer (some ⟨C, 0, none⟩)] w fun e w' => ∃ q, e = .returned (.slice (some ⟨q, 0, none⟩) (n + 8) (n + 8)) ∧ w.heap.size ≤ q ∧
      w'.ownsRow w.heap.size 5 1 (.slice (some ⟨q, 0, none⟩) (n + 8) (n + 8)) (n + 8) ((zs ++ by8 8 (IntKind.u64.wrap v)).map (Value.int .u8)) ∧ Kp [] w w' := by
  have HR := hide hr
  have HAT := hide hat
  clear hr hat
  go_enter Tryz.func107, Tryz.ntmps107
  go_wp2_with fail
  refine (unhide HAT B w).mono ?_
  rintro x w1 ⟨rfl, rfl⟩
  go_wp2_with fail
  refine (int_any a g n c v zs _ (by omega) hl (unhide HR)).mono ?_
  rintro x w2 ⟨q, rfl, hq, ho, hk⟩
  have HO := hide ho
  have HK := hide hk
  clear ho hk
  go_wp2
  go_ret
  exact ⟨q, rfl, hq, unhide HO, unhide HK⟩

set_option maxRecDepth 100000 in
set_option maxHeartbeats 4000000 in
theorem put_lowH (atf C B off : Nat) (v : Int) (a : Option Addr) (g n c : Nat) (zs : List Int) (w : World) (hn : n ≤ 1000) (hl : zs.length = n) (hr : Row w a g zs) (he : Ent10 atf) (hat : AtI atf off)
    (hC : w.cell? ⟨C, 0, none⟩ = some (.func (.func atf) #[] #[])) (hB : w.cell? ⟨B, off, none⟩ = some (.int .i64 v)) :
    Calls Tryz.prog 111 #[.slice a n c, .pointer (some ⟨B, 0, none⟩), .pointer (some ⟨C, 0, none⟩)] w fun e w' => ∃ q, e = .returned (.slice (some ⟨q, 0, none⟩) (n + 1) (n + 1)) ∧ w.heap.size ≤ q ∧
      w'.ownsRow w.heap.size 5 1 (.slice (some ⟨q, 0, none⟩) (n + 1) (n + 1)) (n + 1) ((zs ++ by8 1 (IntKind.u64.wrap v)).map (Value.int .u8)) ∧ Kp [] w w' := by
  have HR := hide hr
  have HAT := hide hat
  clear hr hat
  go_enter Tryz.func111, Tryz.ntmps111
  go_wp2_with fail
  refine (unhide HAT B w).mono ?_
  rintro x w1 ⟨rfl, rfl⟩
  go_wp2_with fail
  refine (byte_any a g n c v zs _ (by omega) hl (unhide HR)).mono ?_
  rintro x w2 ⟨q, rfl, hq, ho, hk⟩
  have HO := hide ho
  have HK := hide hk
  clear ho hk
  go_wp2
  go_ret
  exact ⟨q, rfl, hq, unhide HO, unhide HK⟩

set_option maxRecDepth 100000 in
set_option maxHeartbeats 4000000 in
theorem put_numE (atf C B off : Nat) (v : Int) (a : Option Addr) (g n c : Nat) (zs : List Int) (w : World) (hn : n ≤ 1000) (hl : zs.length = n) (hr : Row w a g zs) (he : Ent10 atf) (hat : AtI atf off)
    (hC : w.cell? ⟨C, 0, none⟩ = some (.func (.func atf) #[] #[])) (hB : w.cell? ⟨B, off, none⟩ = some (.int .i64 v)) :
    Calls Tryz.prog 117 #[.slice a n c, .pointer (some ⟨B, 0, none⟩), .pointer (some ⟨C, 0, none⟩)] w fun e w' => ∃ q, e = .returned (.slice (some ⟨q, 0, none⟩) (n + 8) (n + 8)) ∧ w.heap.size ≤ q ∧
      w'.ownsRow w.heap.size 5 1 (.slice (some ⟨q, 0, none⟩) (n + 8) (n + 8)) (n + 8) ((zs ++ by8 8 (IntKind.u64.wrap v)).map (Value.int .u8)) ∧ Kp [] w w' := by
  have HR := hide hr
  have HAT := hide hat
  clear hr hat
  go_enter Tryz.func117, Tryz.ntmps117
  go_wp2_with fail
  refine (unhide HAT B w).mono ?_
  rintro x w1 ⟨rfl, rfl⟩
  go_wp2_with fail
  refine (int_any a g n c v zs _ (by omega) hl (unhide HR)).mono ?_
  rintro x w2 ⟨q, rfl, hq, ho, hk⟩
  have HO := hide ho
  have HK := hide hk
  clear ho hk
  go_wp2
  go_ret
  exact ⟨q, rfl, hq, unhide HO, unhide HK⟩

set_option maxRecDepth 100000 in
set_option maxHeartbeats 4000000 in
theorem put_lowE (atf C B off : Nat) (v : Int) (a : Option Addr) (g n c : Nat) (zs : List Int) (w : World) (hn : n ≤ 1000) (hl : zs.length = n) (hr : Row w a g zs) (he : Ent10 atf) (hat : AtI atf off)
    (hC : w.cell? ⟨C, 0, none⟩ = some (.func (.func atf) #[] #[])) (hB : w.cell? ⟨B, off, none⟩ = some (.int .i64 v)) :
    Calls Tryz.prog 115 #[.slice a n c, .pointer (some ⟨B, 0, none⟩), .pointer (some ⟨C, 0, none⟩)] w fun e w' => ∃ q, e = .returned (.slice (some ⟨q, 0, none⟩) (n + 1) (n + 1)) ∧ w.heap.size ≤ q ∧
      w'.ownsRow w.heap.size 5 1 (.slice (some ⟨q, 0, none⟩) (n + 1) (n + 1)) (n + 1) ((zs ++ by8 1 (IntKind.u64.wrap v)).map (Value.int .u8)) ∧ Kp [] w w' := by
  have HR := hide hr
  have HAT := hide hat
  clear hr hat
  go_enter Tryz.func115, Tryz.ntmps115
  go_wp2_with fail
  refine (unhide HAT B w).mono ?_
  rintro x w1 ⟨rfl, rfl⟩
  go_wp2_with fail
  refine (byte_any a g n c v zs _ (by omega) hl (unhide HR)).mono ?_
  rintro x w2 ⟨q, rfl, hq, ho, hk⟩
  have HO := hide ho
  have HK := hide hk
  clear ho hk
  go_wp2
  go_ret
  exact ⟨q, rfl, hq, unhide HO, unhide HK⟩

set_option maxRecDepth 100000 in
set_option maxHeartbeats 8000000 in
theorem put_sevE (atf C B off m : Nat) (d : List Nat) (a : Option Addr) (g n c : Nat) (zs : List Int) (w : World) (hn : n ≤ 1000) (hl : zs.length = n) (hr : Row w a g zs) (he : Ent10 atf) (hat : AtS atf off m) (hm : m ≤ 100) (hd : d.length = m) (hb : ∀ j, cf d j < 256)
    (hC : w.cell? ⟨C, 0, none⟩ = some (.func (.func atf) #[] #[])) (hB : ∀ j, j < m → w.cell? ⟨B, off + j, none⟩ = some (.int .u8 ((cf d j : Nat) : Int))) :
    Calls Tryz.prog 119 #[.slice a n c, .pointer (some ⟨B, 0, none⟩), .pointer (some ⟨C, 0, none⟩)] w fun e w' => ∃ a' g' c', e = .returned (.slice a' (n + m) c') ∧ Row w' a' g' (zs ++ ints d) ∧ Kp [] w w' := by
  have HR := hide hr
  have HAT := hide hat
  have HB := hide hB
  have hBlt : 0 < m → B < w.heap.size := fun h => by have := block_lt_of_cell (hB 0 h); simpa using this
  clear hr hat hB
  go_enter Tryz.func119, Tryz.ntmps119
  go_wp2_with fail
  refine (unhide HAT B w).mono ?_
  rintro x w1 ⟨rfl, rfl⟩
  go_wp2_with fail
  go_loopw [0, 12] (fun b i wr => ∃ (k : Nat) (a' : Option Addr) (g' c' : Nat), k ≤ m ∧ i = .int .i64 k ∧ b = .slice a' (n + k) c' ∧ Kp [] w1 wr ∧ Row wr a' g' (zs ++ ints (d.take k))) (fun _ i _ => m - (intOf i).toNat)
  case atStart => exact ⟨0, a, g, c, by omega, rfl, rfl, Kp.refl _ _, by simpa [ints] using unhide HR⟩
  case round =>
    obtain ⟨k, a', g', c', hk, rfl, rfl, hK, hr⟩ := hrel
    have HK := hide hK
    have HR1 := hide hr
    clear hK hr
    by_cases hlt : k < m
    · have hk' : k < d.length := by omega
      have hc0 : wr.cell? ⟨B, off + k, none⟩ = some (.int .u8 ((cf d k : Nat) : Int)) := (unhide HK).cell (unhide HB k hlt) (by simp)
      go_wp2_with fail
      refine (byte_any a' g' (n + k) c' _ (zs ++ ints (d.take k)) _ (by omega) (by rw [List.length_append, hl]; simp [ints]; omega) (unhide HR1)).mono ?_
      rintro x w2 ⟨q, rfl, hq, ho, hk2⟩
      have HR2 := hide (row_of_owns ho)
      have HK2 : Hid (Kp [] w1 w2) := (unhide HK).trans hk2 (by simp)
      clear ho hk2 hc0
      go_wp2
      go_roundw
      case rel =>
        refine ⟨k + 1, some ⟨q, 0, none⟩, q, n + k + 1, by omega, by go_num, rfl, unhide HK2, ?_⟩
        rw [ints_take10 hk', ← List.append_assoc, ← by8_one10 (hb k)]
        exact unhide HR2
      case measure => simp [intOf]; omega
    · have : k = m := by omega
      subst this
      go_wp2
      go_ret
      refine ⟨a', g', c', rfl, ?_, unhide HK⟩
      have := unhide HR1
      rwa [List.take_of_length_le (by omega)] at this

set_option maxRecDepth 100000 in
set_option maxHeartbeats 8000000 in
theorem put_sevT (atf C B off m : Nat) (d : List Nat) (a : Option Addr) (g n c : Nat) (zs : List Int) (w : World) (hn : n ≤ 1000) (hl : zs.length = n) (hr : Row w a g zs) (he : Ent10 atf) (hat : AtS atf off m) (hm : m ≤ 100) (hd : d.length = m) (hb : ∀ j, cf d j < 256)
    (hC : w.cell? ⟨C, 0, none⟩ = some (.func (.func atf) #[] #[])) (hB : ∀ j, j < m → w.cell? ⟨B, off + j, none⟩ = some (.int .u8 ((cf d j : Nat) : Int))) :
    Calls Tryz.prog 121 #[.slice a n c, .pointer (some ⟨B, 0, none⟩), .pointer (some ⟨C, 0, none⟩)] w fun e w' => ∃ a' g' c', e = .returned (.slice a' (n + m) c') ∧ Row w' a' g' (zs ++ ints d) ∧ Kp [] w w' := by
  have HR := hide hr
  have HAT := hide hat
  have HB := hide hB
  have hBlt : 0 < m → B < w.heap.size := fun h => by have := block_lt_of_cell (hB 0 h); simpa using this
  clear hr hat hB
  go_enter Tryz.func121, Tryz.ntmps121
  go_wp2_with fail
  refine (unhide HAT B w).mono ?_
  rintro x w1 ⟨rfl, rfl⟩
  go_wp2_with fail
  go_loopw [0, 12] (fun b i wr => ∃ (k : Nat) (a' : Option Addr) (g' c' : Nat), k ≤ m ∧ i = .int .i64 k ∧ b = .slice a' (n + k) c' ∧ Kp [] w1 wr ∧ Row wr a' g' (zs ++ ints (d.take k))) (fun _ i _ => m - (intOf i).toNat)
  case atStart => exact ⟨0, a, g, c, by omega, rfl, rfl, Kp.refl _ _, by simpa [ints] using unhide HR⟩
  case round =>
    obtain ⟨k, a', g', c', hk, rfl, rfl, hK, hr⟩ := hrel
    have HK := hide hK
    have HR1 := hide hr
    clear hK hr
    by_cases hlt : k < m
    · have hk' : k < d.length := by omega
      have hc0 : wr.cell? ⟨B, off + k, none⟩ = some (.int .u8 ((cf d k : Nat) : Int)) := (unhide HK).cell (unhide HB k hlt) (by simp)
      go_wp2_with fail
      refine (byte_any a' g' (n + k) c' _ (zs ++ ints (d.take k)) _ (by omega) (by rw [List.length_append, hl]; simp [ints]; omega) (unhide HR1)).mono ?_
      rintro x w2 ⟨q, rfl, hq, ho, hk2⟩
      have HR2 := hide (row_of_owns ho)
      have HK2 : Hid (Kp [] w1 w2) := (unhide HK).trans hk2 (by simp)
      clear ho hk2 hc0
      go_wp2
      go_roundw
      case rel =>
        refine ⟨k + 1, some ⟨q, 0, none⟩, q, n + k + 1, by omega, by go_num, rfl, unhide HK2, ?_⟩
        rw [ints_take10 hk', ← List.append_assoc, ← by8_one10 (hb k)]
        exact unhide HR2
      case measure => simp [intOf]; omega
    · have : k = m := by omega
      subst this
      go_wp2
      go_ret
      refine ⟨a', g', c', rfl, ?_, unhide HK⟩
      have := unhide HR1
      rwa [List.take_of_length_le (by omega)] at this
end Go.Proofs.YtjdikhelabibnabGreat

namespace Go.Proofs.YtjdikhelabibnabGreat
open Go.RowKit

/-- What is left, and the error, behind a read of k bytes. -/
def rs1 (k : Nat) (s : List Int × Int) : List Int × Int := (rdZ k s.1 s.2, rdE k s.1 s.2)
/-- A row of reads: what they tell, and what is left. -/
def rdL : List Nat → List Int × Int → List Int
  | [], _ => []
  | k :: ks, s => rdV k s.1 :: rdL ks (rs1 k s)
def rdS : List Nat → List Int × Int → List Int × Int
  | [], s => s
  | k :: ks, s => rdS ks (rs1 k s)
theorem rdL_len (ks : List Nat) : ∀ s, (rdL ks s).length = ks.length := by
  induction ks with
  | nil => intro s; rfl
  | cons k ks ih => intro s; simp [rdL, ih]
theorem rdL_app (ks ls : List Nat) : ∀ s, rdL (ks ++ ls) s = rdL ks s ++ rdL ls (rdS ks s) := by
  induction ks with
  | nil => intro s; rfl
  | cons k ks ih => intro s; simp [rdL, rdS, ih]
theorem rdS_app (ks ls : List Nat) : ∀ s, rdS (ks ++ ls) s = rdS ls (rdS ks s) := by
  induction ks with
  | nil => intro s; rfl
  | cons k ks ih => intro s; simp [rdS, ih]
theorem byt_drop10 {zs : List Int} (h : Byt zs) (n : Nat) : Byt (zs.drop n) := fun z hz => h z (List.mem_of_mem_drop hz)
theorem byt_rs1 {k : Nat} {s : List Int × Int} (h : Byt s.1) : Byt (rs1 k s).1 := by
  unfold rs1 rdZ
  dsimp only
  split
  · exact byt_drop10 h _
  · split
    · intro z hz; simp at hz
    · exact h
theorem byt_rdS {ks : List Nat} : ∀ {s : List Int × Int}, Byt s.1 → Byt (rdS ks s).1 := by
  induction ks with
  | nil => intro s h; exact h
  | cons k ks ih => intro s h; exact ih (byt_rs1 h)
/-- One byte. -/
theorem rdV_one {zs : List Int} (h : Byt zs) : rdV 1 zs = zs.headD 0 ∧ 0 ≤ rdV 1 zs ∧ rdV 1 zs ≤ 255 := by
  unfold rdV
  match zs, h with
  | [], _ => simp
  | z :: l, h =>
    have hz := h z (by simp)
    have e : wrap64 (le ((z :: l).take 1)) = z := by
      simp only [List.take_succ_cons, List.take_zero, le, wrap64]
      omega
    rw [if_pos (by simp), e]
    exact ⟨rfl, hz.1, hz.2⟩
theorem rdS_ok (ks : List Nat) : ∀ (zs : List Int), ks.sum ≤ zs.length → rdS ks (zs, 0) = (zs.drop ks.sum, 0) := by
  induction ks with
  | nil => intro zs _; rfl
  | cons k ks ih =>
    intro zs h
    rw [List.sum_cons] at h
    have e : rs1 k (zs, 0) = (zs.drop k, 0) := by
      unfold rs1 rdZ rdE
      dsimp only
      rw [if_pos (by omega), if_pos (by omega)]
    rw [rdS, e, ih _ (by simp; omega), List.sum_cons, List.drop_drop]
theorem rdS_bad (ks : List Nat) : rdS ks ([], 3) = ([], 3) := by
  induction ks with
  | nil => rfl
  | cons k ks ih =>
    have e : rs1 k ([], 3) = ([], 3) := by
      unfold rs1 rdZ rdE
      cases k <;> simp
    rw [rdS, e, ih]
theorem rdS_cut (ks : List Nat) : ∀ (zs : List Int), zs.length < ks.sum → rdS ks (zs, 0) = ([], 3) := by
  induction ks with
  | nil => intro zs h; simp at h
  | cons k ks ih =>
    intro zs h
    rw [List.sum_cons] at h
    by_cases hk : k ≤ zs.length
    · have e : rs1 k (zs, 0) = (zs.drop k, 0) := by
        unfold rs1 rdZ rdE
        dsimp only
        rw [if_pos hk, if_pos hk]
      rw [rdS, e, ih _ (by simp; omega)]
    · have e : rs1 k (zs, 0) = ([], 3) := by
        unfold rs1 rdZ rdE
        dsimp only
        rw [if_neg hk, if_neg hk, if_pos rfl, if_pos rfl]
      rw [rdS, e, rdS_bad]

/-- Cells that are set one behind the other. -/
def csets (cs : Array Value) (o : Nat) : List Value → Array Value
  | [] => cs
  | v :: vs => csets (cs.setIfInBounds o v) (o + 1) vs
theorem csets_size (vs : List Value) : ∀ (cs : Array Value) (o : Nat), (csets cs o vs).size = cs.size := by
  induction vs with
  | nil => intro cs o; rfl
  | cons v vs ih => intro cs o; rw [csets, ih, Array.size_setIfInBounds]
theorem csets_snoc (v : Value) (vs : List Value) : ∀ (cs : Array Value) (o : Nat), csets cs o (vs ++ [v]) = (csets cs o vs).setIfInBounds (o + vs.length) v := by
  induction vs with
  | nil => intro cs o; rfl
  | cons u vs ih =>
    intro cs o
    rw [List.cons_append, csets, ih, csets, List.length_cons]
    congr 1
    omega

theorem csets_beyond (vs : List Value) : ∀ (cs : Array Value) (o j : Nat), o + vs.length ≤ j → (csets cs o vs)[j]? = cs[j]? := by
  induction vs with
  | nil => intro cs o j _; rfl
  | cons u vs ih =>
    intro cs o j h
    rw [List.length_cons] at h
    rw [csets, ih _ _ _ (by omega), Array.getElem?_setIfInBounds, if_neg (by omega)]

/-- The sizes of a head's, a slot's, the noughts' parts. -/
def szH : List Nat := [8, 1, 1, 1]
def szE : List Nat := [1, 8, 8] ++ List.replicate 16 1
def szT : List Nat := List.replicate 4 1
/-- Numbers as bytes. -/
def nat10 (l : List Int) : List Nat := l.map Int.toNat
theorem ints_nat10 {l : List Int} (h : ∀ z ∈ l, 0 ≤ z) : ints (nat10 l) = l := by
  induction l with
  | nil => rfl
  | cons z l ih =>
    have hz := h z (by simp)
    have e : ints (nat10 (z :: l)) = (z.toNat : Int) :: ints (nat10 l) := rfl
    rw [e, ih (fun x hx => h x (by simp [hx]))]
    congr 1
    omega
theorem nat10_ints (d : List Nat) : nat10 (ints d) = d := by
  induction d with
  | nil => rfl
  | cons z l ih =>
    have e : nat10 (ints (z :: l)) = z :: nat10 (ints l) := rfl
    rw [e, ih]
theorem rd_ones {n : Nat} : ∀ {s : List Int × Int}, Byt s.1 → ∀ z ∈ rdL (List.replicate n 1) s, 0 ≤ z ∧ z ≤ 255 := by
  induction n with
  | zero => intro s _ z hz; simp [rdL] at hz
  | succ n ih =>
    intro s h z hz
    rw [List.replicate_succ, rdL, List.mem_cons] at hz
    rcases hz with rfl | hz
    · exact (rdV_one h).2
    · exact ih (byt_rs1 h) z hz
/-- What is left behind the head, the slot, the noughts. -/
def st1 (zs : List Int) := rdS szH (zs, 0)
def st2 (zs : List Int) := rdS szE (st1 zs)
def st3 (zs : List Int) := rdS szT (st2 zs)
/-- What was read. -/
def pH (zs : List Int) : List Int := rdL szH (zs, 0)
def pE (zs : List Int) : List Int := rdL szE (st1 zs)
def pT (zs : List Int) : List Int := rdL szT (st2 zs)
def pD (zs : List Int) : List Nat := nat10 ((pE zs).drop 3)
/-- Code's error. -/
def cod (zs : List Int) : Int := if (st3 zs).2 = 0 ∧ (st3 zs).1 ≠ [] then 4 else (st3 zs).2
/-- What a slot's bytes must not say. -/
def badP (zs : List Int) : Prop := pT zs ≠ [0, 0, 0, 0] ∨ ¬ (1 ≤ (pH zs).getD 0 0 ∧ (pH zs).getD 0 0 ≤ 1099511627776) ∨ ¬ okE ((pE zs).getD 0 0) ((pE zs).getD 1 0) ((pE zs).getD 2 0) (pD zs)
open Classical in
noncomputable def parE (zs : List Int) : Int := if cod zs ≠ 0 then cod zs else if badP zs then 5 else 0
open Classical in
noncomputable def parH (zs : List Int) (j : Nat) : Int := if parE zs = 0 then (pH zs).getD j 0 else 0
open Classical in
noncomputable def parN (zs : List Int) (j : Nat) : Int := if parE zs = 0 then (pE zs).getD j 0 else 0
open Classical in
noncomputable def parD (zs : List Int) : List Nat := if parE zs = 0 then pD zs else zer16
theorem pE_len (zs : List Int) : (pE zs).length = 19 := by unfold pE; rw [rdL_len]; rfl
theorem pT_len (zs : List Int) : (pT zs).length = 4 := by unfold pT; rw [rdL_len]; rfl
theorem pH_len (zs : List Int) : (pH zs).length = 4 := by unfold pH; rw [rdL_len]; rfl
theorem pD_len (zs : List Int) : (pD zs).length = 16 := by unfold pD nat10; rw [List.length_map, List.length_drop, pE_len]
theorem parD_len (zs : List Int) : (parD zs).length = 16 := by unfold parD; split; exact pD_len zs; exact zer16_len
end Go.Proofs.YtjdikhelabibnabGreat

namespace Go.Proofs.YtjdikhelabibnabGreat
open Go.RowKit Go.Shelf
attribute [local go_sem] Oper.semAt_some

set_option maxRecDepth 100000 in
set_option maxHeartbeats 4000000 in
theorem take_numH (atf C B off R g : Nat) (cs : Array Value) (ty : TypeId) (zs : List Int) (e : Int) (w : World) (he : Ent10 atf) (hat : AtI atf off)
    (hC : w.cell? ⟨C, 0, none⟩ = some (.func (.func atf) #[] #[])) (x0 : Int) (hx0 : cs[off]? = some (.int .i64 x0)) (hB : w.heap[B]? = some (.cells cs ty (0, 0))) (hby : Byt zs) (hR : Rd 164 w R g zs e) (hBR : B ≠ R) :
    Calls Tryz.prog 109 #[.pointer (some ⟨R, 0, none⟩), .pointer (some ⟨B, 0, none⟩), .pointer (some ⟨C, 0, none⟩)] w fun x w' => x = .returned (.tuple #[]) ∧ (B ≠ g → Rd 164 w' R g (rdZ 8 zs e) (rdE 8 zs e)) ∧
      w'.heap[B]? = some (.cells (cs.setIfInBounds off (.int .i64 (rdV 8 zs))) ty (0, 0)) ∧ Kp [R, B] w w' := by
  have HR := hide hR
  have HB := hide hB
  have HAT := hide hat
  have HY := hide hby
  have HX := hide hx0
  clear hR hat hB hby hx0
  go_enter Tryz.func109, Tryz.ntmps109
  go_wp2_with fail
  refine (unhide HAT B w).mono ?_
  rintro x w1 ⟨rfl, rfl⟩
  go_wp2_with fail
  refine (rint_any R g zs e _ (unhide HY) (unhide HR)).mono ?_
  rintro x w2 ⟨rfl, hr2, hk2⟩
  have HR2 := hide hr2
  have HK2 := hide hk2
  have HB2 := hide (hk2.heap (unhide HB) (by simpa using hBR))
  have hc2 : w2.cell? ⟨B, off, none⟩ = some (.int .i64 x0) := cell_blk (unhide HB2) (unhide HX)
  have hf2 : w2.frozen? ⟨B, off, none⟩ = false := free_of_two (unhide HB2)
  clear hr2 hk2
  go_wp2
  go_end0
  have hk3 : Kp [B] w2 (w2.setCell ⟨B, off, none⟩ (.int .i64 (rdV 8 zs))) := (Kp.refl _ _).setCell _ _ (.inl (by simp))
  refine ⟨rfl, fun hBg => (unhide HR2).keep hk3 (by simpa using hBR.symm) (by simpa using hBg.symm), heap_setCell_same _ _ _ _ _ _ (unhide HB2), ?_⟩
  exact ((unhide HK2).mono (by simp)).trans hk3 (by simp)

set_option maxRecDepth 100000 in
set_option maxHeartbeats 4000000 in
theorem take_lowH (atf C B off R g : Nat) (cs : Array Value) (ty : TypeId) (zs : List Int) (e : Int) (w : World) (he : Ent10 atf) (hat : AtI atf off)
    (hC : w.cell? ⟨C, 0, none⟩ = some (.func (.func atf) #[] #[])) (x0 : Int) (hx0 : cs[off]? = some (.int .i64 x0)) (hB : w.heap[B]? = some (.cells cs ty (0, 0))) (hby : Byt zs) (hR : Rd 164 w R g zs e) (hBR : B ≠ R) :
    Calls Tryz.prog 113 #[.pointer (some ⟨R, 0, none⟩), .pointer (some ⟨B, 0, none⟩), .pointer (some ⟨C, 0, none⟩)] w fun x w' => x = .returned (.tuple #[]) ∧ (B ≠ g → Rd 164 w' R g (rdZ 1 zs e) (rdE 1 zs e)) ∧
      w'.heap[B]? = some (.cells (cs.setIfInBounds off (.int .i64 (rdV 1 zs))) ty (0, 0)) ∧ Kp [R, B] w w' := by
  have HR := hide hR
  have HB := hide hB
  have HAT := hide hat
  have HY := hide hby
  have HX := hide hx0
  clear hR hat hB hby hx0
  go_enter Tryz.func113, Tryz.ntmps113
  go_wp2_with fail
  refine (unhide HAT B w).mono ?_
  rintro x w1 ⟨rfl, rfl⟩
  go_wp2_with fail
  refine (rbyte_any R g zs e _ (unhide HY) (unhide HR)).mono ?_
  rintro x w2 ⟨rfl, hr2, hk2⟩
  have HR2 := hide hr2
  have HK2 := hide hk2
  have HB2 := hide (hk2.heap (unhide HB) (by simpa using hBR))
  have hc2 : w2.cell? ⟨B, off, none⟩ = some (.int .i64 x0) := cell_blk (unhide HB2) (unhide HX)
  have hf2 : w2.frozen? ⟨B, off, none⟩ = false := free_of_two (unhide HB2)
  clear hr2 hk2
  go_wp2
  go_end0
  have hk3 : Kp [B] w2 (w2.setCell ⟨B, off, none⟩ (.int .i64 (rdV 1 zs))) := (Kp.refl _ _).setCell _ _ (.inl (by simp))
  refine ⟨rfl, fun hBg => (unhide HR2).keep hk3 (by simpa using hBR.symm) (by simpa using hBg.symm), heap_setCell_same _ _ _ _ _ _ (unhide HB2), ?_⟩
  exact ((unhide HK2).mono (by simp)).trans hk3 (by simp)

set_option maxRecDepth 100000 in
set_option maxHeartbeats 4000000 in
theorem take_numE (atf C B off R g : Nat) (cs : Array Value) (ty : TypeId) (zs : List Int) (e : Int) (w : World) (he : Ent10 atf) (hat : AtI atf off)
    (hC : w.cell? ⟨C, 0, none⟩ = some (.func (.func atf) #[] #[])) (x0 : Int) (hx0 : cs[off]? = some (.int .i64 x0)) (hB : w.heap[B]? = some (.cells cs ty (0, 0))) (hby : Byt zs) (hR : Rd 164 w R g zs e) (hBR : B ≠ R) :
    Calls Tryz.prog 118 #[.pointer (some ⟨R, 0, none⟩), .pointer (some ⟨B, 0, none⟩), .pointer (some ⟨C, 0, none⟩)] w fun x w' => x = .returned (.tuple #[]) ∧ (B ≠ g → Rd 164 w' R g (rdZ 8 zs e) (rdE 8 zs e)) ∧
      w'.heap[B]? = some (.cells (cs.setIfInBounds off (.int .i64 (rdV 8 zs))) ty (0, 0)) ∧ Kp [R, B] w w' := by
  have HR := hide hR
  have HB := hide hB
  have HAT := hide hat
  have HY := hide hby
  have HX := hide hx0
  clear hR hat hB hby hx0
  go_enter Tryz.func118, Tryz.ntmps118
  go_wp2_with fail
  refine (unhide HAT B w).mono ?_
  rintro x w1 ⟨rfl, rfl⟩
  go_wp2_with fail
  refine (rint_any R g zs e _ (unhide HY) (unhide HR)).mono ?_
  rintro x w2 ⟨rfl, hr2, hk2⟩
  have HR2 := hide hr2
  have HK2 := hide hk2
  have HB2 := hide (hk2.heap (unhide HB) (by simpa using hBR))
  have hc2 : w2.cell? ⟨B, off, none⟩ = some (.int .i64 x0) := cell_blk (unhide HB2) (unhide HX)
  have hf2 : w2.frozen? ⟨B, off, none⟩ = false := free_of_two (unhide HB2)
  clear hr2 hk2
  go_wp2
  go_end0
  have hk3 : Kp [B] w2 (w2.setCell ⟨B, off, none⟩ (.int .i64 (rdV 8 zs))) := (Kp.refl _ _).setCell _ _ (.inl (by simp))
  refine ⟨rfl, fun hBg => (unhide HR2).keep hk3 (by simpa using hBR.symm) (by simpa using hBg.symm), heap_setCell_same _ _ _ _ _ _ (unhide HB2), ?_⟩
  exact ((unhide HK2).mono (by simp)).trans hk3 (by simp)

set_option maxRecDepth 100000 in
set_option maxHeartbeats 4000000 in
theorem take_lowE (atf C B off R g : Nat) (cs : Array Value) (ty : TypeId) (zs : List Int) (e : Int) (w : World) (he : Ent10 atf) (hat : AtI atf off)
    (hC : w.cell? ⟨C, 0, none⟩ = some (.func (.func atf) #[] #[])) (x0 : Int) (hx0 : cs[off]? = some (.int .i64 x0)) (hB : w.heap[B]? = some (.cells cs ty (0, 0))) (hby : Byt zs) (hR : Rd 164 w R g zs e) (hBR : B ≠ R) :
    Calls Tryz.prog 116 #[.pointer (some ⟨R, 0, none⟩), .pointer (some ⟨B, 0, none⟩), .pointer (some ⟨C, 0, none⟩)] w fun x w' => x = .returned (.tuple #[]) ∧ (B ≠ g → Rd 164 w' R g (rdZ 1 zs e) (rdE 1 zs e)) ∧
      w'.heap[B]? = some (.cells (cs.setIfInBounds off (.int .i64 (rdV 1 zs))) ty (0, 0)) ∧ Kp [R, B] w w' := by
  have HR := hide hR
  have HB := hide hB
  have HAT := hide hat
  have HY := hide hby
  have HX := hide hx0
  clear hR hat hB hby hx0
  go_enter Tryz.func116, Tryz.ntmps116
  go_wp2_with fail
  refine (unhide HAT B w).mono ?_
  rintro x w1 ⟨rfl, rfl⟩
  go_wp2_with fail
  refine (rbyte_any R g zs e _ (unhide HY) (unhide HR)).mono ?_
  rintro x w2 ⟨rfl, hr2, hk2⟩
  have HR2 := hide hr2
  have HK2 := hide hk2
  have HB2 := hide (hk2.heap (unhide HB) (by simpa using hBR))
  have hc2 : w2.cell? ⟨B, off, none⟩ = some (.int .i64 x0) := cell_blk (unhide HB2) (unhide HX)
  have hf2 : w2.frozen? ⟨B, off, none⟩ = false := free_of_two (unhide HB2)
  clear hr2 hk2
  go_wp2
  go_end0
  have hk3 : Kp [B] w2 (w2.setCell ⟨B, off, none⟩ (.int .i64 (rdV 1 zs))) := (Kp.refl _ _).setCell _ _ (.inl (by simp))
  refine ⟨rfl, fun hBg => (unhide HR2).keep hk3 (by simpa using hBR.symm) (by simpa using hBg.symm), heap_setCell_same _ _ _ _ _ _ (unhide HB2), ?_⟩
  exact ((unhide HK2).mono (by simp)).trans hk3 (by simp)

set_option maxRecDepth 100000 in
set_option maxHeartbeats 8000000 in
theorem take_sevE (atf C B off m R g : Nat) (cs : Array Value) (ty : TypeId) (zs : List Int) (e : Int) (w : World) (he : Ent10 atf) (hat : AtS atf off m) (hm : m ≤ 100)
    (hC : w.cell? ⟨C, 0, none⟩ = some (.func (.func atf) #[] #[])) (hx0 : ∀ j, j < m → ∃ x0, cs[off + j]? = some (.int .u8 x0)) (hB : w.heap[B]? = some (.cells cs ty (0, 0))) (hby : Byt zs) (hR : Rd 164 w R g zs e) (hBR : B ≠ R) (hBg : B ≠ g) :
    Calls Tryz.prog 120 #[.pointer (some ⟨R, 0, none⟩), .pointer (some ⟨B, 0, none⟩), .pointer (some ⟨C, 0, none⟩)] w fun x w' => x = .returned (.tuple #[]) ∧
      Rd 164 w' R g (rdS (List.replicate m 1) (zs, e)).1 (rdS (List.replicate m 1) (zs, e)).2 ∧
      w'.heap[B]? = some (.cells (csets cs off ((rdL (List.replicate m 1) (zs, e)).map (Value.int .u8))) ty (0, 0)) ∧ Kp [R, B] w w' := by
  have HR := hide hR
  have HB := hide hB
  have HAT := hide hat
  have HY := hide hby
  have HX := hide hx0
  clear hR hat hB hby hx0
  go_enter Tryz.func120, Tryz.ntmps120
  go_wp2_with fail
  refine (unhide HAT B w).mono ?_
  rintro x w1 ⟨rfl, rfl⟩
  go_wp2_with fail
  go_loopw [12] (fun i wr => ∃ (k : Nat), k ≤ m ∧ i = .int .i64 k ∧ Kp [R, B] w1 wr ∧ Rd 164 wr R g (rdS (List.replicate k 1) (zs, e)).1 (rdS (List.replicate k 1) (zs, e)).2 ∧
    wr.heap[B]? = some (.cells (csets cs off ((rdL (List.replicate k 1) (zs, e)).map (Value.int .u8))) ty (0, 0))) (fun i _ => m - (intOf i).toNat)
  case atStart => exact ⟨0, by omega, rfl, Kp.refl _ _, unhide HR, unhide HB⟩
  case round =>
    obtain ⟨k, hk, rfl, hK, hr, hb⟩ := hrel
    have HK := hide hK
    have HR1 := hide hr
    have HB1 := hide hb
    clear hK hr hb
    by_cases hlt : k < m
    · have hy1 : Byt (rdS (List.replicate k 1) (zs, e)).1 := byt_rdS (unhide HY)
      have h2 := rdV_one hy1
      obtain ⟨V, hV⟩ : ∃ V, rdV 1 (rdS (List.replicate k 1) (zs, e)).1 = V := ⟨_, rfl⟩
      have hl1 : ((rdL (List.replicate k 1) (zs, e)).map (Value.int .u8)).length = k := by rw [List.length_map, rdL_len, List.length_replicate]
      obtain ⟨x0, hx0⟩ : ∃ x0, (csets cs off ((rdL (List.replicate k 1) (zs, e)).map (Value.int .u8)))[off + k]? = some (.int .u8 x0) := by
        obtain ⟨x0, h⟩ := unhide HX k hlt
        exact ⟨x0, by rw [csets_beyond _ _ _ _ (by omega)]; exact h⟩
      have HX0 := hide hx0
      have HV := hide hV
      have HY1 := hide hy1
      have hv1 := h2.2.1
      have hv2 := h2.2.2
      rw [hV] at hv1 hv2
      have HL1 := hide hl1
      clear hx0 h2 hy1 hl1 hV
      go_wp2_with fail
      refine (rbyte_any R g _ _ _ (unhide HY1) (unhide HR1)).mono ?_
      rintro x w2 ⟨rfl, hr2, hk2⟩
      have HR2 := hide hr2
      have HK2 := hide hk2
      have HB2 := hide (hk2.heap (unhide HB1) (by simpa using hBR))
      have hc2 : w2.cell? ⟨B, off + k, none⟩ = some (.int .u8 x0) := cell_blk (unhide HB2) (unhide HX0)
      have hf2 : w2.frozen? ⟨B, off + k, none⟩ = false := free_of_two (unhide HB2)
      rw [unhide HV]
      clear hr2 hk2
      go_wp2
      go_roundw
      case rel =>
        have hk3 : Kp [B] w2 (w2.setCell ⟨B, off + k, none⟩ (.int .u8 V)) := (Kp.refl _ _).setCell _ _ (.inl (by simp))
        refine ⟨k + 1, by omega, by go_num, ?_, ?_, ?_⟩
        · exact ((unhide HK).trans ((unhide HK2).mono (S' := [R, B]) (by simp)) (by simp)).trans hk3 (by simp)
        · rw [List.replicate_succ', rdS_app]
          exact (unhide HR2).keep hk3 (by simpa using hBR.symm) (by simpa using hBg.symm)
        · rw [List.replicate_succ', rdL_app, List.map_append]
          have e1 : (rdL [1] (rdS (List.replicate k 1) (zs, e))).map (Value.int .u8) = [.int .u8 V] := by
            show [Value.int .u8 (rdV 1 (rdS (List.replicate k 1) (zs, e)).1)] = _
            rw [unhide HV]
          rw [e1, csets_snoc, unhide HL1]
          exact heap_setCell_same _ _ _ _ _ _ (unhide HB2)
      case measure => simp [intOf]; omega
    · have : k = m := by omega
      subst this
      go_wp2
      go_end0
      exact ⟨rfl, unhide HR1, unhide HB1, unhide HK⟩

set_option maxRecDepth 100000 in
set_option maxHeartbeats 8000000 in
theorem take_sevT (atf C B off m R g : Nat) (cs : Array Value) (ty : TypeId) (zs : List Int) (e : Int) (w : World) (he : Ent10 atf) (hat : AtS atf off m) (hm : m ≤ 100)
    (hC : w.cell? ⟨C, 0, none⟩ = some (.func (.func atf) #[] #[])) (hx0 : ∀ j, j < m → ∃ x0, cs[off + j]? = some (.int .u8 x0)) (hB : w.heap[B]? = some (.cells cs ty (0, 0))) (hby : Byt zs) (hR : Rd 164 w R g zs e) (hBR : B ≠ R) (hBg : B ≠ g) :
    Calls Tryz.prog 122 #[.pointer (some ⟨R, 0, none⟩), .pointer (some ⟨B, 0, none⟩), .pointer (some ⟨C, 0, none⟩)] w fun x w' => x = .returned (.tuple #[]) ∧
      Rd 164 w' R g (rdS (List.replicate m 1) (zs, e)).1 (rdS (List.replicate m 1) (zs, e)).2 ∧
      w'.heap[B]? = some (.cells (csets cs off ((rdL (List.replicate m 1) (zs, e)).map (Value.int .u8))) ty (0, 0)) ∧ Kp [R, B] w w' := by
  have HR := hide hR
  have HB := hide hB
  have HAT := hide hat
  have HY := hide hby
  have HX := hide hx0
  clear hR hat hB hby hx0
  go_enter Tryz.func122, Tryz.ntmps122
  go_wp2_with fail
  refine (unhide HAT B w).mono ?_
  rintro x w1 ⟨rfl, rfl⟩
  go_wp2_with fail
  go_loopw [12] (fun i wr => ∃ (k : Nat), k ≤ m ∧ i = .int .i64 k ∧ Kp [R, B] w1 wr ∧ Rd 164 wr R g (rdS (List.replicate k 1) (zs, e)).1 (rdS (List.replicate k 1) (zs, e)).2 ∧
    wr.heap[B]? = some (.cells (csets cs off ((rdL (List.replicate k 1) (zs, e)).map (Value.int .u8))) ty (0, 0))) (fun i _ => m - (intOf i).toNat)
  case atStart => exact ⟨0, by omega, rfl, Kp.refl _ _, unhide HR, unhide HB⟩
  case round =>
    obtain ⟨k, hk, rfl, hK, hr, hb⟩ := hrel
    have HK := hide hK
    have HR1 := hide hr
    have HB1 := hide hb
    clear hK hr hb
    by_cases hlt : k < m
    · have hy1 : Byt (rdS (List.replicate k 1) (zs, e)).1 := byt_rdS (unhide HY)
      have h2 := rdV_one hy1
      obtain ⟨V, hV⟩ : ∃ V, rdV 1 (rdS (List.replicate k 1) (zs, e)).1 = V := ⟨_, rfl⟩
      have hl1 : ((rdL (List.replicate k 1) (zs, e)).map (Value.int .u8)).length = k := by rw [List.length_map, rdL_len, List.length_replicate]
      obtain ⟨x0, hx0⟩ : ∃ x0, (csets cs off ((rdL (List.replicate k 1) (zs, e)).map (Value.int .u8)))[off + k]? = some (.int .u8 x0) := by
        obtain ⟨x0, h⟩ := unhide HX k hlt
        exact ⟨x0, by rw [csets_beyond _ _ _ _ (by omega)]; exact h⟩
      have HX0 := hide hx0
      have HV := hide hV
      have HY1 := hide hy1
      have hv1 := h2.2.1
      have hv2 := h2.2.2
      rw [hV] at hv1 hv2
      have HL1 := hide hl1
      clear hx0 h2 hy1 hl1 hV
      go_wp2_with fail
      refine (rbyte_any R g _ _ _ (unhide HY1) (unhide HR1)).mono ?_
      rintro x w2 ⟨rfl, hr2, hk2⟩
      have HR2 := hide hr2
      have HK2 := hide hk2
      have HB2 := hide (hk2.heap (unhide HB1) (by simpa using hBR))
      have hc2 : w2.cell? ⟨B, off + k, none⟩ = some (.int .u8 x0) := cell_blk (unhide HB2) (unhide HX0)
      have hf2 : w2.frozen? ⟨B, off + k, none⟩ = false := free_of_two (unhide HB2)
      rw [unhide HV]
      clear hr2 hk2
      go_wp2
      go_roundw
      case rel =>
        have hk3 : Kp [B] w2 (w2.setCell ⟨B, off + k, none⟩ (.int .u8 V)) := (Kp.refl _ _).setCell _ _ (.inl (by simp))
        refine ⟨k + 1, by omega, by go_num, ?_, ?_, ?_⟩
        · exact ((unhide HK).trans ((unhide HK2).mono (S' := [R, B]) (by simp)) (by simp)).trans hk3 (by simp)
        · rw [List.replicate_succ', rdS_app]
          exact (unhide HR2).keep hk3 (by simpa using hBR.symm) (by simpa using hBg.symm)
        · rw [List.replicate_succ', rdL_app, List.map_append]
          have e1 : (rdL [1] (rdS (List.replicate k 1) (zs, e))).map (Value.int .u8) = [.int .u8 V] := by
            show [Value.int .u8 (rdV 1 (rdS (List.replicate k 1) (zs, e)).1)] = _
            rw [unhide HV]
          rw [e1, csets_snoc, unhide HL1]
          exact heap_setCell_same _ _ _ _ _ _ (unhide HB2)
      case measure => simp [intOf]; omega
    · have : k = m := by omega
      subst this
      go_wp2
      go_end0
      exact ⟨rfl, unhide HR1, unhide HB1, unhide HK⟩
end Go.Proofs.YtjdikhelabibnabGreat
