/-
  The parts of a layout, each by itself, put: entry.number, low, several.
-/
import Derived.Test.YtjdikhelabibnabGreatH10g
import Derived.Test.YtjdikhelabibnabGreatByte
namespace Go.Proofs.YtjdikhelabibnabGreat
open Go.RowKit Go.Shelf
attribute [local go_sem] Oper.semAt_some

/-- What is called so is entered. -/
abbrev Ent10 (f : Nat) : Prop := ∀ args W, (callFunc f args).run Tryz.prog W = .ok (.enter f args) W
/-- Such a function tells a number's place. -/
def AtI (f off : Nat) : Prop := ∀ B W, Calls Tryz.prog f #[.pointer (some ⟨B, 0, none⟩)] W fun e W' => e = .returned (.pointer (some ⟨B, off, none⟩)) ∧ W' = W
/-- Such a function tells the place of m bytes. -/
def AtS (f off m : Nat) : Prop := ∀ B W, Calls Tryz.prog f #[.pointer (some ⟨B, 0, none⟩)] W fun e W' => e = .returned (.slice (some ⟨B, off, none⟩) m m) ∧ W' = W
theorem ints_take10 {d : List Nat} {k : Nat} (h : k < d.length) : ints (d.take (k + 1)) = ints (d.take k) ++ [((cf d k : Nat) : Int)] := by
  rw [List.take_add_one, cf_get h]
  simp [ints]
theorem by8_one10 {x : Nat} (h : x < 256) : by8 1 (IntKind.u64.wrap (wrap64 (x : Int))) = [(x : Int)] := by
  rw [IntKind.wrap_u64]
  simp only [by8, wrap64, List.cons.injEq, and_true]
  omega

set_option maxRecDepth 100000 in
set_option maxHeartbeats 4000000 in
theorem put_numH (atf C B off : Nat) (v : Int) (a : Option Addr) (g n c : Nat) (zs : List Int) (w : World) (hn : n ≤ 1000) (hl : zs.length = n) (hr : Row w a g zs) (he : Ent10 atf) (hat : AtI atf off)
    (hC : w.cell? ⟨C, 0, none⟩ = some (.func (.func atf) #[] #[])) (hB : w.cell? ⟨B, off, none⟩ = some (.int .i64 v)) :
    Calls Tryz.prog 107 #[.slice a n c, .pointer (some ⟨B, 0, none⟩), .pointer (some ⟨C, 0, none⟩)] w fun e w' => ∃ q, e = .returned (.slice (some ⟨q, 0, none⟩) (n + 8) (n + 8)) ∧ w.heap.size ≤ q ∧
      w'.ownsRow w.heap.size 5 1 (.slice (some ⟨q, 0, none⟩) (n + 8) (n + 8)) (n + 8) ((zs ++ by8 8 (IntKind.u64.wrap v)).map (Value.int .u8)) ∧ Kp [] w w' := by
  have HR := hide hr
  have HAT := hide hat
  clear hr hat
  go_enter Tryz.func107, Tryz.ntmps107
  go_wp2_with fail
  refine (unhide HAT B w).mono ?_
  rintro x w1 ⟨rfl, rfl⟩
  go_wp2_with fail
  refine (int_any a g n c v zs _ (by omega) hl (unhide HR)).mono ?_
  rintro x w2 ⟨q, rfl, hq, ho, hk⟩
  have HO := hide ho
  have HK := hide hk
  clear ho hk
  go_wp2
  go_ret
  exact ⟨q, rfl, hq, unhide HO, unhide HK⟩

set_option maxRecDepth 100000 in
set_option maxHeartbeats 4000000 in
theorem put_lowH (atf C B off : Nat) (v : Int) (a : Option Addr) (g n c : Nat) (zs : List Int) (w : World) (hn : n ≤ 1000) (hl : zs.length = n) (hr : Row w a g zs) (he : Ent10 atf) (hat : AtI atf off)
    (hC : w.cell? ⟨C, 0, none⟩ = some (.func (.func atf) #[] #[])) (hB : w.cell? ⟨B, off, none⟩ = some (.int .i64 v)) :
    Calls Tryz.prog 111 #[.slice a n c, .pointer (some ⟨B, 0, none⟩), .pointer (some ⟨C, 0, none⟩)] w fun e w' => ∃ q, e = .returned (.slice (some ⟨q, 0, none⟩) (n + 1) (n + 1)) ∧ w.heap.size ≤ q ∧
      w'.ownsRow w.heap.size 5 1 (.slice (some ⟨q, 0, none⟩) (n + 1) (n + 1)) (n + 1) ((zs ++ by8 1 (IntKind.u64.wrap v)).map (Value.int .u8)) ∧ Kp [] w w' := by
  have HR := hide hr
  have HAT := hide hat
  clear hr hat
  go_enter Tryz.func111, Tryz.ntmps111
  go_wp2_with fail
  refine (unhide HAT B w).mono ?_
  rintro x w1 ⟨rfl, rfl⟩
  go_wp2_with fail
  refine (byte_any a g n c v zs _ (by omega) hl (unhide HR)).mono ?_
  rintro x w2 ⟨q, rfl, hq, ho, hk⟩
  have HO := hide ho
  have HK := hide hk
  clear ho hk
  go_wp2
  go_ret
  exact ⟨q, rfl, hq, unhide HO, unhide HK⟩

set_option maxRecDepth 100000 in
set_option maxHeartbeats 4000000 in
theorem put_numE (atf C B off : Nat) (v : Int) (a : Option Addr) (g n c : Nat) (zs : List Int) (w : World) (hn : n ≤ 1000) (hl : zs.length = n) (hr : Row w a g zs) (he : Ent10 atf) (hat : AtI atf off)
    (hC : w.cell? ⟨C, 0, none⟩ = some (.func (.func atf) #[] #[])) (hB : w.cell? ⟨B, off, none⟩ = some (.int .i64 v)) :
    Calls Tryz.prog 117 #[.slice a n c, .pointer (some ⟨B, 0, none⟩), .pointer (some ⟨C, 0, none⟩)] w fun e w' => ∃ q, e = .returned (.slice (some ⟨q, 0, none⟩) (n + 8) (n + 8)) ∧ w.heap.size ≤ q ∧
      w'.ownsRow w.heap.size 5 1 (.slice (some ⟨q, 0, none⟩) (n + 8) (n + 8)) (n + 8) ((zs ++ by8 8 (IntKind.u64.wrap v)).map (Value.int .u8)) ∧ Kp [] w w' := by
  have HR := hide hr
  have HAT := hide hat
  clear hr hat
  go_enter Tryz.func117, Tryz.ntmps117
  go_wp2_with fail
  refine (unhide HAT B w).mono ?_
  rintro x w1 ⟨rfl, rfl⟩
  go_wp2_with fail
  refine (int_any a g n c v zs _ (by omega) hl (unhide HR)).mono ?_
  rintro x w2 ⟨q, rfl, hq, ho, hk⟩
  have HO := hide ho
  have HK := hide hk
  clear ho hk
  go_wp2
  go_ret
  exact ⟨q, rfl, hq, unhide HO, unhide HK⟩

set_option maxRecDepth 100000 in
set_option maxHeartbeats 4000000 in
theorem put_lowE (atf C B off : Nat) (v : Int) (a : Option Addr) (g n c : Nat) (zs : List Int) (w : World) (hn : n ≤ 1000) (hl : zs.length = n) (hr : Row w a g zs) (he : Ent10 atf) (hat : AtI atf off)
    (hC : w.cell? ⟨C, 0, none⟩ = some (.func (.func atf) #[] #[])) (hB : w.cell? ⟨B, off, none⟩ = some (.int .i64 v)) :
    Calls Tryz.prog 115 #[.slice a n c, .pointer (some ⟨B, 0, none⟩), .pointer (some ⟨C, 0, none⟩)] w fun e w' => ∃ q, e = .returned (.slice (some ⟨q, 0, none⟩) (n + 1) (n + 1)) ∧ w.heap.size ≤ q ∧
      w'.ownsRow w.heap.size 5 1 (.slice (some ⟨q, 0, none⟩) (n + 1) (n + 1)) (n + 1) ((zs ++ by8 1 (IntKind.u64.wrap v)).map (Value.int .u8)) ∧ Kp [] w w' := by
  have HR := hide hr
  have HAT := hide hat
  clear hr hat
  go_enter Tryz.func115, Tryz.ntmps115
  go_wp2_with fail
  refine (unhide HAT B w).mono ?_
  rintro x w1 ⟨rfl, rfl⟩
  go_wp2_with fail
  refine (byte_any a g n c v zs _ (by omega) hl (unhide HR)).mono ?_
  rintro x w2 ⟨q, rfl, hq, ho, hk⟩
  have HO := hide ho
  have HK := hide hk
  clear ho hk
  go_wp2
  go_ret
  exact ⟨q, rfl, hq, unhide HO, unhide HK⟩

set_option maxRecDepth 100000 in
set_option maxHeartbeats 8000000 in
theorem put_sevE (atf C B off m : Nat) (d : List Nat) (a : Option Addr) (g n c : Nat) (zs : List Int) (w : World) (hn : n ≤ 1000) (hl : zs.length = n) (hr : Row w a g zs) (he : Ent10 atf) (hat : AtS atf off m) (hm : m ≤ 100) (hd : d.length = m) (hb : ∀ j, cf d j < 256)
    (hC : w.cell? ⟨C, 0, none⟩ = some (.func (.func atf) #[] #[])) (hB : ∀ j, j < m → w.cell? ⟨B, off + j, none⟩ = some (.int .u8 ((cf d j : Nat) : Int))) :
    Calls Tryz.prog 119 #[.slice a n c, .pointer (some ⟨B, 0, none⟩), .pointer (some ⟨C, 0, none⟩)] w fun e w' => ∃ a' g' c', e = .returned (.slice a' (n + m) c') ∧ Row w' a' g' (zs ++ ints d) ∧ Kp [] w w' := by
  have HR := hide hr
  have HAT := hide hat
  have HB := hide hB
  have hBlt : 0 < m → B < w.heap.size := fun h => by have := block_lt_of_cell (hB 0 h); simpa using this
  clear hr hat hB
  go_enter Tryz.func119, Tryz.ntmps119
  go_wp2_with fail
  refine (unhide HAT B w).mono ?_
  rintro x w1 ⟨rfl, rfl⟩
  go_wp2_with fail
  go_loopw [0, 12] (fun b i wr => ∃ (k : Nat) (a' : Option Addr) (g' c' : Nat), k ≤ m ∧ i = .int .i64 k ∧ b = .slice a' (n + k) c' ∧ Kp [] w1 wr ∧ Row wr a' g' (zs ++ ints (d.take k))) (fun _ i _ => m - (intOf i).toNat)
  case atStart => exact ⟨0, a, g, c, by omega, rfl, rfl, Kp.refl _ _, by simpa [ints] using unhide HR⟩
  case round =>
    obtain ⟨k, a', g', c', hk, rfl, rfl, hK, hr⟩ := hrel
    have HK := hide hK
    have HR1 := hide hr
    clear hK hr
    by_cases hlt : k < m
    · have hk' : k < d.length := by omega
      have hc0 : wr.cell? ⟨B, off + k, none⟩ = some (.int .u8 ((cf d k : Nat) : Int)) := (unhide HK).cell (unhide HB k hlt) (by simp)
      go_wp2_with fail
      refine (byte_any a' g' (n + k) c' _ (zs ++ ints (d.take k)) _ (by omega) (by rw [List.length_append, hl]; simp [ints]; omega) (unhide HR1)).mono ?_
      rintro x w2 ⟨q, rfl, hq, ho, hk2⟩
      have HR2 := hide (row_of_owns ho)
      have HK2 : Hid (Kp [] w1 w2) := (unhide HK).trans hk2 (by simp)
      clear ho hk2 hc0
      go_wp2
      go_roundw
      case rel =>
        refine ⟨k + 1, some ⟨q, 0, none⟩, q, n + k + 1, by omega, by go_num, rfl, unhide HK2, ?_⟩
        rw [ints_take10 hk', ← List.append_assoc, ← by8_one10 (hb k)]
        exact unhide HR2
      case measure => simp [intOf]; omega
    · have : k = m := by omega
      subst this
      go_wp2
      go_ret
      refine ⟨a', g', c', rfl, ?_, unhide HK⟩
      have := unhide HR1
      rwa [List.take_of_length_le (by omega)] at this

set_option maxRecDepth 100000 in
set_option maxHeartbeats 8000000 in
theorem put_sevT (atf C B off m : Nat) (d : List Nat) (a : Option Addr) (g n c : Nat) (zs : List Int) (w : World) (hn : n ≤ 1000) (hl : zs.length = n) (hr : Row w a g zs) (he : Ent10 atf) (hat : AtS atf off m) (hm : m ≤ 100) (hd : d.length = m) (hb : ∀ j, cf d j < 256)
    (hC : w.cell? ⟨C, 0, none⟩ = some (.func (.func atf) #[] #[])) (hB : ∀ j, j < m → w.cell? ⟨B, off + j, none⟩ = some (.int .u8 ((cf d j : Nat) : Int))) :
    Calls Tryz.prog 121 #[.slice a n c, .pointer (some ⟨B, 0, none⟩), .pointer (some ⟨C, 0, none⟩)] w fun e w' => ∃ a' g' c', e = .returned (.slice a' (n + m) c') ∧ Row w' a' g' (zs ++ ints d) ∧ Kp [] w w' := by
  have HR := hide hr
  have HAT := hide hat
  have HB := hide hB
  have hBlt : 0 < m → B < w.heap.size := fun h => by have := block_lt_of_cell (hB 0 h); simpa using this
  clear hr hat hB
  go_enter Tryz.func121, Tryz.ntmps121
  go_wp2_with fail
  refine (unhide HAT B w).mono ?_
  rintro x w1 ⟨rfl, rfl⟩
  go_wp2_with fail
  go_loopw [0, 12] (fun b i wr => ∃ (k : Nat) (a' : Option Addr) (g' c' : Nat), k ≤ m ∧ i = .int .i64 k ∧ b = .slice a' (n + k) c' ∧ Kp [] w1 wr ∧ Row wr a' g' (zs ++ ints (d.take k))) (fun _ i _ => m - (intOf i).toNat)
  case atStart => exact ⟨0, a, g, c, by omega, rfl, rfl, Kp.refl _ _, by simpa [ints] using unhide HR⟩
  case round =>
    obtain ⟨k, a', g', c', hk, rfl, rfl, hK, hr⟩ := hrel
    have HK := hide hK
    have HR1 := hide hr
    clear hK hr
    by_cases hlt : k < m
    · have hk' : k < d.length := by omega
      have hc0 : wr.cell? ⟨B, off + k, none⟩ = some (.int .u8 ((cf d k : Nat) : Int)) := (unhide HK).cell (unhide HB k hlt) (by simp)
      go_wp2_with fail
      refine (byte_any a' g' (n + k) c' _ (zs ++ ints (d.take k)) _ (by omega) (by rw [List.length_append, hl]; simp [ints]; omega) (unhide HR1)).mono ?_
      rintro x w2 ⟨q, rfl, hq, ho, hk2⟩
      have HR2 := hide (row_of_owns ho)
      have HK2 : Hid (Kp [] w1 w2) := (unhide HK).trans hk2 (by simp)
      clear ho hk2 hc0
      go_wp2
      go_roundw
      case rel =>
        refine ⟨k + 1, some ⟨q, 0, none⟩, q, n + k + 1, by omega, by go_num, rfl, unhide HK2, ?_⟩
        rw [ints_take10 hk', ← List.append_assoc, ← by8_one10 (hb k)]
        exact unhide HR2
      case measure => simp [intOf]; omega
    · have : k = m := by omega
      subst this
      go_wp2
      go_ret
      refine ⟨a', g', c', rfl, ?_, unhide HK⟩
      have := unhide HR1
      rwa [List.take_of_length_le (by omega)] at this
end Go.Proofs.YtjdikhelabibnabGreat
