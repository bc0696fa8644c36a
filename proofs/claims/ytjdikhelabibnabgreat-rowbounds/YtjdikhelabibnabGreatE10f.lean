/-
  The parts of a layout, each by itself, taken: entry.number, low, several.
-/
import Derived.Test.YtjdikhelabibnabGreatE10d
import Derived.Test.YtjdikhelabibnabGreatE10e
namespace Go.Proofs.YtjdikhelabibnabGreat
open Go.RowKit Go.Shelf
attribute [local go_sem] Oper.semAt_some

set_option maxRecDepth 100000 in
set_option maxHeartbeats 4000000 in
theorem take_numH (atf C B off R g : Nat) (cs : Array Value) (ty : TypeId) (zs : List Int) (e : Int) (w : World) (he : Ent10 atf) (hat : AtI atf off)
    (hC : w.cell? ⟨C, 0, none⟩ = some (.func (.func atf) #[] #[])) (x0 : Int) (hx0 : cs[off]? = some (.int .i64 x0)) (hB : w.heap[B]? = some (.cells cs ty (0, 0))) (hby : Byt zs) (hR : Rd 164 w R g zs e) (hBR : B ≠ R) :
    Calls Tryz.prog 109 #[.pointer (some ⟨R, 0, none⟩), .pointer (some ⟨B, 0, none⟩), .pointer (some ⟨C, 0, none⟩)] w fun x w' => x = .returned (.tuple #[]) ∧ (B ≠ g → Rd 164 w' R g (rdZ 8 zs e) (rdE 8 zs e)) ∧
      w'.heap[B]? = some (.cells (cs.setIfInBounds off (.int .i64 (rdV 8 zs))) ty (0, 0)) ∧ Kp [R, B] w w' := by
  have HR := hide hR
  have HB := hide hB
  have HAT := hide hat
  have HY := hide hby
  have HX := hide hx0
  clear hR hat hB hby hx0
  go_enter Tryz.func109, Tryz.ntmps109
  go_wp2_with fail
  refine (unhide HAT B w).mono ?_
  rintro x w1 ⟨rfl, rfl⟩
  go_wp2_with fail
  refine (rint_any R g zs e _ (unhide HY) (unhide HR)).mono ?_
  rintro x w2 ⟨rfl, hr2, hk2⟩
  have HR2 := hide hr2
  have HK2 := hide hk2
  have HB2 := hide (hk2.heap (unhide HB) (by simpa using hBR))
  have hc2 : w2.cell? ⟨B, off, none⟩ = some (.int .i64 x0) := cell_blk (unhide HB2) (unhide HX)
  have hf2 : w2.frozen? ⟨B, off, none⟩ = false := free_of_two (unhide HB2)
  clear hr2 hk2
  go_wp2
  go_end0
  have hk3 : Kp [B] w2 (w2.setCell ⟨B, off, none⟩ (.int .i64 (rdV 8 zs))) := (Kp.refl _ _).setCell _ _ (.inl (by simp))
  refine ⟨rfl, fun hBg => (unhide HR2).keep hk3 (by simpa using hBR.symm) (by simpa using hBg.symm), heap_setCell_same _ _ _ _ _ _ (unhide HB2), ?_⟩
  exact ((unhide HK2).mono (by simp)).trans hk3 (by simp)

set_option maxRecDepth 100000 in
set_option maxHeartbeats 4000000 in
theorem take_lowH (atf C B off R g : Nat) (cs : Array Value) (ty : TypeId) (zs : List Int) (e : Int) (w : World) (he : Ent10 atf) (hat : AtI atf off)
    (hC : w.cell? ⟨C, 0, none⟩ = some (.func (.func atf) #[] #[])) (x0 : Int) (hx0 : cs[off]? = some (.int .i64 x0)) (hB : w.heap[B]? = some (.cells cs ty (0, 0))) (hby : Byt zs) (hR : Rd 164 w R g zs e) (hBR : B ≠ R) :
    Calls Tryz.prog 113 #[.pointer (some ⟨R, 0, none⟩), .pointer (some ⟨B, 0, none⟩), .pointer (some ⟨C, 0, none⟩)] w fun x w' => x = .returned (.tuple #[]) ∧ (B ≠ g → Rd 164 w' R g (rdZ 1 zs e) (rdE 1 zs e)) ∧
      w'.heap[B]? = some (.cells (cs.setIfInBounds off (.int .i64 (rdV 1 zs))) ty (0, 0)) ∧ Kp [R, B] w w' := by
  have HR := hide hR
  have HB := hide hB
  have HAT := hide hat
  have HY := hide hby
  have HX := hide hx0
  clear hR hat hB hby hx0
  go_enter Tryz.func113, Tryz.ntmps113
  go_wp2_with fail
  refine (unhide HAT B w).mono ?_
  rintro x w1 ⟨rfl, rfl⟩
  go_wp2_with fail
  refine (rbyte_any R g zs e _ (unhide HY) (unhide HR)).mono ?_
  rintro x w2 ⟨rfl, hr2, hk2⟩
  have HR2 := hide hr2
  have HK2 := hide hk2
  have HB2 := hide (hk2.heap (unhide HB) (by simpa using hBR))
  have hc2 : w2.cell? ⟨B, off, none⟩ = some (.int .i64 x0) := cell_blk (unhide HB2) (unhide HX)
  have hf2 : w2.frozen? ⟨B, off, none⟩ = false := free_of_two (unhide HB2)
  clear hr2 hk2
  go_wp2
  go_end0
  have hk3 : Kp [B] w2 (w2.setCell ⟨B, off, none⟩ (.int .i64 (rdV 1 zs))) := (Kp.refl _ _).setCell _ _ (.inl (by simp))
  refine ⟨rfl, fun hBg => (unhide HR2).keep hk3 (by simpa using hBR.symm) (by simpa using hBg.symm), heap_setCell_same _ _ _ _ _ _ (unhide HB2), ?_⟩
  exact ((unhide HK2).mono (by simp)).trans hk3 (by simp)

set_option maxRecDepth 100000 in
set_option maxHeartbeats 4000000 in
theorem take_numE (atf C B off R g : Nat) (cs : Array Value) (ty : TypeId) (zs : List Int) (e : Int) (w : World) (he : Ent10 atf) (hat : AtI atf off)
    (hC : w.cell? ⟨C, 0, none⟩ = some (.func (.func atf) #[] #[])) (x0 : Int) (hx0 : cs[off]? = some (.int .i64 x0)) (hB : w.heap[B]? = some (.cells cs ty (0, 0))) (hby : Byt zs) (hR : Rd 164 w R g zs e) (hBR : B ≠ R) :
    Calls Tryz.prog 118 #[.pointer (some ⟨R, 0, none⟩), .pointer (some ⟨B, 0, none⟩), .pointer (some ⟨C, 0, none⟩)] w fun x w' => x = .returned (.tuple #[]) ∧ (B ≠ g → Rd 164 w' R g (rdZ 8 zs e) (rdE 8 zs e)) ∧
      w'.heap[B]? = some (.cells (cs.setIfInBounds off (.int .i64 (rdV 8 zs))) ty (0, 0)) ∧ Kp [R, B] w w' := by
  have HR := hide hR
  have HB := hide hB
  have HAT := hide hat
  have HY := hide hby
  have HX := hide hx0
  clear hR hat hB hby hx0
  go_enter Tryz.func118, Tryz.ntmps118
  go_wp2_with fail
  refine (unhide HAT B w).mono ?_
  rintro x w1 ⟨rfl, rfl⟩
  go_wp2_with fail
  refine (rint_any R g zs e _ (unhide HY) (unhide HR)).mono ?_
  rintro x w2 ⟨rfl, hr2, hk2⟩
  have HR2 := hide hr2
  have HK2 := hide hk2
  have HB2 := hide (hk2.heap (unhide HB) (by simpa using hBR))
  have hc2 : w2.cell? ⟨B, off, none⟩ = some (.int .i64 x0) := cell_blk (unhide HB2) (unhide HX)
  have hf2 : w2.frozen? ⟨B, off, none⟩ = false := free_of_two (unhide HB2)
  clear hr2 hk2
  go_wp2
  go_end0
  have hk3 : Kp [B] w2 (w2.setCell ⟨B, off, none⟩ (.int .i64 (rdV 8 zs))) := (Kp.refl _ _).setCell _ _ (.inl (by simp))
  refine ⟨rfl, fun hBg => (unhide HR2).keep hk3 (by simpa using hBR.symm) (by simpa using hBg.symm), heap_setCell_same _ _ _ _ _ _ (unhide HB2), ?_⟩
  exact ((unhide HK2).mono (by simp)).trans hk3 (by simp)

set_option maxRecDepth 100000 in
set_option maxHeartbeats 4000000 in
theorem take_lowE (atf C B off R g : Nat) (cs : Array Value) (ty : TypeId) (zs : List Int) (e : Int) (w : World) (he : Ent10 atf) (hat : AtI atf off)
    (hC : w.cell? ⟨C, 0, none⟩ = some (.func (.func atf) #[] #[])) (x0 : Int) (hx0 : cs[off]? = some (.int .i64 x0)) (hB : w.heap[B]? = some (.cells cs ty (0, 0))) (hby : Byt zs) (hR : Rd 164 w R g zs e) (hBR : B ≠ R) :
    Calls Tryz.prog 116 #[.pointer (some ⟨R, 0, none⟩), .pointer (some ⟨B, 0, none⟩), .pointer (some ⟨C, 0, none⟩)] w fun x w' => x = .returned (.tuple #[]) ∧ (B ≠ g → Rd 164 w' R g (rdZ 1 zs e) (rdE 1 zs e)) ∧
      w'.heap[B]? = some (.cells (cs.setIfInBounds off (.int .i64 (rdV 1 zs))) ty (0, 0)) ∧ Kp [R, B] w w' := by
  have HR := hide hR
  have HB := hide hB
  have HAT := hide hat
  have HY := hide hby
  have HX := hide hx0
  clear hR hat hB hby hx0
  go_enter Tryz.func116, Tryz.ntmps116
  go_wp2_with fail
  refine (unhide HAT B w).mono ?_
  rintro x w1 ⟨rfl, rfl⟩
  go_wp2_with fail
  refine (rbyte_any R g zs e _ (unhide HY) (unhide HR)).mono ?_
  rintro x w2 ⟨rfl, hr2, hk2⟩
  have HR2 := hide hr2
  have HK2 := hide hk2
  have HB2 := hide (hk2.heap (unhide HB) (by simpa using hBR))
  have hc2 : w2.cell? ⟨B, off, none⟩ = some (.int .i64 x0) := cell_blk (unhide HB2) (unhide HX)
  have hf2 : w2.frozen? ⟨B, off, none⟩ = false := free_of_two (unhide HB2)
  clear hr2 hk2
  go_wp2
  go_end0
  have hk3 : Kp [B] w2 (w2.setCell ⟨B, off, none⟩ (.int .i64 (rdV 1 zs))) := (Kp.refl _ _).setCell _ _ (.inl (by simp))
  refine ⟨rfl, fun hBg => (unhide HR2).keep hk3 (by simpa using hBR.symm) (by simpa using hBg.symm), heap_setCell_same _ _ _ _ _ _ (unhide HB2), ?_⟩
  exact ((unhide HK2).mono (by simp)).trans hk3 (by simp)

set_option maxRecDepth 100000 in
set_option maxHeartbeats 8000000 in
theorem take_sevE (atf C B off m R g : Nat) (cs : Array Value) (ty : TypeId) (zs : List Int) (e : Int) (w : World) (he : Ent10 atf) (hat : AtS atf off m) (hm : m ≤ 100)
    (hC : w.cell? ⟨C, 0, none⟩ = some (.func (.func atf) #[] #[])) (hx0 : ∀ j, j < m → ∃ x0, cs[off + j]? = some (.int .u8 x0)) (hB : w.heap[B]? = some (.cells cs ty (0, 0))) (hby : Byt zs) (hR : Rd 164 w R g zs e) (hBR : B ≠ R) (hBg : B ≠ g) :
    Calls Tryz.prog 120 #[.pointer (some ⟨R, 0, none⟩), .pointer (some ⟨B, 0, none⟩), .pointer (some ⟨C, 0, none⟩)] w fun x w' => x = .returned (.tuple #[]) ∧
      Rd 164 w' R g (rdS (List.replicate m 1) (zs, e)).1 (rdS (List.replicate m 1) (zs, e)).2 ∧
      w'.heap[B]? = some (.cells (csets cs off ((rdL (List.replicate m 1) (zs, e)).map (Value.int .u8))) ty (0, 0)) ∧ Kp [R, B] w w' := by
  have HR := hide hR
  have HB := hide hB
  have HAT := hide hat
  have HY := hide hby
  have HX := hide hx0
  clear hR hat hB hby hx0
  go_enter Tryz.func120, Tryz.ntmps120
  go_wp2_with fail
  refine (unhide HAT B w).mono ?_
  rintro x w1 ⟨rfl, rfl⟩
  go_wp2_with fail
  go_loopw [12] (fun i wr => ∃ (k : Nat), k ≤ m ∧ i = .int .i64 k ∧ Kp [R, B] w1 wr ∧ Rd 164 wr R g (rdS (List.replicate k 1) (zs, e)).1 (rdS (List.replicate k 1) (zs, e)).2 ∧
    wr.heap[B]? = some (.cells (csets cs off ((rdL (List.replicate k 1) (zs, e)).map (Value.int .u8))) ty (0, 0))) (fun i _ => m - (intOf i).toNat)
  case atStart => exact ⟨0, by omega, rfl, Kp.refl _ _, unhide HR, unhide HB⟩
  case round =>
    obtain ⟨k, hk, rfl, hK, hr, hb⟩ := hrel
    have HK := hide hK
    have HR1 := hide hr
    have HB1 := hide hb
    clear hK hr hb
    by_cases hlt : k < m
    · have hy1 : Byt (rdS (List.replicate k 1) (zs, e)).1 := byt_rdS (unhide HY)
      have h2 := rdV_one hy1
      obtain ⟨V, hV⟩ : ∃ V, rdV 1 (rdS (List.replicate k 1) (zs, e)).1 = V := ⟨_, rfl⟩
      have hl1 : ((rdL (List.replicate k 1) (zs, e)).map (Value.int .u8)).length = k := by rw [List.length_map, rdL_len, List.length_replicate]
      obtain ⟨x0, hx0⟩ : ∃ x0, (csets cs off ((rdL (List.replicate k 1) (zs, e)).map (Value.int .u8)))[off + k]? = some (.int .u8 x0) := by
        obtain ⟨x0, h⟩ := unhide HX k hlt
        exact ⟨x0, by rw [csets_beyond _ _ _ _ (by omega)]; exact h⟩
      have HX0 := hide hx0
      have HV := hide hV
      have HY1 := hide hy1
      have hv1 := h2.2.1
      have hv2 := h2.2.2
      rw [hV] at hv1 hv2
      have HL1 := hide hl1
      clear hx0 h2 hy1 hl1 hV
      go_wp2_with fail
      refine (rbyte_any R g _ _ _ (unhide HY1) (unhide HR1)).mono ?_
      rintro x w2 ⟨rfl, hr2, hk2⟩
      have HR2 := hide hr2
      have HK2 := hide hk2
      have HB2 := hide (hk2.heap (unhide HB1) (by simpa using hBR))
      have hc2 : w2.cell? ⟨B, off + k, none⟩ = some (.int .u8 x0) := cell_blk (unhide HB2) (unhide HX0)
      have hf2 : w2.frozen? ⟨B, off + k, none⟩ = false := free_of_two (unhide HB2)
      rw [unhide HV]
      clear hr2 hk2
      go_wp2
      go_roundw
      case rel =>
        have hk3 : Kp [B] w2 (w2.setCell ⟨B, off + k, none⟩ (.int .u8 V)) := (Kp.refl _ _).setCell _ _ (.inl (by simp))
        refine ⟨k + 1, by omega, by go_num, ?_, ?_, ?_⟩
        · exact ((unhide HK).trans ((unhide HK2).mono (S' := [R, B]) (by simp)) (by simp)).trans hk3 (by simp)
        · rw [List.replicate_succ', rdS_app]
          exact (unhide HR2).keep hk3 (by simpa using hBR.symm) (by simpa using hBg.symm)
        · rw [List.replicate_succ', rdL_app, List.map_append]
          have e1 : (rdL [1] (rdS (List.replicate k 1) (zs, e))).map (Value.int .u8) = [.int .u8 V] := by
            show [Value.int .u8 (rdV 1 (rdS (List.replicate k 1) (zs, e)).1)] = _
            rw [unhide HV]
          rw [e1, csets_snoc, unhide HL1]
          exact heap_setCell_same _ _ _ _ _ _ (unhide HB2)
      case measure => simp [intOf]; omega
    · have : k = m := by omega
      subst this
      go_wp2
      go_end0
      exact ⟨rfl, unhide HR1, unhide HB1, unhide HK⟩

set_option maxRecDepth 100000 in
set_option maxHeartbeats 8000000 in
theorem take_sevT (atf C B off m R g : Nat) (cs : Array Value) (ty : TypeId) (zs : List Int) (e : Int) (w : World) (he : Ent10 atf) (hat : AtS atf off m) (hm : m ≤ 100)
    (hC : w.cell? ⟨C, 0, none⟩ = some (.func (.func atf) #[] #[])) (hx0 : ∀ j, j < m → ∃ x0, cs[off + j]? = some (.int .u8 x0)) (hB : w.heap[B]? = some (.cells cs ty (0, 0))) (hby : Byt zs) (hR : Rd 164 w R g zs e) (hBR : B ≠ R) (hBg : B ≠ g) :
    Calls Tryz.prog 122 #[.pointer (some ⟨R, 0, none⟩), .pointer (some ⟨B, 0, none⟩), .pointer (some ⟨C, 0, none⟩)] w fun x w' => x = .returned (.tuple #[]) ∧
      Rd 164 w' R g (rdS (List.replicate m 1) (zs, e)).1 (rdS (List.replicate m 1) (zs, e)).2 ∧
      w'.heap[B]? = some (.cells (csets cs off ((rdL (List.replicate m 1) (zs, e)).map (Value.int .u8))) ty (0, 0)) ∧ Kp [R, B] w w' := by
  have HR := hide hR
  have HB := hide hB
  have HAT := hide hat
  have HY := hide hby
  have HX := hide hx0
  clear hR hat hB hby hx0
  go_enter Tryz.func122, Tryz.ntmps122
  go_wp2_with fail
  refine (unhide HAT B w).mono ?_
  rintro x w1 ⟨rfl, rfl⟩
  go_wp2_with fail
  go_loopw [12] (fun i wr => ∃ (k : Nat), k ≤ m ∧ i = .int .i64 k ∧ Kp [R, B] w1 wr ∧ Rd 164 wr R g (rdS (List.replicate k 1) (zs, e)).1 (rdS (List.replicate k 1) (zs, e)).2 ∧
    wr.heap[B]? = some (.cells (csets cs off ((rdL (List.replicate k 1) (zs, e)).map (Value.int .u8))) ty (0, 0))) (fun i _ => m - (intOf i).toNat)
  case atStart => exact ⟨0, by omega, rfl, Kp.refl _ _, unhide HR, unhide HB⟩
  case round =>
    obtain ⟨k, hk, rfl, hK, hr, hb⟩ := hrel
    have HK := hide hK
    have HR1 := hide hr
    have HB1 := hide hb
    clear hK hr hb
    by_cases hlt : k < m
    · have hy1 : Byt (rdS (List.replicate k 1) (zs, e)).1 := byt_rdS (unhide HY)
      have h2 := rdV_one hy1
      obtain ⟨V, hV⟩ : ∃ V, rdV 1 (rdS (List.replicate k 1) (zs, e)).1 = V := ⟨_, rfl⟩
      have hl1 : ((rdL (List.replicate k 1) (zs, e)).map (Value.int .u8)).length = k := by rw [List.length_map, rdL_len, List.length_replicate]
      obtain ⟨x0, hx0⟩ : ∃ x0, (csets cs off ((rdL (List.replicate k 1) (zs, e)).map (Value.int .u8)))[off + k]? = some (.int .u8 x0) := by
        obtain ⟨x0, h⟩ := unhide HX k hlt
        exact ⟨x0, by rw [csets_beyond _ _ _ _ (by omega)]; exact h⟩
      have HX0 := hide hx0
      have HV := hide hV
      have HY1 := hide hy1
      have hv1 := h2.2.1
      have hv2 := h2.2.2
      rw [hV] at hv1 hv2
      have HL1 := hide hl1
      clear hx0 h2 hy1 hl1 hV
      go_wp2_with fail
      refine (rbyte_any R g _ _ _ (unhide HY1) (unhide HR1)).mono ?_
      rintro x w2 ⟨rfl, hr2, hk2⟩
      have HR2 := hide hr2
      have HK2 := hide hk2
      have HB2 := hide (hk2.heap (unhide HB1) (by simpa using hBR))
      have hc2 : w2.cell? ⟨B, off + k, none⟩ = some (.int .u8 x0) := cell_blk (unhide HB2) (unhide HX0)
      have hf2 : w2.frozen? ⟨B, off + k, none⟩ = false := free_of_two (unhide HB2)
      rw [unhide HV]
      clear hr2 hk2
      go_wp2
      go_roundw
      case rel =>
        have hk3 : Kp [B] w2 (w2.setCell ⟨B, off + k, none⟩ (.int .u8 V)) := (Kp.refl _ _).setCell _ _ (.inl (by simp))
        refine ⟨k + 1, by omega, by go_num, ?_, ?_, ?_⟩
        · exact ((unhide HK).trans ((unhide HK2).mono (S' := [R, B]) (by simp)) (by simp)).trans hk3 (by simp)
        · rw [List.replicate_succ', rdS_app]
          exact (unhide HR2).keep hk3 (by simpa using hBR.symm) (by simpa using hBg.symm)
        · rw [List.replicate_succ', rdL_app, List.map_append]
          have e1 : (rdL [1] (rdS (List.replicate k 1) (zs, e))).map (Value.int .u8) = [.int .u8 V] := by
            show [Value.int .u8 (rdV 1 (rdS (List.replicate k 1) (zs, e)).1)] = _
            rw [unhide HV]
          rw [e1, csets_snoc, unhide HL1]
          exact heap_setCell_same _ _ _ _ _ _ (unhide HB2)
      case measure => simp [intOf]; omega
    · have : k = m := by omega
      subst this
      go_wp2
      go_end0
      exact ⟨rfl, unhide HR1, unhide HB1, unhide HK⟩
end Go.Proofs.YtjdikhelabibnabGreat
